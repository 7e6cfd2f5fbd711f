/- The contract of skuaref01's Turn. -/
import Derived.Test.YtpfdbigdkegncaaDoorTa
import Derived.Test.YtpfdbigdkegncaaDoorX
import Derived.Test.YtpfdbigdkegncaaDoorP
namespace Go.Proofs.YtpfdbigdkegncaaDoor
open Go.RowKit

/-- The first k bits turned. -/
def flipL (bs : List Bool) (k : Nat) : List Bool := (bs.take k).map (!·) ++ bs.drop k
theorem flip_len (bs : List Bool) (k : Nat) : (flipL bs k).length = bs.length := by simp [flipL]; omega
theorem flip_at {bs : List Bool} {k : Nat} (h : k < bs.length) : (flipL bs k).getD k false = bs.getD k false := by
  have hl : ((bs.take k).map (!·)).length = k := by simp; omega
  unfold flipL
  rw [List.getD_eq_getElem?_getD, List.getElem?_append_right (by omega), hl, List.getElem?_drop, List.getD_eq_getElem?_getD]
  simp
theorem flip_set {bs : List Bool} {k : Nat} (h : k < bs.length) : ((flipL bs k).map Value.bool).set k (.bool (!(bs.getD k false))) = (flipL bs (k + 1)).map Value.bool := by
  have hl : ((bs.take k).map (!·)).length = k := by simp; omega
  rw [← List.map_set]
  congr 1
  unfold flipL
  rw [List.set_append_right _ _ (by omega), hl, Nat.sub_self, List.drop_eq_getElem_cons h, List.set_cons_zero, List.take_succ_eq_append_getElem h, List.map_append, List.append_assoc]
  simp [List.getD_eq_getElem?_getD, h]
theorem flip_all {bs : List Bool} {n : Nat} (h : bs.length = n) : flipL bs n = bs.map (!·) := by
  subst h
  simp [flipL]
theorem val_not (bs : List Bool) : valL (bs.map (!·)) = 2 ^ bs.length - 1 - valL bs := by
  induction bs with
  | nil => simp [valL]
  | cons b r ih =>
    rw [List.map_cons, valL, ih, valL, List.length_cons, Int.pow_succ]
    cases b <;> simp <;> omega

theorem box_cells {w w' : World} {W : Int} {S : Bool} (hb : Below (w.heap.size + 1) (w.alloc (.cells #[.int .i64 W, .bool S] 23)) w') :
    w'.cell? ⟨w.heap.size, 0, none⟩ = some (.int .i64 W) ∧ w'.cell? ⟨w.heap.size, 1, none⟩ = some (.bool S) :=
  ⟨(hb.cell (p := ⟨w.heap.size, 0, none⟩) (by simp)).trans (cell_new _ _ _ 0), (hb.cell (p := ⟨w.heap.size, 1, none⟩) (by simp)).trans (cell_new _ _ _ 1)⟩

set_option maxHeartbeats 2000000 in
theorem rturn_not (n : Nat) (S : Bool) (a : Int) (w : World) (hn1 : 1 ≤ n) (hn : n ≤ 64) (hr : rt n S = true) (hs : (1 : Int) < n) (ha0 : 0 ≤ a) (ha1 : a < 18446744073709551616) :
    Calls Tryd.prog 28 #[.agg #[.int .i64 n, .bool S], .string ⟨#[126]⟩, .int .u64 a] w fun e w' => e = .returned (.tuple #[.int .u64 (valL ((bitsR a n).map (!·))), .int .i64 0]) ∧ Below w.heap.size w w' := by
  have HR := Lib.hid hr
  go_enter Tryd.func28, Tryd.ntmps28
  go_wp2_with fail
  refine (rright_any _ _ _).mono ?_
  rintro e w1 ⟨rfl, hb⟩
  have hbx : Below (w.heap.size + 1) (w.alloc (.cells #[.int .i64 n, .bool S] 23)) w1 := by simpa using hb
  obtain ⟨hc0, hc1⟩ := box_cells hbx
  clear hb
  go_wp2_with fail
  refine (bits_any a n _ hn ha0 ha1).mono ?_
  rintro e w2 ⟨sl, rfl, hown, hb2⟩
  rw [bits_len] at hown
  obtain ⟨g, cap, rfl, hg, hnc, hl, _⟩ := own_parts hown hn1
  have hsz1 : w.heap.size + 1 ≤ w1.heap.size := by have := hbx.size; simpa using this
  have hbx2 : Below (w.heap.size + 1) (w.alloc (.cells #[.int .i64 n, .bool S] 23)) w2 := hbx.trans (hb2.mono hsz1)
  have hown2 : w2.ownsRow (w.heap.size + 1) 4 1 (.slice (some ⟨g, 0, none⟩) n cap) n ((flipL (bitsR a n) 0).map Value.bool) := by
    refine ⟨hown.1, ?_⟩
    rcases hown.2 with h | ⟨g', cap', cur, h1, h2, h3⟩
    · exact .inl h
    · exact .inr ⟨g', cap', cur, h1, by omega, h3⟩
  have hgx : w.heap.size + 1 ≤ g := by omega
  have HL := Lib.hid hl
  clear hc0 hc1 hbx hb2 hown hg hsz1 hl hr
  obtain ⟨hc0, hc1⟩ := box_cells hbx2
  go_wp2_with fail
  clear hc0 hc1
  go_loopw [9] (fun i wr => ∃ k : Nat, k ≤ n ∧ i = .int .i64 k ∧ wr.ownsRow (w.heap.size + 1) 4 1 (.slice (some ⟨g, 0, none⟩) n cap) n ((flipL (bitsR a n) k).map Value.bool) ∧ Below (w.heap.size + 1) (w.alloc (.cells #[.int .i64 n, .bool S] 23)) wr) (fun i _ => n - (intOf i).toNat)
  case atStart => exact ⟨0, Nat.zero_le _, rfl, hown2, hbx2⟩
  case round =>
    obtain ⟨k, hk, rfl, ho, hbr⟩ := hrel
    clear hown2 hbx2
    obtain ⟨hc0, hc1⟩ := box_cells hbr
    by_cases hlt : k < n
    · have hkl : k < (bitsR a n).length := by rw [HL.out]; exact hlt
      have hcell := ho.cellAt k (by omega)
      have hcell' : wr.cell? ⟨g, k, none⟩ = some (.bool ((bitsR a n).getD k false)) := by
        rw [hcell, List.getElem?_map, ← flip_at hkl]
        have : k < (flipL (bitsR a n) k).length := by rw [flip_len]; exact hkl
        simp [this]
      have hfr := ho.frozenAt k
      have hst := ho.stored k (.bool (!((bitsR a n).getD k false)))
      rw [flip_set hkl] at hst
      have hbn := hbr.setCell (p := ⟨g, k, none⟩) hgx (.bool (!((bitsR a n).getD k false)))
      generalize (bitsR a n).getD k false = bb at *
      obtain ⟨ho2, _⟩ := hst
      have HO2 := Lib.hid ho2
      have HBN := Lib.hid hbn
      clear hcell ho ho2 hbn hkl
      go_wp2
      go_roundw
      case rel => exact ⟨k + 1, by omega, by go_num, HO2.out, HBN.out⟩
      case measure => simp [intOf]; omega
    · obtain rfl : k = n := by omega
      rw [flip_all HL.out] at ho
      clear hlt
      go_wp2_with fail
      refine (value_own _ _ _ _ _ ho hn1 hn).mono ?_
      rintro e w4 ⟨rfl, rfl⟩
      clear hc0 hc1
      go_wp2
      go_ret2
      exact ⟨rfl, below_box hbr⟩

set_option maxHeartbeats 2000000 in
theorem rturn_bang (n : Nat) (S : Bool) (a : Int) (w : World) (hn1 : 1 ≤ n) (hn : n ≤ 64) (hr : rt n S = true) (hs : ((n : Int) == 1) = true) (ha0 : 0 ≤ a) (ha1 : a < 18446744073709551616) :
    Calls Tryd.prog 28 #[.agg #[.int .i64 n, .bool S], .string ⟨#[33]⟩, .int .u64 a] w fun e w' => e = .returned (.tuple #[.int .u64 (valL ((bitsR a n).map (!·))), .int .i64 0]) ∧ Below w.heap.size w w' := by
  have HR := Lib.hid hr
  go_enter Tryd.func28, Tryd.ntmps28
  go_wp2_with fail
  refine (rright_any _ _ _).mono ?_
  rintro e w1 ⟨rfl, hb⟩
  have hbx : Below (w.heap.size + 1) (w.alloc (.cells #[.int .i64 n, .bool S] 23)) w1 := by simpa using hb
  obtain ⟨hc0, hc1⟩ := box_cells hbx
  clear hb
  go_wp2_with fail
  refine (bits_any a n _ hn ha0 ha1).mono ?_
  rintro e w2 ⟨sl, rfl, hown, hb2⟩
  rw [bits_len] at hown
  obtain ⟨g, cap, rfl, hg, hnc, hl, _⟩ := own_parts hown hn1
  have hsz1 : w.heap.size + 1 ≤ w1.heap.size := by have := hbx.size; simpa using this
  have hbx2 : Below (w.heap.size + 1) (w.alloc (.cells #[.int .i64 n, .bool S] 23)) w2 := hbx.trans (hb2.mono hsz1)
  have hown2 : w2.ownsRow (w.heap.size + 1) 4 1 (.slice (some ⟨g, 0, none⟩) n cap) n ((flipL (bitsR a n) 0).map Value.bool) := by
    refine ⟨hown.1, ?_⟩
    rcases hown.2 with h | ⟨g', cap', cur, h1, h2, h3⟩
    · exact .inl h
    · exact .inr ⟨g', cap', cur, h1, by omega, h3⟩
  have hgx : w.heap.size + 1 ≤ g := by omega
  have HL := Lib.hid hl
  clear hc0 hc1 hbx hb2 hown hg hsz1 hl hr
  obtain ⟨hc0, hc1⟩ := box_cells hbx2
  go_wp2_with fail
  clear hc0 hc1
  go_loopw [9] (fun i wr => ∃ k : Nat, k ≤ n ∧ i = .int .i64 k ∧ wr.ownsRow (w.heap.size + 1) 4 1 (.slice (some ⟨g, 0, none⟩) n cap) n ((flipL (bitsR a n) k).map Value.bool) ∧ Below (w.heap.size + 1) (w.alloc (.cells #[.int .i64 n, .bool S] 23)) wr) (fun i _ => n - (intOf i).toNat)
  case atStart => exact ⟨0, Nat.zero_le _, rfl, hown2, hbx2⟩
  case round =>
    obtain ⟨k, hk, rfl, ho, hbr⟩ := hrel
    clear hown2 hbx2
    obtain ⟨hc0, hc1⟩ := box_cells hbr
    by_cases hlt : k < n
    · have hkl : k < (bitsR a n).length := by rw [HL.out]; exact hlt
      have hcell := ho.cellAt k (by omega)
      have hcell' : wr.cell? ⟨g, k, none⟩ = some (.bool ((bitsR a n).getD k false)) := by
        rw [hcell, List.getElem?_map, ← flip_at hkl]
        have : k < (flipL (bitsR a n) k).length := by rw [flip_len]; exact hkl
        simp [this]
      have hfr := ho.frozenAt k
      have hst := ho.stored k (.bool (!((bitsR a n).getD k false)))
      rw [flip_set hkl] at hst
      have hbn := hbr.setCell (p := ⟨g, k, none⟩) hgx (.bool (!((bitsR a n).getD k false)))
      generalize (bitsR a n).getD k false = bb at *
      obtain ⟨ho2, _⟩ := hst
      have HO2 := Lib.hid ho2
      have HBN := Lib.hid hbn
      clear hcell ho ho2 hbn hkl
      go_wp2
      go_roundw
      case rel => exact ⟨k + 1, by omega, by go_num, HO2.out, HBN.out⟩
      case measure => simp [intOf]; omega
    · obtain rfl : k = n := by omega
      rw [flip_all HL.out] at ho
      clear hlt
      go_wp2_with fail
      refine (value_own _ _ _ _ _ ho hn1 hn).mono ?_
      rintro e w4 ⟨rfl, rfl⟩
      clear hc0 hc1
      go_wp2
      go_ret2
      exact ⟨rfl, below_box hbr⟩
end Go.Proofs.YtpfdbigdkegncaaDoor
