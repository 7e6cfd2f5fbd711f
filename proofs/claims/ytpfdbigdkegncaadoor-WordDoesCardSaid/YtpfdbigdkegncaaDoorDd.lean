/- The contract of skuaref01's shift. -/
import Derived.Test.YtpfdbigdkegncaaDoorDc
import Derived.Test.YtpfdbigdkegncaaDoorCa
namespace Go.Proofs.YtpfdbigdkegncaaDoor
open Go.RowKit

/-- Moved to the left by k bits. -/
def SL (bs : List Bool) (n k : Nat) : List Bool := (List.replicate k false ++ bs).take n
theorem SL_zero {bs : List Bool} {n : Nat} (h : bs.length = n) : SL bs n 0 = bs := by
  unfold SL
  rw [List.replicate_zero, List.nil_append, List.take_of_length_le (by omega)]
theorem SL_len {bs : List Bool} {n k : Nat} (h : bs.length = n) : (SL bs n k).length = n := by
  simp [SL, h]
theorem SL_succ {bs : List Bool} {n k : Nat} (hn : 1 ≤ n) : SL bs n (k + 1) = false :: (SL bs n k).take (n - 1) := by
  obtain ⟨m, rfl⟩ : ∃ m, n = m + 1 := ⟨n - 1, by omega⟩
  unfold SL
  rw [List.replicate_succ, List.cons_append, List.take_succ_cons, List.take_take, Nat.add_sub_cancel, Nat.min_eq_left (by omega)]
theorem SL_val {bs : List Bool} {n k : Nat} (h : bs.length = n) : valL (SL bs n k) = (2 ^ k * valL bs) % 2 ^ n := by
  unfold SL
  rw [val_take _ _ (by simp [h]), val_app, val_rep, List.length_replicate]
  simp
theorem row_cell (g j : Nat) : (⟨g, 0, none⟩ : Addr).add j = ⟨g, j, none⟩ := by
  unfold Addr.add
  by_cases h : j = 0 <;> simp [h]

set_option maxHeartbeats 4000000 in
theorem shift_left (n : Nat) (S : Bool) (a b : Int) (m : Nat) (w : World) (hn1 : 1 < n) (hn : n ≤ 64) (ha0 : 0 ≤ a) (ha1 : a < 18446744073709551616) (hb0 : 0 ≤ b) (hb1 : b < 18446744073709551616) (hm : m = min b.toNat 64) :
    Calls Tryd.prog 41 #[.agg #[.int .i64 n, .bool S], .int .u64 a, .int .u64 b, .bool true] w fun e w' => e = .returned (.int .u64 (valL (SL (bitsR a n) n m))) ∧ Below w.heap.size w w' := by
  obtain ⟨i0, hi, hz0, hz1, hz2⟩ := info_parts Tryd.info4
  have K0 := Lib.hid (start_box w n S)
  have hmb : (m : Int) ≤ b := by omega
  have hm64 : m ≤ 64 := by omega
  have hmx : (m : Int) = b ∨ m = 64 := by omega
  have HMX := Lib.hid hmx
  clear hmx hm
  have hn0 : 1 ≤ n := by omega
  go_enter Tryd.func41, Tryd.ntmps41
  go_wp2_with fail
  refine (bits_any a n _ hn ha0 ha1).mono ?_
  rintro e w1 ⟨sl, rfl, hown, hq⟩
  rw [bits_len] at hown
  have K1 := Lib.hid (keepB K0.out (by simpa using hq))
  obtain ⟨g, cap, rfl, hg, hnc, hl, _⟩ := own_parts hown hn0
  have hgx : w.heap.size + 1 ≤ g := by have h0 := hg; simp at h0; omega
  have OWN := Lib.hid (own_weak (B := w.heap.size + 1) hown hgx)
  have LA := Lib.hid (bits_len a n)
  clear K0 hq hown hg hl
  go_wp2_with fail
  go_loopw [9, 10] (fun u i wr => ∃ g cap k : Nat, k ≤ m ∧ n ≤ cap ∧ i = .int .u64 k ∧ u = .slice (some ⟨g, 0, none⟩) n cap ∧ wr.ownsRow (w.heap.size + 1) 4 1 (.slice (some ⟨g, 0, none⟩) n cap) n ((SL (bitsR a n) n k).map Value.bool) ∧ (wr.cell? ⟨w.heap.size, 0, none⟩ = some (.int .i64 n) ∧ wr.cell? ⟨w.heap.size, 1, none⟩ = some (.bool S) ∧ Below (w.heap.size + 1) (w.alloc (.cells #[.int .i64 n, .bool S] 23)) wr)) (fun _ i _ => m - (intOf i).toNat)
  case atStart => exact ⟨g, cap, 0, Nat.zero_le _, hnc, rfl, rfl, by rw [SL_zero LA.out]; exact OWN.out, K1.out⟩
  case round =>
    clear hnc hgx OWN K1
    obtain ⟨g, cap, k, hk, hnc, rfl, rfl, ho, b0, b1, hbr⟩ := hrel
    have hsz : w.heap.size + 1 ≤ wr.heap.size := by have := hbr.size; simpa using this
    by_cases hlt : k < m
    · have c1 : (k : Int) < b := by omega
      have c2 : (k : Int) < 64 := by omega
      have hk1 : (k : Int) + 1 < 18446744073709551616 := by omega
      have hidx : ((n : Int) - 1).toNat = n - 1 := by omega
      have h1n : (1 : Int) ≤ (n : Int) := by omega
      have hn1c : (n : Int) - 1 ≤ (cap : Int) := by omega
      have hlx : w.heap.size < wr.heap.size := by omega
      have ON := Lib.hid (World.ownsRow_lit (base := w.heap.size + 1) (e := 4) (size := 1) wr #[.bool false] 1 hsz (by unfold maxLen; omega) rfl)
      obtain ⟨_, _, _, _, _, hll, hcells⟩ := own_parts ho hn0
      have HCE := Lib.hid hcells
      have HLL := Lib.hid hll
      clear hcells hll
      go_wp2_with (at_builtin; refine wpList_append_own _ rfl _ _ 55 rfl (w.heap.size + 1) 4 i0 (.bool false) 1 1 Tryd.underlying55 hi hz0 hz1 hz2 rfl (by decide) _ _ _ rfl ON.out ⟨g, 0, none⟩ (n - 1) cap (((SL (bitsR a n) n k).take (n - 1)).map Value.bool) ?c0 ?c6 ?c1 ?c2 ?c3 ?c4 ?c5 ?_)
      case c6 => rw [HLL.out]; omega
      case c1 =>
        intro j u hj
        have hjn : j < n - 1 := by
          have h0 := (List.getElem?_eq_some_iff.1 hj).1
          simp at h0
          omega
        have hc := cell_old (HCE.out j (by omega)) (.cells #[.bool false] 4)
        rw [List.getElem?_take, if_pos hjn, List.getElem?_map] at hj
        have hjl : j < (SL (bitsR a n) n k).length := by rw [HLL.out]; omega
        simp [hjl] at hj
        subst hj
        simpa [List.getD_eq_getElem?_getD, hjl] using hc
      case c2 => intro u hu; obtain ⟨_, _, rfl⟩ := List.mem_map.1 (List.mem_of_mem_take hu); rfl
      case c3 => unfold maxLen; omega
      case c4 => omega
      case c5 => first | omega | (simp; omega)
      intro v' w2 hown' hgrow _
      have hs2 : wr.heap.size + 1 ≤ w2.heap.size := by have := hgrow.size; simpa using this
      have hb2 : Below (w.heap.size + 1) (w.alloc (.cells #[.int .i64 n, .bool S] 23)) w2 := (hbr.alloc hsz _).grown hgrow (by simp; omega) (fun j hj => by cases hj; exact hsz)
      have hown2 : w2.ownsRow (w.heap.size + 1) 4 1 v' n ((SL (bitsR a n) n (k + 1)).map Value.bool) := by
        rw [SL_succ hn0, List.map_cons, List.map_take]
        exact hown'
      obtain ⟨g3, cap3, rfl, _, hnc3, _, _⟩ := own_parts hown2 hn0
      have HO2 := Lib.hid hown2
      have bb0 : w2.cell? ⟨w.heap.size, 0, none⟩ = some (.int .i64 n) := (hb2.cell (p := ⟨w.heap.size, 0, none⟩) (by simp)).trans (by simp [go_sem])
      have bb1 : w2.cell? ⟨w.heap.size, 1, none⟩ = some (.bool S) := (hb2.cell (p := ⟨w.heap.size, 1, none⟩) (by simp)).trans (by simp [go_sem])
      clear hown' hown2 hgrow ho ON HCE b0 b1 hbr
      go_wp2
      go_roundw
      case rel => exact ⟨g3, cap3, k + 1, by omega, hnc3, by go_num, rfl, HO2.out, bb0, bb1, hb2⟩
      case measure => simp [intOf]; omega
    · obtain rfl : m = k := by omega
      have HO := Lib.hid ho
      clear ho hlt
      rcases HMX.out with hx | hx
      · have c1 : ¬ ((m : Int) < b) := by omega
        have c1' : decide ((m : Int) < b) = false := by simpa using c1
        clear hx
        go_wp2_with fail
        refine (value_own _ _ _ _ _ HO.out hn0 hn).mono ?_
        rintro e w4 ⟨rfl, rfl⟩
        clear b0 b1
        go_wp2
        go_ret
        exact ⟨rfl, below_box hbr⟩
      · have c2 : ¬ ((m : Int) < 64) := by omega
        have c2' : decide ((m : Int) < 64) = false := by simpa using c2
        clear hx
        by_cases c1 : (m : Int) < b
        · go_wp2_with fail
          refine (value_own _ _ _ _ _ HO.out hn0 hn).mono ?_
          rintro e w4 ⟨rfl, rfl⟩
          clear b0 b1
          go_wp2
          go_ret
          exact ⟨rfl, below_box hbr⟩
        · have c1' : decide ((m : Int) < b) = false := by simpa using c1
          go_wp2_with fail
          refine (value_own _ _ _ _ _ HO.out hn0 hn).mono ?_
          rintro e w4 ⟨rfl, rfl⟩
          clear b0 b1
          go_wp2
          go_ret
          exact ⟨rfl, below_box hbr⟩
end Go.Proofs.YtpfdbigdkegncaaDoor
