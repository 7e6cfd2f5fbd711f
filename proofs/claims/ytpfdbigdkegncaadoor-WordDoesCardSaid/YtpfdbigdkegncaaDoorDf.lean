/- The contract of skuaref01's shift to the right. -/
import Derived.Test.YtpfdbigdkegncaaDoorDd
import Derived.Deep.AppendLies
namespace Go.Proofs.YtpfdbigdkegncaaDoor
open Go.RowKit

/-- Moved to the right by k bits, the sign coming in. -/
def SR (bs : List Bool) (s : Bool) (k : Nat) : List Bool := (bs ++ List.replicate k s).drop k
theorem SR_zero (bs : List Bool) (s : Bool) : SR bs s 0 = bs := by simp [SR]
theorem SR_len (bs : List Bool) (s : Bool) (k : Nat) : (SR bs s k).length = bs.length := by simp [SR]
theorem SR_succ {bs : List Bool} (s : Bool) (k : Nat) (h : 1 ≤ bs.length) : SR bs s (k + 1) = (SR bs s k).drop 1 ++ [s] := by
  unfold SR
  rw [List.replicate_succ', ← List.append_assoc, List.drop_append_of_le_length (by simp; omega), List.drop_drop]
theorem val_dropN (l : List Bool) (k : Nat) (h : k ≤ l.length) : valL (l.drop k) = valL l / 2 ^ k := by
  have e : l = l.take k ++ l.drop k := (List.take_append_drop k l).symm
  have hl : (l.take k).length = k := by simp; omega
  have b := val_bd (l.take k)
  rw [hl] at b
  have hp : (2 : Int) ^ k ≠ 0 := Int.ne_of_gt (Int.pow_pos (by decide))
  conv => rhs; rw [e, val_app, hl, Int.add_mul_ediv_left _ _ hp, Int.ediv_eq_zero_of_lt b.1 b.2]
  omega
theorem SR_val (bs : List Bool) (s : Bool) (k : Nat) : valL (SR bs s k) = (valL bs + 2 ^ bs.length * (if s then 2 ^ k - 1 else 0)) / 2 ^ k := by
  unfold SR
  rw [val_dropN _ _ (by simp), val_app, val_rep]

theorem keepAl {w x : World} {o' : Obj} {p p' : Addr} {v v' : Value} (h : x.cell? p = some v ∧ x.cell? p' = some v' ∧ Below (w.heap.size + 1) (w.alloc o') x) (o : Obj) :
    (x.alloc o).cell? p = some v ∧ (x.alloc o).cell? p' = some v' ∧ Below (w.heap.size + 1) (w.alloc o') (x.alloc o) :=
  ⟨cell_old h.1 o, cell_old h.2.1 o, h.2.2.alloc (by have := h.2.2.size; simpa using this) o⟩
theorem keepGr {w x x' : World} {o' : Obj} {p p' : Addr} {v v' : Value} {row : Option Nat} (h : x.cell? p = some v ∧ x.cell? p' = some v' ∧ Below (w.heap.size + 1) (w.alloc o') x) (hg : x.grownBy x' row) (hr : ∀ k, row = some k → w.heap.size + 1 ≤ k) (hp : p.block < w.heap.size + 1) (hp' : p'.block < w.heap.size + 1) :
    x'.cell? p = some v ∧ x'.cell? p' = some v' ∧ Below (w.heap.size + 1) (w.alloc o') x' := by
  have hs : w.heap.size + 1 ≤ x.heap.size := by have := h.2.2.size; simpa using this
  have hb : Below (w.heap.size + 1) (w.alloc o') x' := h.2.2.grown hg hs hr
  have hb2 : Below (w.heap.size + 1) x x' := (Below.refl _ _).grown hg hs hr
  exact ⟨(hb2.cell hp).trans h.1, (hb2.cell hp').trans h.2.1, hb⟩

theorem own_zero {w : World} {B n g cap : Nat} {xs : List Value} (h : w.ownsRow B 4 1 (.slice (some ⟨g, 0, none⟩) (0 + n) cap) (0 + n) ([] ++ xs)) : w.ownsRow B 4 1 (.slice (some ⟨g, 0, none⟩) n cap) n xs := by
  rw [Nat.zero_add, List.nil_append] at h
  exact h

set_option maxHeartbeats 4000000 in
theorem shift_right (n : Nat) (S : Bool) (a b : Int) (m : Nat) (w : World) (hn1 : 1 < n) (hn : n ≤ 64) (ha0 : 0 ≤ a) (ha1 : a < 18446744073709551616) (hb0 : 0 ≤ b) (hb1 : b < 18446744073709551616) (hm : m = min b.toNat 64) :
    Calls Tryd.prog 41 #[.agg #[.int .i64 n, .bool S], .int .u64 a, .int .u64 b, .bool false] w fun e w' => e = .returned (.int .u64 (valL (SR (bitsR a n) (sgn S a n) m))) ∧ Below w.heap.size w w' := by
  obtain ⟨i0, hi, hz0, hz1, hz2⟩ := info_parts Tryd.info4
  have K0 := Lib.hid (start_box w n S)
  have hmb : (m : Int) ≤ b := by omega
  have hm64 : m ≤ 64 := by omega
  have hmx : (m : Int) = b ∨ m = 64 := by omega
  have HMX := Lib.hid hmx
  clear hmx hm
  have hn0 : 1 ≤ n := by omega
  generalize hsg : sgn S a n = sg
  have HSG := Lib.hid hsg
  clear hsg
  go_enter Tryd.func41, Tryd.ntmps41
  go_wp2_with fail
  refine (bits_any a n _ hn ha0 ha1).mono ?_
  rintro e w1 ⟨sl, rfl, hown, hq⟩
  rw [bits_len] at hown
  have K1 := Lib.hid (keepB K0.out (by simpa using hq))
  obtain ⟨g, cap, rfl, hg, hnc, hl, _⟩ := own_parts hown hn0
  have hgx : w.heap.size + 1 ≤ g := by have h0 := hg; simp at h0; omega
  have OWN := Lib.hid (own_weak (B := w.heap.size + 1) hown hgx)
  have LA := Lib.hid (bits_len a n)
  clear K0 hq hown hg hl
  go_wp2_with fail
  go_loopw [9, 10] (fun u i wr => ∃ g cap k : Nat, k ≤ m ∧ n ≤ cap ∧ i = .int .u64 k ∧ u = .slice (some ⟨g, 0, none⟩) n cap ∧ wr.ownsRow (w.heap.size + 1) 4 1 (.slice (some ⟨g, 0, none⟩) n cap) n ((SR (bitsR a n) sg k).map Value.bool) ∧ (wr.cell? ⟨w.heap.size, 0, none⟩ = some (.int .i64 n) ∧ wr.cell? ⟨w.heap.size, 1, none⟩ = some (.bool S) ∧ Below (w.heap.size + 1) (w.alloc (.cells #[.int .i64 n, .bool S] 23)) wr)) (fun _ i _ => m - (intOf i).toNat)
  case atStart => exact ⟨g, cap, 0, Nat.zero_le _, hnc, rfl, rfl, by rw [SR_zero]; exact OWN.out, K1.out⟩
  case round =>
    clear hnc hgx OWN K1
    obtain ⟨g, cap, k, hk, hnc, rfl, rfl, ho, b0, b1, hbr⟩ := hrel
    have hsz : w.heap.size + 1 ≤ wr.heap.size := by have := hbr.size; simpa using this
    by_cases hlt : k < m
    · have c1 : (k : Int) < b := by omega
      have c2 : (k : Int) < 64 := by omega
      have hk1 : (k : Int) + 1 < 18446744073709551616 := by omega
      have h1n : (1 : Int) ≤ (n : Int) := by omega
      have hn1c : (1 : Int) ≤ (cap : Int) := by omega
      have hcap1 : ¬ cap = 1 := by omega
      have hcap2 : ¬ (1 = cap) := by omega
      have hlx : w.heap.size < wr.heap.size := by omega
      obtain ⟨_, _, _, _, _, hll, hcells⟩ := own_parts ho hn0
      have HCE := Lib.hid hcells
      have HLL := Lib.hid hll
      have HO := Lib.hid ho
      clear hcells hll ho
      go_wp2_with fail
      have ON := Lib.hid (World.ownsRow_lit (base := w.heap.size + 1) (e := 4) (size := 1) wr #[] 0 hsz (by unfold maxLen; omega) rfl).drew
      have L1 := Lib.hid (show (((SR (bitsR a n) sg k).drop 1).map Value.bool).length = (n - 1) * 1 by simp [HLL.out])
      have L2 := Lib.hid (show ∀ j u, (((SR (bitsR a n) sg k).drop 1).map Value.bool)[j]? = some u → (wr.alloc (.cells #[] 4)).drew.cell? ((⟨g, 1, none⟩ : Addr).add j) = some u from by
        intro j u hj
        have hjn : j < n - 1 := by
          have h0 := (List.getElem?_eq_some_iff.1 hj).1
          rw [L1.out] at h0
          omega
        have hadd : (⟨g, 1, none⟩ : Addr).add j = ⟨g, 1 + j, none⟩ := by
          unfold Addr.add
          by_cases h : j = 0 <;> simp [h]
        rw [hadd]
        have hjl : 1 + j < (SR (bitsR a n) sg k).length := by rw [HLL.out]; omega
        have hc : (wr.alloc (.cells #[] 4)).drew.cell? ⟨g, 1 + j, none⟩ = some (.bool ((SR (bitsR a n) sg k).getD (1 + j) false)) := cell_old (HCE.out (1 + j) (by omega)) (.cells #[] 4)
        rw [hc, ← hj, List.getElem?_map, List.getElem?_drop, List.getD_eq_getElem?_getD, List.getElem?_eq_getElem hjl]
        rfl)
      have L3 := Lib.hid (show ∀ u ∈ ((SR (bitsR a n) sg k).drop 1).map Value.bool, u.oneCell' = true from by
        intro u hu
        obtain ⟨_, _, rfl⟩ := List.mem_map.1 hu
        rfl)
      have L4 := Lib.hid (show w.heap.size + 1 ≤ (wr.alloc (.cells #[] 4)).drew.heap.size by show _ ≤ (wr.alloc (.cells #[] 4)).heap.size; simp; omega)
      have L5 := Lib.hid (show (wr.alloc (.cells #[] 4)).drew.heap.size = wr.heap.size + 1 from World.size_alloc _ _)
      have L6 := Lib.hid (show 0 + (n - 1) ≤ maxLen by unfold maxLen; omega)
      have L7 := Lib.hid (show n - 1 + 1 ≤ maxLen by unfold maxLen; omega)
      go_region_held3 (fun w' => w'.cell? ⟨w.heap.size, 0, none⟩ = some (.int .i64 n) ∧ w'.cell? ⟨w.heap.size, 1, none⟩ = some (.bool S) ∧ Below (w.heap.size + 1) (w.alloc (.cells #[.int .i64 n, .bool S] 23)) w') (first | exact ⟨b0, b1, hbr.drew⟩ | exact keepB (by assumption) hq | exact keepAl (by assumption) _ | exact keepGr (by assumption) hgrow (fun j hj => by cases hj; omega) (by simp) (by simp))
        (first | (go_at_call 48; refine (neg_any n S _ _ hn0 hn ha0 ha1).mono ?_; rintro e w2 ⟨rfl, hq⟩; rw [HSG.out]; have OWN2 := Lib.hid (own_on OWN1.out hq); have hsz2 : w.heap.size + 1 ≤ w2.heap.size := (by have h9 := hq.size; omega)) | (refine step_append_lies _ (by rfl) _ _ _ (by rfl) (w.heap.size + 1) 4 i0 _ 1 1 Tryd.underlying55 hi hz0 hz1 hz2 rfl (by decide) _ 0 [] (by rfl) ON.out ⟨g, 1, none⟩ (n - 1) (cap - 1) (((SR (bitsR a n) sg k).drop 1).map Value.bool) (by rfl) L1.out L2.out L3.out (by omega) L6.out (by omega) L4.out (wr.heap.size + 1) L5.out ?_; intro g1 cap1 w1 hown1 hgrow hat hlt1; have hg1 : w.heap.size + 1 ≤ g1 := (hown1.lt g1 rfl).1; have hs1 : w.heap.size + 1 ≤ w1.heap.size := (by omega); have OWN1 := Lib.hid (own_zero hown1); rw [Nat.zero_add]) | (refine step_append_lies _ (by rfl) _ _ _ (by rfl) (w.heap.size + 1) 4 i0 _ 1 1 Tryd.underlying55 hi hz0 hz1 hz2 rfl (by decide) _ (n - 1) _ (by rfl) (OWN2.out.alloc _) ⟨w2.heap.size, 0, none⟩ 1 1 [.bool sg] (by rfl) (by rfl) (World.news_of_block (cs := #[.bool sg]) (t := 4) (fr := (0, 0)) (heap_last w2 _)) (by simp [Value.oneCell']) (by decide) L7.out (by omega) (by simp; omega) (w2.heap.size + 1) (by simp) ?_; intro g3 cap3 w3 hown3 hgrow hat hlt3))
      rename_i hh
      have en : n - 1 + 1 = n := by omega
      rw [en] at hown3 ⊢
      have hown4 : w3.ownsRow (w.heap.size + 1) 4 1 (.slice (some ⟨g3, 0, none⟩) n cap3) n ((SR (bitsR a n) sg (k + 1)).map Value.bool) := by
        rw [SR_succ sg k (by rw [LA.out]; exact hn0), List.map_append]
        exact hown3
      obtain ⟨_, _, hsl, _, hnc4, _, _⟩ := own_parts hown4 hn0
      have hnc3 : n ≤ cap3 := by cases hsl; exact hnc4
      have HO4 := Lib.hid hown4
      have HH := Lib.hid hh
      clear hown3 hown4 hh hgrow ON L1 L2 L3 L4 L5 L6 L7 OWN2 en hsl hnc4 HCE HO b0 b1 hbr
      go_wp2
      go_roundw
      case rel => exact ⟨g3, cap3, k + 1, by omega, hnc3, by go_num, rfl, HO4.out, HH.out⟩
      case measure => simp [intOf]; omega
    · obtain rfl : m = k := by omega
      have HO := Lib.hid ho
      clear ho hlt
      rcases HMX.out with hx | hx
      · have c1 : ¬ ((m : Int) < b) := by omega
        have c1' : decide ((m : Int) < b) = false := by simpa using c1
        clear hx
        go_wp2_with fail
        refine (value_own _ _ _ _ _ HO.out hn0 hn).mono ?_
        rintro e w4 ⟨rfl, rfl⟩
        clear b0 b1
        go_wp2
        go_ret
        exact ⟨rfl, below_box hbr⟩
      · have c2 : ¬ ((m : Int) < 64) := by omega
        have c2' : decide ((m : Int) < 64) = false := by simpa using c2
        clear hx
        by_cases c1 : (m : Int) < b
        · go_wp2_with fail
          refine (value_own _ _ _ _ _ HO.out hn0 hn).mono ?_
          rintro e w4 ⟨rfl, rfl⟩
          clear b0 b1
          go_wp2
          go_ret
          exact ⟨rfl, below_box hbr⟩
        · have c1' : decide ((m : Int) < b) = false := by simpa using c1
          go_wp2_with fail
          refine (value_own _ _ _ _ _ HO.out hn0 hn).mono ?_
          rintro e w4 ⟨rfl, rfl⟩
          clear b0 b1
          go_wp2
          go_ret
          exact ⟨rfl, below_box hbr⟩
end Go.Proofs.YtpfdbigdkegncaaDoor
