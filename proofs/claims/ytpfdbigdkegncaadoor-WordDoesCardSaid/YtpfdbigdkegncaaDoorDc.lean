/- The contract of skuaref01's each: bit by bit. -/
import Derived.Test.YtpfdbigdkegncaaDoorDb
import Derived.Test.YtpfdbigdkegncaaDoorP
import Derived.RegionTactic
namespace Go.Proofs.YtpfdbigdkegncaaDoor
open Go.RowKit

/-- The first k bits put together. -/
def mixL (f : Bool → Bool → Bool) (xs ys : List Bool) (k : Nat) : List Bool := (List.zipWith f xs ys).take k ++ xs.drop k
theorem mix_at {f : Bool → Bool → Bool} {xs ys : List Bool} {n k : Nat} (hx : xs.length = n) (hy : ys.length = n) (h : k < n) : (mixL f xs ys k).getD k false = xs.getD k false := by
  have hl : ((List.zipWith f xs ys).take k).length = k := by simp [hx, hy]; omega
  unfold mixL
  rw [List.getD_eq_getElem?_getD, List.getElem?_append_right (by omega), hl, List.getElem?_drop, List.getD_eq_getElem?_getD]
  simp
theorem mix_len {f : Bool → Bool → Bool} {xs ys : List Bool} {n k : Nat} (hx : xs.length = n) (hy : ys.length = n) (h : k ≤ n) : (mixL f xs ys k).length = n := by
  simp [mixL, hx, hy]
  omega
theorem mix_set {f : Bool → Bool → Bool} {xs ys : List Bool} {n k : Nat} (hx : xs.length = n) (hy : ys.length = n) (h : k < n) :
    ((mixL f xs ys k).map Value.bool).set k (.bool (f (xs.getD k false) (ys.getD k false))) = (mixL f xs ys (k + 1)).map Value.bool := by
  have hl : ((List.zipWith f xs ys).take k).length = k := by simp [hx, hy]; omega
  have kx : k < xs.length := by omega
  have ky : k < ys.length := by omega
  have kz : k < (List.zipWith f xs ys).length := by simp [hx, hy]; omega
  rw [← List.map_set]
  congr 1
  unfold mixL
  rw [List.set_append_right _ _ (by omega), hl, Nat.sub_self, List.drop_eq_getElem_cons kx, List.set_cons_zero, List.take_succ_eq_append_getElem kz, List.append_assoc]
  simp [List.getD_eq_getElem?_getD, kx, ky]
theorem mix_all {f : Bool → Bool → Bool} {xs ys : List Bool} {n : Nat} (hx : xs.length = n) (hy : ys.length = n) : mixL f xs ys n = List.zipWith f xs ys := by
  unfold mixL
  rw [List.take_of_length_le (by simp [hx, hy]), List.drop_of_length_le (by omega), List.append_nil]
theorem zip_len {f : Bool → Bool → Bool} {xs ys : List Bool} {n : Nat} (hx : xs.length = n) (hy : ys.length = n) : (List.zipWith f xs ys).length = n := by simp [hx, hy]

theorem val_and (n : Nat) (a b : Nat) : valL (List.zipWith (· && ·) (bitsR a n) (bitsR b n)) = (((a &&& b) % 2 ^ n : Nat) : Int) := by
  induction n generalizing a b with
  | zero => simp [bitsR, valL, Nat.mod_one]
  | succ n ih =>
    have ea : ((a : Int) / 2) = ((a / 2 : Nat) : Int) := by omega
    have eb : ((b : Int) / 2) = ((b / 2 : Nat) : Int) := by omega
    rw [bitsR, bitsR, List.zipWith_cons_cons, valL, ea, eb, ih, ← Nat.and_div_two]
    have h := Nat.and_mod_two_eq_one (a := a) (b := b)
    have hp' : (a &&& b) % 2 ^ (n + 1) = (a &&& b) % 2 + 2 * ((a &&& b) / 2 % 2 ^ n) := by
      rw [Nat.pow_succ, Nat.mul_comm, Nat.mod_mul]
    rw [hp']
    by_cases h1 : (a : Int) % 2 = 1 <;> by_cases h2 : (b : Int) % 2 = 1 <;> simp [h1, h2] <;> omega
theorem val_or (n : Nat) (a b : Nat) : valL (List.zipWith (· || ·) (bitsR a n) (bitsR b n)) = (((a ||| b) % 2 ^ n : Nat) : Int) := by
  induction n generalizing a b with
  | zero => simp [bitsR, valL, Nat.mod_one]
  | succ n ih =>
    have ea : ((a : Int) / 2) = ((a / 2 : Nat) : Int) := by omega
    have eb : ((b : Int) / 2) = ((b / 2 : Nat) : Int) := by omega
    rw [bitsR, bitsR, List.zipWith_cons_cons, valL, ea, eb, ih, ← Nat.or_div_two]
    have h := Nat.or_mod_two_eq_one (a := a) (b := b)
    have hp' : (a ||| b) % 2 ^ (n + 1) = (a ||| b) % 2 + 2 * ((a ||| b) / 2 % 2 ^ n) := by
      rw [Nat.pow_succ, Nat.mul_comm, Nat.mod_mul]
    rw [hp']
    by_cases h1 : (a : Int) % 2 = 1 <;> by_cases h2 : (b : Int) % 2 = 1 <;> simp [h1, h2] <;> omega
theorem val_xor (n : Nat) (a b : Nat) : valL (List.zipWith (· != ·) (bitsR a n) (bitsR b n)) = (((a ^^^ b) % 2 ^ n : Nat) : Int) := by
  induction n generalizing a b with
  | zero => simp [bitsR, valL, Nat.mod_one]
  | succ n ih =>
    have ea : ((a : Int) / 2) = ((a / 2 : Nat) : Int) := by omega
    have eb : ((b : Int) / 2) = ((b / 2 : Nat) : Int) := by omega
    rw [bitsR, bitsR, List.zipWith_cons_cons, valL, ea, eb, ih, ← Nat.xor_div_two]
    have h := Nat.xor_mod_two_eq_one (a := a) (b := b)
    have hp' : (a ^^^ b) % 2 ^ (n + 1) = (a ^^^ b) % 2 + 2 * ((a ^^^ b) / 2 % 2 ^ n) := by
      rw [Nat.pow_succ, Nat.mul_comm, Nat.mod_mul]
    rw [hp']
    by_cases h1 : a % 2 = 1
    · have e1 : (a : Int) % 2 = 1 := by omega
      by_cases h2 : b % 2 = 1
      · have e2 : (b : Int) % 2 = 1 := by omega
        have hx : (a ^^^ b) % 2 = 0 := by
          have : (a ^^^ b) % 2 ≠ 1 := fun hh => (h.1 hh) (by simp [h1, h2])
          omega
        have hc : (((a ^^^ b) % 2 + 2 * ((a ^^^ b) / 2 % 2 ^ n) : Nat) : Int) = (((a ^^^ b) % 2 : Nat) : Int) + 2 * (((a ^^^ b) / 2 % 2 ^ n : Nat) : Int) := by omega
        rw [hc, hx, e1, e2]
        rfl
      · have e2 : (b : Int) % 2 = 0 := by omega
        have hx : (a ^^^ b) % 2 = 1 := h.2 (by simp [h1, h2])
        have hc : (((a ^^^ b) % 2 + 2 * ((a ^^^ b) / 2 % 2 ^ n) : Nat) : Int) = (((a ^^^ b) % 2 : Nat) : Int) + 2 * (((a ^^^ b) / 2 % 2 ^ n : Nat) : Int) := by omega
        rw [hc, hx, e1, e2]
        rfl
    · have e1 : (a : Int) % 2 = 0 := by omega
      by_cases h2 : b % 2 = 1
      · have e2 : (b : Int) % 2 = 1 := by omega
        have hx : (a ^^^ b) % 2 = 1 := h.2 (by simp [h1, h2])
        have hc : (((a ^^^ b) % 2 + 2 * ((a ^^^ b) / 2 % 2 ^ n) : Nat) : Int) = (((a ^^^ b) % 2 : Nat) : Int) + 2 * (((a ^^^ b) / 2 % 2 ^ n : Nat) : Int) := by omega
        rw [hc, hx, e1, e2]
        rfl
      · have e2 : (b : Int) % 2 = 0 := by omega
        have hx : (a ^^^ b) % 2 = 0 := by
          have : (a ^^^ b) % 2 ≠ 1 := fun hh => (h.1 hh) (by simp [h1, h2])
          omega
        have hc : (((a ^^^ b) % 2 + 2 * ((a ^^^ b) / 2 % 2 ^ n) : Nat) : Int) = (((a ^^^ b) % 2 : Nat) : Int) + 2 * (((a ^^^ b) / 2 % 2 ^ n : Nat) : Int) := by omega
        rw [hc, hx, e1, e2]
        rfl
theorem own_on {w w' : World} {B n : Nat} {sl : Value} {xs : List Value} (h : w.ownsRow B 4 1 sl n xs) (hq : Below w.heap.size w w') : w'.ownsRow B 4 1 sl n xs := by
  refine ⟨h.1, ?_⟩
  rcases h.2 with h0 | ⟨g, cap, cur, h1, h2, h3, h4⟩
  · exact .inl h0
  · refine .inr ⟨g, cap, cur, h1, h2, ?_, h4⟩
    rw [hq.block g ?_]
    · exact h3
    · exact (Array.getElem?_eq_some_iff.1 h3).1
theorem own_lt {w : World} {B n g cap : Nat} {xs : List Value} (h : w.ownsRow B 4 1 (.slice (some ⟨g, 0, none⟩) n cap) n xs) : g < w.heap.size := (h.lt g rfl).2
theorem own_weak {w : World} {B B' n g cap : Nat} {xs : List Value} (h : w.ownsRow B' 4 1 (.slice (some ⟨g, 0, none⟩) n cap) n xs) (hg : B ≤ g) : w.ownsRow B 4 1 (.slice (some ⟨g, 0, none⟩) n cap) n xs := by
  refine ⟨h.1, ?_⟩
  rcases h.2 with h0 | ⟨g', cap', cur, h1, h2, h3⟩
  · exact .inl h0
  · obtain ⟨rfl, rfl⟩ : g = g' ∧ cap = cap' := by cases h1; exact ⟨rfl, rfl⟩
    exact .inr ⟨g, cap, cur, rfl, hg, h3⟩

set_option maxHeartbeats 4000000 in
theorem each_and (n : Nat) (S : Bool) (a b : Int) (w : World) (hn1 : 1 ≤ n) (hn : n ≤ 64) (ha0 : 0 ≤ a) (ha1 : a < 18446744073709551616) (hb0 : 0 ≤ b) (hb1 : b < 18446744073709551616) :
    Calls Tryd.prog 39 #[.agg #[.int .i64 n, .bool S], .string ⟨#[38]⟩, .int .u64 a, .int .u64 b] w fun e w' => e = .returned (.int .u64 (valL (List.zipWith (· && ·) (bitsR a n) (bitsR b n)))) ∧ Below w.heap.size w w' := by
  obtain ⟨b0, b1, hb⟩ := start_box w n S
  go_enter Tryd.func39, Tryd.ntmps39
  go_wp2_with fail
  go_region_held3 (fun w' => w'.cell? ⟨w.heap.size, 0, none⟩ = some (.int .i64 n) ∧ w'.cell? ⟨w.heap.size, 1, none⟩ = some (.bool S) ∧ Below (w.heap.size + 1) (w.alloc (.cells #[.int .i64 n, .bool S] 23)) w') (first | exact ⟨b0, b1, hb.drew⟩ | exact keepB (by assumption) hq)
    (first | (go_at_call 34; have HO1 := HO; refine (bits_any _ n _ hn (by assumption) (by assumption)).mono ?_; rintro e w' ⟨sl2, rfl, hown2, hq⟩; rw [bits_len] at hown2; obtain ⟨g2, cap2, rfl, hg2, hnc2, hl2, hy⟩ := own_parts hown2 hn1; have HY := Lib.hid hy; have HOX := Lib.hid (own_on HO1.out hq); clear hy hown2 hl2 HO HO1) | (go_at_call 34; refine (bits_any _ n _ hn (by assumption) (by assumption)).mono ?_; rintro e w' ⟨sl, rfl, hown, hq⟩; rw [bits_len] at hown; obtain ⟨g, cap, rfl, hg, hnc, hl, hx⟩ := own_parts hown hn1; have hgl := own_lt hown; have HO := Lib.hid hown; clear hx hown hl))
  rename_i hh
  clear b0 b1 hb
  obtain ⟨b0, b1, hb⟩ := hh
  have hgx : w.heap.size + 1 ≤ g := by have h0 := hg; simp at h0; omega
  have hgg : g < g2 := by omega
  have la := bits_len a n
  have lb := bits_len b n
  have LA := Lib.hid la
  have LB := Lib.hid lb
  have own0 := HOX.out
  have OWN0 := Lib.hid (own_weak (B := w.heap.size + 1) own0 hgx)
  clear HOX own0 la lb hg hg2
  go_wp2_with fail
  go_loopw [11] (fun i wr => ∃ k : Nat, k ≤ n ∧ i = .int .i64 k ∧ wr.ownsRow (w.heap.size + 1) 4 1 (.slice (some ⟨g, 0, none⟩) n cap) n ((mixL (· && ·) (bitsR a n) (bitsR b n) k).map Value.bool) ∧ (∀ j, j < n → wr.cell? ⟨g2, j, none⟩ = some (.bool ((bitsR b n).getD j false))) ∧ Below (w.heap.size + 1) (w.alloc (.cells #[.int .i64 n, .bool S] 23)) wr) (fun i _ => n - (intOf i).toNat)
  case atStart => exact ⟨0, Nat.zero_le _, rfl, OWN0.out, HY.out, hb⟩
  case round =>
    obtain ⟨k, hk, rfl, ho, hyy, hbr⟩ := hrel
    clear b0 b1 hb
    have b0 : wr.cell? ⟨w.heap.size, 0, none⟩ = some (.int .i64 n) := (hbr.cell (p := ⟨w.heap.size, 0, none⟩) (by simp)).trans (by simp [go_sem])
    have HYY := Lib.hid hyy
    clear hyy
    by_cases hlt : k < n
    · have hlt' : (k : Int) < (n : Int) := by omega
      have hk0 : (0 : Int) ≤ (k : Int) := by omega
      have hcell : wr.cell? ⟨g, k, none⟩ = some (.bool ((bitsR a n).getD k false)) := by
        rw [ho.cellAt k (by omega), List.getElem?_map, ← mix_at (f := (· && ·)) LA.out LB.out hlt]
        have : k < (mixL (· && ·) (bitsR a n) (bitsR b n) k).length := by rw [mix_len LA.out LB.out (by omega)]; exact hlt
        simp [this]
      have hcy := HYY.out k hlt
      have hfr := ho.frozenAt k
      have hst := (ho.stored k (.bool ((· && ·) ((bitsR a n).getD k false) ((bitsR b n).getD k false)))).1
      rw [mix_set LA.out LB.out hlt] at hst
      have hbn := hbr.setCell (p := ⟨g, k, none⟩) hgx (.bool ((· && ·) ((bitsR a n).getD k false) ((bitsR b n).getD k false)))
      have hyn : ∀ j, j < n → (wr.setCell ⟨g, k, none⟩ (.bool ((· && ·) ((bitsR a n).getD k false) ((bitsR b n).getD k false)))).cell? ⟨g2, j, none⟩ = some (.bool ((bitsR b n).getD j false)) := fun j hj =>
        (World.cell?_of_block (Below.heap_setCell _ _ _ _ (by show g2 ≠ g; omega))).trans (HYY.out j hj)
      have HYN := Lib.hid hyn
      have HST := Lib.hid hst
      have HBN := Lib.hid hbn
      clear hst hbn hyn ho HYY
      generalize (bitsR a n).getD k false = xk at *
      generalize hyk : (bitsR b n).getD k false = yk at *
      clear hyk
      cases xk <;> cases yk
      all_goals
        go_wp2
        go_roundw
        case rel => exact ⟨k + 1, by omega, by go_num, HST.out, HYN.out, HBN.out⟩
        case measure => simp [intOf]; omega
    · obtain rfl : n = k := by omega
      rw [mix_all LA.out LB.out] at ho
      have HO := Lib.hid ho
      clear ho hlt
      go_wp2_with fail
      refine (value_own _ _ _ _ _ HO.out hn1 hn).mono ?_
      rintro e w4 ⟨rfl, rfl⟩
      clear b0
      go_wp2
      go_ret
      exact ⟨rfl, below_box hbr⟩

set_option maxHeartbeats 4000000 in
theorem each_or (n : Nat) (S : Bool) (a b : Int) (w : World) (hn1 : 1 ≤ n) (hn : n ≤ 64) (ha0 : 0 ≤ a) (ha1 : a < 18446744073709551616) (hb0 : 0 ≤ b) (hb1 : b < 18446744073709551616) :
    Calls Tryd.prog 39 #[.agg #[.int .i64 n, .bool S], .string ⟨#[124]⟩, .int .u64 a, .int .u64 b] w fun e w' => e = .returned (.int .u64 (valL (List.zipWith (· || ·) (bitsR a n) (bitsR b n)))) ∧ Below w.heap.size w w' := by
  obtain ⟨b0, b1, hb⟩ := start_box w n S
  go_enter Tryd.func39, Tryd.ntmps39
  go_wp2_with fail
  go_region_held3 (fun w' => w'.cell? ⟨w.heap.size, 0, none⟩ = some (.int .i64 n) ∧ w'.cell? ⟨w.heap.size, 1, none⟩ = some (.bool S) ∧ Below (w.heap.size + 1) (w.alloc (.cells #[.int .i64 n, .bool S] 23)) w') (first | exact ⟨b0, b1, hb.drew⟩ | exact keepB (by assumption) hq)
    (first | (go_at_call 34; have HO1 := HO; refine (bits_any _ n _ hn (by assumption) (by assumption)).mono ?_; rintro e w' ⟨sl2, rfl, hown2, hq⟩; rw [bits_len] at hown2; obtain ⟨g2, cap2, rfl, hg2, hnc2, hl2, hy⟩ := own_parts hown2 hn1; have HY := Lib.hid hy; have HOX := Lib.hid (own_on HO1.out hq); clear hy hown2 hl2 HO HO1) | (go_at_call 34; refine (bits_any _ n _ hn (by assumption) (by assumption)).mono ?_; rintro e w' ⟨sl, rfl, hown, hq⟩; rw [bits_len] at hown; obtain ⟨g, cap, rfl, hg, hnc, hl, hx⟩ := own_parts hown hn1; have hgl := own_lt hown; have HO := Lib.hid hown; clear hx hown hl))
  rename_i hh
  clear b0 b1 hb
  obtain ⟨b0, b1, hb⟩ := hh
  have hgx : w.heap.size + 1 ≤ g := by have h0 := hg; simp at h0; omega
  have hgg : g < g2 := by omega
  have la := bits_len a n
  have lb := bits_len b n
  have LA := Lib.hid la
  have LB := Lib.hid lb
  have own0 := HOX.out
  have OWN0 := Lib.hid (own_weak (B := w.heap.size + 1) own0 hgx)
  clear HOX own0 la lb hg hg2
  go_wp2_with fail
  go_loopw [11] (fun i wr => ∃ k : Nat, k ≤ n ∧ i = .int .i64 k ∧ wr.ownsRow (w.heap.size + 1) 4 1 (.slice (some ⟨g, 0, none⟩) n cap) n ((mixL (· || ·) (bitsR a n) (bitsR b n) k).map Value.bool) ∧ (∀ j, j < n → wr.cell? ⟨g2, j, none⟩ = some (.bool ((bitsR b n).getD j false))) ∧ Below (w.heap.size + 1) (w.alloc (.cells #[.int .i64 n, .bool S] 23)) wr) (fun i _ => n - (intOf i).toNat)
  case atStart => exact ⟨0, Nat.zero_le _, rfl, OWN0.out, HY.out, hb⟩
  case round =>
    obtain ⟨k, hk, rfl, ho, hyy, hbr⟩ := hrel
    clear b0 b1 hb
    have b0 : wr.cell? ⟨w.heap.size, 0, none⟩ = some (.int .i64 n) := (hbr.cell (p := ⟨w.heap.size, 0, none⟩) (by simp)).trans (by simp [go_sem])
    have HYY := Lib.hid hyy
    clear hyy
    by_cases hlt : k < n
    · have hlt' : (k : Int) < (n : Int) := by omega
      have hk0 : (0 : Int) ≤ (k : Int) := by omega
      have hcell : wr.cell? ⟨g, k, none⟩ = some (.bool ((bitsR a n).getD k false)) := by
        rw [ho.cellAt k (by omega), List.getElem?_map, ← mix_at (f := (· || ·)) LA.out LB.out hlt]
        have : k < (mixL (· || ·) (bitsR a n) (bitsR b n) k).length := by rw [mix_len LA.out LB.out (by omega)]; exact hlt
        simp [this]
      have hcy := HYY.out k hlt
      have hfr := ho.frozenAt k
      have hst := (ho.stored k (.bool ((· || ·) ((bitsR a n).getD k false) ((bitsR b n).getD k false)))).1
      rw [mix_set LA.out LB.out hlt] at hst
      have hbn := hbr.setCell (p := ⟨g, k, none⟩) hgx (.bool ((· || ·) ((bitsR a n).getD k false) ((bitsR b n).getD k false)))
      have hyn : ∀ j, j < n → (wr.setCell ⟨g, k, none⟩ (.bool ((· || ·) ((bitsR a n).getD k false) ((bitsR b n).getD k false)))).cell? ⟨g2, j, none⟩ = some (.bool ((bitsR b n).getD j false)) := fun j hj =>
        (World.cell?_of_block (Below.heap_setCell _ _ _ _ (by show g2 ≠ g; omega))).trans (HYY.out j hj)
      have HYN := Lib.hid hyn
      have HST := Lib.hid hst
      have HBN := Lib.hid hbn
      clear hst hbn hyn ho HYY
      generalize (bitsR a n).getD k false = xk at *
      generalize hyk : (bitsR b n).getD k false = yk at *
      clear hyk
      cases xk <;> cases yk
      all_goals
        go_wp2
        go_roundw
        case rel => exact ⟨k + 1, by omega, by go_num, HST.out, HYN.out, HBN.out⟩
        case measure => simp [intOf]; omega
    · obtain rfl : n = k := by omega
      rw [mix_all LA.out LB.out] at ho
      have HO := Lib.hid ho
      clear ho hlt
      go_wp2_with fail
      refine (value_own _ _ _ _ _ HO.out hn1 hn).mono ?_
      rintro e w4 ⟨rfl, rfl⟩
      clear b0
      go_wp2
      go_ret
      exact ⟨rfl, below_box hbr⟩

set_option maxHeartbeats 4000000 in
theorem each_xor (n : Nat) (S : Bool) (a b : Int) (w : World) (hn1 : 1 ≤ n) (hn : n ≤ 64) (ha0 : 0 ≤ a) (ha1 : a < 18446744073709551616) (hb0 : 0 ≤ b) (hb1 : b < 18446744073709551616) :
    Calls Tryd.prog 39 #[.agg #[.int .i64 n, .bool S], .string ⟨#[94]⟩, .int .u64 a, .int .u64 b] w fun e w' => e = .returned (.int .u64 (valL (List.zipWith (· != ·) (bitsR a n) (bitsR b n)))) ∧ Below w.heap.size w w' := by
  obtain ⟨b0, b1, hb⟩ := start_box w n S
  go_enter Tryd.func39, Tryd.ntmps39
  go_wp2_with fail
  go_region_held3 (fun w' => w'.cell? ⟨w.heap.size, 0, none⟩ = some (.int .i64 n) ∧ w'.cell? ⟨w.heap.size, 1, none⟩ = some (.bool S) ∧ Below (w.heap.size + 1) (w.alloc (.cells #[.int .i64 n, .bool S] 23)) w') (first | exact ⟨b0, b1, hb.drew⟩ | exact keepB (by assumption) hq)
    (first | (go_at_call 34; have HO1 := HO; refine (bits_any _ n _ hn (by assumption) (by assumption)).mono ?_; rintro e w' ⟨sl2, rfl, hown2, hq⟩; rw [bits_len] at hown2; obtain ⟨g2, cap2, rfl, hg2, hnc2, hl2, hy⟩ := own_parts hown2 hn1; have HY := Lib.hid hy; have HOX := Lib.hid (own_on HO1.out hq); clear hy hown2 hl2 HO HO1) | (go_at_call 34; refine (bits_any _ n _ hn (by assumption) (by assumption)).mono ?_; rintro e w' ⟨sl, rfl, hown, hq⟩; rw [bits_len] at hown; obtain ⟨g, cap, rfl, hg, hnc, hl, hx⟩ := own_parts hown hn1; have hgl := own_lt hown; have HO := Lib.hid hown; clear hx hown hl))
  rename_i hh
  clear b0 b1 hb
  obtain ⟨b0, b1, hb⟩ := hh
  have hgx : w.heap.size + 1 ≤ g := by have h0 := hg; simp at h0; omega
  have hgg : g < g2 := by omega
  have la := bits_len a n
  have lb := bits_len b n
  have LA := Lib.hid la
  have LB := Lib.hid lb
  have own0 := HOX.out
  have OWN0 := Lib.hid (own_weak (B := w.heap.size + 1) own0 hgx)
  clear HOX own0 la lb hg hg2
  go_wp2_with fail
  go_loopw [11] (fun i wr => ∃ k : Nat, k ≤ n ∧ i = .int .i64 k ∧ wr.ownsRow (w.heap.size + 1) 4 1 (.slice (some ⟨g, 0, none⟩) n cap) n ((mixL (· != ·) (bitsR a n) (bitsR b n) k).map Value.bool) ∧ (∀ j, j < n → wr.cell? ⟨g2, j, none⟩ = some (.bool ((bitsR b n).getD j false))) ∧ Below (w.heap.size + 1) (w.alloc (.cells #[.int .i64 n, .bool S] 23)) wr) (fun i _ => n - (intOf i).toNat)
  case atStart => exact ⟨0, Nat.zero_le _, rfl, OWN0.out, HY.out, hb⟩
  case round =>
    obtain ⟨k, hk, rfl, ho, hyy, hbr⟩ := hrel
    clear b0 b1 hb
    have b0 : wr.cell? ⟨w.heap.size, 0, none⟩ = some (.int .i64 n) := (hbr.cell (p := ⟨w.heap.size, 0, none⟩) (by simp)).trans (by simp [go_sem])
    have HYY := Lib.hid hyy
    clear hyy
    by_cases hlt : k < n
    · have hlt' : (k : Int) < (n : Int) := by omega
      have hk0 : (0 : Int) ≤ (k : Int) := by omega
      have hcell : wr.cell? ⟨g, k, none⟩ = some (.bool ((bitsR a n).getD k false)) := by
        rw [ho.cellAt k (by omega), List.getElem?_map, ← mix_at (f := (· != ·)) LA.out LB.out hlt]
        have : k < (mixL (· != ·) (bitsR a n) (bitsR b n) k).length := by rw [mix_len LA.out LB.out (by omega)]; exact hlt
        simp [this]
      have hcy := HYY.out k hlt
      have hfr := ho.frozenAt k
      have hst := (ho.stored k (.bool ((· != ·) ((bitsR a n).getD k false) ((bitsR b n).getD k false)))).1
      rw [mix_set LA.out LB.out hlt] at hst
      have hbn := hbr.setCell (p := ⟨g, k, none⟩) hgx (.bool ((· != ·) ((bitsR a n).getD k false) ((bitsR b n).getD k false)))
      have hyn : ∀ j, j < n → (wr.setCell ⟨g, k, none⟩ (.bool ((· != ·) ((bitsR a n).getD k false) ((bitsR b n).getD k false)))).cell? ⟨g2, j, none⟩ = some (.bool ((bitsR b n).getD j false)) := fun j hj =>
        (World.cell?_of_block (Below.heap_setCell _ _ _ _ (by show g2 ≠ g; omega))).trans (HYY.out j hj)
      have HYN := Lib.hid hyn
      have HST := Lib.hid hst
      have HBN := Lib.hid hbn
      clear hst hbn hyn ho HYY
      generalize (bitsR a n).getD k false = xk at *
      generalize hyk : (bitsR b n).getD k false = yk at *
      clear hyk
      cases xk <;> cases yk
      all_goals
        go_wp2_with fail
        go_region
        go_wp2
        go_roundw
        case rel => exact ⟨k + 1, by omega, by go_num, HST.out, HYN.out, HBN.out.drew⟩
        case measure => simp [intOf]; omega
    · obtain rfl : n = k := by omega
      rw [mix_all LA.out LB.out] at ho
      have HO := Lib.hid ho
      clear ho hlt
      go_wp2_with fail
      refine (value_own _ _ _ _ _ HO.out hn1 hn).mono ?_
      rintro e w4 ⟨rfl, rfl⟩
      clear b0
      go_wp2
      go_ret
      exact ⟨rfl, below_box hbr⟩
end Go.Proofs.YtpfdbigdkegncaaDoor
