/- The contracts of skuaref01's Value and Norm. -/
import Derived.Test.YtpfdbigdkegncaaDoorV
namespace Go.Proofs.YtpfdbigdkegncaaDoor
open Go.RowKit

theorem two_mono {a b : Nat} (h : a ≤ b) : (2 : Int) ^ a ≤ 2 ^ b := by
  obtain ⟨c, rfl⟩ := Nat.exists_eq_add_of_le h
  have h0 : (0 : Int) < 2 ^ a := Int.pow_pos (by decide)
  have h1 : (1 : Int) ≤ 2 ^ c := Int.pow_pos (by decide)
  have := Int.mul_le_mul_of_nonneg_left h1 (Int.le_of_lt h0)
  rw [Int.pow_add]
  omega
theorem val_drop (bs : List Bool) (j : Nat) (h : j < bs.length) : valL (bs.drop j) = (if bs.getD j false then 1 else 0) + 2 * valL (bs.drop (j + 1)) := by
  rw [List.drop_eq_getElem_cons h, valL]
  simp [List.getD_eq_getElem?_getD, h]
theorem val_half {bs : List Bool} {j : Nat} (h : j < bs.length) (hn : bs.length ≤ 64) : 0 ≤ valL (bs.drop (j + 1)) ∧ valL (bs.drop (j + 1)) < 9223372036854775808 := by
  have := val_bd (bs.drop (j + 1))
  refine ⟨this.1, Int.lt_of_lt_of_le this.2 ?_⟩
  have h1 : (bs.drop (j + 1)).length ≤ 63 := by rw [List.length_drop]; omega
  have : (2 : Int) ^ (bs.drop (j + 1)).length ≤ 2 ^ 63 := two_mono h1
  exact this

set_option maxHeartbeats 1000000 in
theorem value_at (g n cap : Nat) (bs : List Bool) (w : World) (hl : bs.length = n) (hn : n ≤ 64) (hc : ∀ j, j < n → w.cell? ⟨g, j, none⟩ = some (.bool (bs.getD j false))) :
    Calls Tryd.prog 33 #[.slice (some ⟨g, 0, none⟩) n cap] w fun e w' => e = .returned (.int .u64 (valL bs)) ∧ w = w' := by
  have HC := Lib.hid hc
  have HL := Lib.hid hl
  clear hc hl
  go_enter Tryd.func33, Tryd.ntmps33
  go_wp2
  go_loop [3, 4] (fun x i => ∃ k : Nat, k ≤ n ∧ i = .int .i64 ((k : Int) - 1) ∧ x = .int .u64 (valL (bs.drop k))) (fun _ i => (intOf i + 1).toNat)
  case atStart => exact ⟨n, Nat.le_refl _, rfl, by rw [List.drop_of_length_le (by rw [HL.out]; exact Nat.le_refl _)]; rfl⟩
  case round =>
    obtain ⟨k, hk, rfl, rfl⟩ := hrel
    cases k with
    | zero =>
      go_wp2
      go_ret
      exact ⟨rfl, rfl⟩
    | succ j =>
      have hj : j < n := by omega
      have hjl : j < bs.length := by rw [HL.out]; exact hj
      have hv := val_drop bs j hjl
      obtain ⟨b0, b1⟩ := val_half hjl (by rw [HL.out]; exact hn)
      have c := HC.out j hj
      generalize bs.getD j false = b at *
      generalize valL (bs.drop (j + 1)) = x at *
      have HV := Lib.hid hv
      clear hv hjl
      have e1 : ((j + 1 : Nat) : Int) - 1 = (j : Int) := by omega
      rw [e1]
      clear e1
      cases b
      · go_wp2
        go_round
        case rel => exact ⟨j, by omega, rfl, by rw [HV.out]; simp⟩
        case measure => simp [intOf]
      · go_wp2
        go_round
        case rel => exact ⟨j, by omega, rfl, by rw [HV.out]; simp; omega⟩
        case measure => simp [intOf]

/-- An owned row of at least one bool: where it lies, and its cells. -/
theorem own_parts {w : World} {B n : Nat} {sl : Value} {bs : List Bool} (h : w.ownsRow B 4 1 sl n (bs.map Value.bool)) (hn : 1 ≤ n) :
    ∃ g cap, sl = .slice (some ⟨g, 0, none⟩) n cap ∧ B ≤ g ∧ n ≤ cap ∧ bs.length = n ∧ ∀ j, j < n → w.cell? ⟨g, j, none⟩ = some (.bool (bs.getD j false)) := by
  have hlen : bs.length = n := by have := h.1; simpa using this
  have h' := h
  rcases h.2 with ⟨_, h0⟩ | ⟨g, cap, cur, rfl, hg, _, hnc, _⟩
  · omega
  · refine ⟨g, cap, rfl, hg, hnc, hlen, fun j hj => ?_⟩
    rw [h'.cellAt j (by omega), List.getElem?_map]
    have : j < bs.length := by omega
    simp [this]
theorem value_own (B n : Nat) (sl : Value) (bs : List Bool) (w : World) (h : w.ownsRow B 4 1 sl n (bs.map Value.bool)) (h1 : 1 ≤ n) (h64 : n ≤ 64) :
    Calls Tryd.prog 33 #[sl] w fun e w' => e = .returned (.int .u64 (valL bs)) ∧ w = w' := by
  obtain ⟨g, cap, rfl, _, _, hl, hc⟩ := own_parts h h1
  exact value_at g n cap bs w hl h64 hc

theorem rt_nat {W : Int} {S : Bool} (h : rt W S = true) : ∃ n : Nat, W = n ∧ 1 ≤ n ∧ n ≤ 64 := by
  rcases rt_w h with rfl | rfl | rfl | rfl | rfl
  · exact ⟨1, rfl, by decide, by decide⟩
  · exact ⟨8, rfl, by decide, by decide⟩
  · exact ⟨16, rfl, by decide, by decide⟩
  · exact ⟨32, rfl, by decide, by decide⟩
  · exact ⟨64, rfl, by decide, by decide⟩

set_option maxHeartbeats 400000 in
theorem rnorm_any (W : Int) (S : Bool) (v : Int) (w : World) (hv0 : 0 ≤ v) (hv1 : v < 18446744073709551616) :
    Calls Tryd.prog 20 #[.agg #[.int .i64 W, .bool S], .int .u64 v] w fun e w' => e = .returned (.int .u64 (normF W S v)) ∧ Below w.heap.size w w' := by
  go_enter Tryd.func20, Tryd.ntmps20
  go_wp2_with fail
  refine (rright_any _ _ _).mono ?_
  rintro e w1 ⟨rfl, hb⟩
  have hc0 : w1.cell? ⟨w.heap.size, 0, none⟩ = some (.int .i64 W) := (hb.cell (p := ⟨w.heap.size, 0, none⟩) (by simp)).trans (by simp [go_sem])
  have hc1 : w1.cell? ⟨w.heap.size, 1, none⟩ = some (.bool S) := (hb.cell (p := ⟨w.heap.size, 1, none⟩) (by simp)).trans (by simp [go_sem])
  have hb' := below_box (by simpa using hb)
  clear hb
  by_cases hr : rt W S = true
  · have e1 : normF W S v = lowF W v := if_pos hr
    obtain ⟨n, hW, hn1, hn64⟩ := rt_nat hr
    have e2 : lowF W v = valL (bitsR v n) := by rw [val_bits, hW]; rfl
    have E1 := Lib.hid (e1.trans e2)
    have HR := Lib.hid hr
    have HW := Lib.hid hW
    clear e1 e2
    rw [hW] at hc0
    clear hW
    go_wp2_with fail
    refine (bits_any v n _ hn64 hv0 hv1).mono ?_
    rintro e w2 ⟨sl, rfl, hown, hb2⟩
    clear hc0 hc1
    go_wp2_with fail
    refine (value_own _ _ _ _ _ hown (by rw [bits_len]; exact hn1) (by rw [bits_len]; exact hn64)).mono ?_
    rintro e w3 ⟨rfl, rfl⟩
    go_wp2
    go_ret
    exact ⟨ret_int E1.out.symm, hb'.trans (hb2.mono hb'.size)⟩
  · have hr' : rt W S = false := by simpa using hr
    have e1 : normF W S v = 0 := if_neg hr
    have E1 := Lib.hid e1
    clear e1 hr
    go_wp2
    go_ret
    exact ⟨ret_int E1.out.symm, hb'⟩
end Go.Proofs.YtpfdbigdkegncaaDoor
