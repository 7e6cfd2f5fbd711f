/- Whether all literals of clauses may be; whether clauses aren't too many or long. -/
import Derived.Test.YtpfoaaiedfidbaaGreatDoorBb
namespace Go.Proofs.YtpfoaaiedfidbaaGreatDoor
open Go Go.RowKit

theorem Nums.len {w : World} {B : Nat} {v : Value} {xs : List Int} (h : Nums w B v xs) : ∃ A c, v = .slice A xs.length c := by
  obtain ⟨A, c, e, _⟩ := h
  exact ⟨A, c, e⟩
/-- May all literals of a clause, of clauses be? -/
def rowMay (c : List Int) : Bool := c.all mayB
def allMay (l : List (List Int)) : Bool := l.all rowMay
def checkC (l : List (List Int)) : Int := if allMay l = true then 0 else 60
theorem rowMay_snoc {xs : List Int} {k : Nat} {x : Int} (h : k < xs.length) (hx : xs.getD k 0 = x) : rowMay (xs.take (k + 1)) = (rowMay (xs.take k) && mayB x) := by
  unfold rowMay
  rw [List.take_succ_eq_append_getElem h]
  simp only [List.getD, List.getElem?_eq_getElem h, Option.getD_some] at hx
  rw [hx]
  simp
theorem rowMay_bad {xs : List Int} {k : Nat} {x : Int} (h : k < xs.length) (hx : xs.getD k 0 = x) (hb : mayB x = false) : rowMay xs = false := by
  unfold rowMay
  rw [List.all_eq_false]
  simp only [List.getD, List.getElem?_eq_getElem h, Option.getD_some] at hx
  exact ⟨x, hx ▸ List.getElem_mem h, by simp [hb]⟩
theorem allMay_snoc {l : List (List Int)} {k : Nat} {c : List Int} (h : k < l.length) (hc : l.getD k [] = c) : allMay (l.take (k + 1)) = (allMay (l.take k) && rowMay c) := by
  unfold allMay
  rw [List.take_succ_eq_append_getElem h]
  simp only [List.getD, List.getElem?_eq_getElem h, Option.getD_some] at hc
  rw [hc]
  simp
theorem allMay_bad {l : List (List Int)} {k : Nat} {c : List Int} (h : k < l.length) (hc : l.getD k [] = c) (hb : rowMay c = false) : checkC l = 60 := by
  have : allMay l = false := by
    unfold allMay
    rw [List.all_eq_false]
    simp only [List.getD, List.getElem?_eq_getElem h, Option.getD_some] at hc
    exact ⟨c, hc ▸ List.getElem_mem h, by simp [hb]⟩
  simp [checkC, this]
theorem allMay_fine {l : List (List Int)} {k : Nat} (h : ¬ k < l.length) (ha : allMay (l.take k) = true) : checkC l = 0 := by
  rw [List.take_of_length_le (by omega)] at ha
  simp [checkC, ha]
/-- The lengths of clauses are lengths. -/
def Fits (l : List (List Int)) : Prop := l.length ≤ 9223372036854775806 ∧ ∀ c ∈ l, c.length ≤ 9223372036854775806
theorem Fits.at_ {l : List (List Int)} {k : Nat} (h : Fits l) (hk : k < l.length) : (l.getD k []).length ≤ 9223372036854775806 := by
  simp only [List.getD, List.getElem?_eq_getElem hk, Option.getD_some]
  exact h.2 _ (List.getElem_mem hk)
set_option maxHeartbeats 800000 in
theorem rcheck_any (v : Value) (l : List (List Int)) (w : World) (B : Nat) (h : Grid w B v l) (hf : Fits l) :
    Calls Tryz.prog 7 #[v] w fun e w' => e = .returned (.int .i64 (checkC l)) ∧ w = w' := by
  obtain ⟨A, c, rfl, hc, hat⟩ := h
  have HA := Lib.hid hat
  have HF := Lib.hid hf
  have hl := hf.1
  clear hat hf
  go_enter Tryz.func7, Tryz.ntmps7
  go_wp2
  go_loop [3] (fun i => ∃ k : Nat, k ≤ l.length ∧ i = .int .i64 k ∧ Hid (allMay (l.take k) = true)) (fun i => l.length - (intOf i).toNat)
  case atStart => exact ⟨0, Nat.zero_le _, rfl, Lib.hid (by simp [allMay])⟩
  case round =>
    obtain ⟨k, hk, rfl, hso⟩ := hrel
    by_cases hlt : k < l.length
    · obtain ⟨b, off, rfl, hb, hcell⟩ := HA.out (by omega)
      obtain ⟨r, hr⟩ : ∃ r, l.getD k [] = r := ⟨_, rfl⟩
      obtain ⟨u, hu, hn⟩ := hcell k hlt
      have hrl := HF.out.at_ hlt
      rw [hr] at hn hrl
      have HR := Lib.hid hr
      clear hcell hr
      obtain ⟨A2, c2, rfl, hc2, hat2⟩ := hn
      have HA2 := Lib.hid hat2
      clear hat2
      go_wp2
      go_loop [4] (fun i => ∃ j : Nat, j ≤ r.length ∧ i = .int .i64 j ∧ Hid (rowMay (r.take j) = true)) (fun i => r.length - (intOf i).toNat)
      case atStart => exact ⟨0, Nat.zero_le _, rfl, Lib.hid (by simp [rowMay])⟩
      case round =>
        obtain ⟨j, hj, rfl, hso2⟩ := hrel
        by_cases hlt2 : j < r.length
        · obtain ⟨b2, off2, rfl, hb2, hcell2⟩ := HA2.out (by omega)
          obtain ⟨x, hx⟩ : ∃ x, r.getD j 0 = x := ⟨_, rfl⟩
          have hc0 := hcell2 j hlt2
          rw [hx] at hc0
          have HX := Lib.hid hx
          clear hcell2 hx
          by_cases hm : mayB x = true
          · have HM := Lib.hid hm
            clear hm
            go_wp2_with (go_at_call 18; refine (right_any _ _).mono ?_; rintro e w' ⟨rfl, rfl⟩; rw [HM.out])
            go_round
            case rel => exact ⟨j + 1, by omega, by go_num, Lib.hid (by rw [rowMay_snoc hlt2 HX.out, hso2.out, HM.out]; rfl)⟩
            case measure => simp [intOf]; omega
          · have HM := Lib.hid (by simpa using hm : mayB x = false)
            clear hm
            have hin := Lib.hid (allMay_bad hlt HR.out (rowMay_bad hlt2 HX.out HM.out))
            go_wp2_with (go_at_call 18; refine (right_any _ _).mono ?_; rintro e w' ⟨rfl, rfl⟩; rw [HM.out])
            go_ret
            exact ⟨ret_int hin.out.symm, rfl⟩
        · have hrow := Lib.hid (show rowMay r = true by have := hso2.out; rwa [List.take_of_length_le (by omega)] at this)
          go_wp2
          go_round
          case rel => exact ⟨k + 1, by omega, by go_num, Lib.hid (by rw [allMay_snoc hlt HR.out, hso.out, hrow.out]; rfl)⟩
          case measure => simp [intOf]; omega
    · have hin := Lib.hid (allMay_fine hlt hso.out)
      go_wp2
      go_ret
      exact ⟨ret_int hin.out.symm, rfl⟩
set_option maxHeartbeats 800000 in
theorem check_any (v : Value) (l : List (List Int)) (w : World) (B : Nat) (h : Grid w B v l) (hf : Fits l) :
    Calls Tryz.prog 24 #[v] w fun e w' => e = .returned (.int .i64 (checkC l)) ∧ w = w' := by
  obtain ⟨A, c, rfl, hc, hat⟩ := h
  have HA := Lib.hid hat
  have HF := Lib.hid hf
  have hl := hf.1
  clear hat hf
  go_enter Tryz.func24, Tryz.ntmps24
  go_wp2
  go_loop [9] (fun i => ∃ k : Nat, k ≤ l.length ∧ i = .int .i64 k ∧ Hid (allMay (l.take k) = true)) (fun i => l.length - (intOf i).toNat)
  case atStart => exact ⟨0, Nat.zero_le _, rfl, Lib.hid (by simp [allMay])⟩
  case round =>
    obtain ⟨k, hk, rfl, hso⟩ := hrel
    by_cases hlt : k < l.length
    · obtain ⟨b, off, rfl, hb, hcell⟩ := HA.out (by omega)
      obtain ⟨r, hr⟩ : ∃ r, l.getD k [] = r := ⟨_, rfl⟩
      obtain ⟨u, hu, hn⟩ := hcell k hlt
      have hrl := HF.out.at_ hlt
      rw [hr] at hn hrl
      have HR := Lib.hid hr
      clear hcell hr
      obtain ⟨A2, c2, rfl, hc2, hat2⟩ := hn
      have HA2 := Lib.hid hat2
      clear hat2
      go_wp2
      go_loop [15] (fun i => ∃ j : Nat, j ≤ r.length ∧ i = .int .i64 j ∧ Hid (rowMay (r.take j) = true)) (fun i => r.length - (intOf i).toNat)
      case atStart => exact ⟨0, Nat.zero_le _, rfl, Lib.hid (by simp [rowMay])⟩
      case round =>
        obtain ⟨j, hj, rfl, hso2⟩ := hrel
        by_cases hlt2 : j < r.length
        · obtain ⟨b2, off2, rfl, hb2, hcell2⟩ := HA2.out (by omega)
          obtain ⟨x, hx⟩ : ∃ x, r.getD j 0 = x := ⟨_, rfl⟩
          have hc0 := hcell2 j hlt2
          rw [hx] at hc0
          have HX := Lib.hid hx
          clear hcell2 hx
          by_cases hm : mayB x = true
          · have HM := Lib.hid hm
            clear hm
            go_wp2_with (go_at_call 41; refine (may_any _ _).mono ?_; rintro e w' ⟨rfl, rfl⟩; rw [HM.out])
            go_round
            case rel => exact ⟨j + 1, by omega, by go_num, Lib.hid (by rw [rowMay_snoc hlt2 HX.out, hso2.out, HM.out]; rfl)⟩
            case measure => simp [intOf]; omega
          · have HM := Lib.hid (by simpa using hm : mayB x = false)
            clear hm
            have hin := Lib.hid (allMay_bad hlt HR.out (rowMay_bad hlt2 HX.out HM.out))
            go_wp2_with (go_at_call 41; refine (may_any _ _).mono ?_; rintro e w' ⟨rfl, rfl⟩; rw [HM.out])
            go_ret
            exact ⟨ret_int hin.out.symm, rfl⟩
        · have hrow := Lib.hid (show rowMay r = true by have := hso2.out; rwa [List.take_of_length_le (by omega)] at this)
          go_wp2
          go_round
          case rel => exact ⟨k + 1, by omega, by go_num, Lib.hid (by rw [allMay_snoc hlt HR.out, hso.out, hrow.out]; rfl)⟩
          case measure => simp [intOf]; omega
    · have hin := Lib.hid (allMay_fine hlt hso.out)
      go_wp2
      go_ret
      exact ⟨ret_int hin.out.symm, rfl⟩
end Go.Proofs.YtpfoaaiedfidbaaGreatDoor
