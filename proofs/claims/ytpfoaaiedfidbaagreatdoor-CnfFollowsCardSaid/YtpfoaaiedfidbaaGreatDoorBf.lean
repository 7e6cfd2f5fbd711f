/- The greatest variable: the document's function, and the program's. -/
import Derived.Test.YtpfoaaiedfidbaaGreatDoorBe
namespace Go.Proofs.YtpfoaaiedfidbaaGreatDoor
open Go Go.RowKit

set_option maxHeartbeats 1600000 in
theorem rmost_any (v : Value) (l : List (List Int)) (w : World) (B : Nat) (h : Grid w B v l) (hf : Fits l) :
    Calls Tryz.prog 8 #[v] w fun e w' => e = .returned (.int .i64 (mostL l)) ∧ w = w' := by
  obtain ⟨A, c, rfl, hc, hat⟩ := h
  have HA := Lib.hid hat
  have HF := Lib.hid hf
  have hl := hf.1
  clear hat hf
  go_enter Tryz.func8, Tryz.ntmps8
  go_wp2
  go_loop [3, 4] (fun m i => ∃ (k : Nat) (q : Int), k ≤ l.length ∧ i = .int .i64 k ∧ m = .int .i64 q ∧ Hid (mostL (l.take k) = q)) (fun _ i => l.length - (intOf i).toNat)
  case atStart => exact ⟨0, 0, Nat.zero_le _, rfl, rfl, Lib.hid (by simp [mostL])⟩
  case round =>
    obtain ⟨k, q, hk, rfl, rfl, hso⟩ := hrel
    by_cases hlt : k < l.length
    · obtain ⟨b, off, rfl, hb, hcell⟩ := HA.out (by omega)
      obtain ⟨r, hr⟩ : ∃ r, l.getD k [] = r := ⟨_, rfl⟩
      obtain ⟨u2, hu, hn⟩ := hcell k hlt
      have hrl := HF.out.at_ hlt
      rw [hr] at hn hrl
      have HR := Lib.hid hr
      have hq : 0 ≤ q ∧ q ≤ 1048576 := by rw [← hso.out]; exact mostL_bd _
      obtain ⟨hq0, hq1⟩ := hq
      clear hcell hr
      obtain ⟨A2, c2, rfl, hc2, hat2⟩ := hn
      have HA2 := Lib.hid hat2
      clear hat2
      go_wp2
      go_loop [3, 5] (fun m i => ∃ (j : Nat) (t : Int), j ≤ r.length ∧ i = .int .i64 j ∧ m = .int .i64 t ∧ Hid (rowMost q (r.take j) = t)) (fun _ i => r.length - (intOf i).toNat)
      case atStart => exact ⟨0, q, Nat.zero_le _, rfl, rfl, Lib.hid (by simp [rowMost])⟩
      case round =>
        obtain ⟨j, t, hj, rfl, rfl, hso2⟩ := hrel
        have ht : 0 ≤ t ∧ t ≤ 1048576 := by rw [← hso2.out]; exact rowMost_bd hq0 hq1
        obtain ⟨ht0, ht1⟩ := ht
        by_cases hlt2 : j < r.length
        · obtain ⟨b2, off2, rfl, hb2, hcell2⟩ := HA2.out (by omega)
          obtain ⟨x, hx⟩ : ∃ x, r.getD j 0 = x := ⟨_, rfl⟩
          have hc0 := hcell2 j hlt2
          rw [hx] at hc0
          have HX := Lib.hid hx
          have hstep := Lib.hid (rowMost_snoc (m := q) hlt2 HX.out)
          clear hcell2 hx
          by_cases hm : mayB x = true
          · have HM := Lib.hid hm
            obtain ⟨hx0, hx1, hx2⟩ := mayB_iff.1 hm
            clear hm
            by_cases hneg : x < 0
            · have HM2 := Lib.hid (show mayB (-x) = true by rw [mayB_iff]; omega)
              by_cases hgt : t < -x
              · have hval := Lib.hid (show mostStep t x = -x by unfold mostStep; rw [if_pos HM.out]; omega)
                go_wp2_with (go_at_call 18; refine (right_any _ _).mono ?_; rintro e w' ⟨rfl, rfl⟩; first | rw [HM.out] | rw [HM2.out])
                go_round
                case rel => exact ⟨j + 1, -x, by omega, by go_num, rfl, Lib.hid (by rw [hstep.out, hso2.out, hval.out])⟩
                case measure => simp [intOf]; omega
              · have hval := Lib.hid (show mostStep t x = t by unfold mostStep; rw [if_pos HM.out]; omega)
                go_wp2_with (go_at_call 18; refine (right_any _ _).mono ?_; rintro e w' ⟨rfl, rfl⟩; first | rw [HM.out] | rw [HM2.out])
                go_round
                case rel => exact ⟨j + 1, t, by omega, by go_num, rfl, Lib.hid (by rw [hstep.out, hso2.out, hval.out])⟩
                case measure => simp [intOf]; omega
            · by_cases hgt : t < x
              · have hval := Lib.hid (show mostStep t x = x by unfold mostStep; rw [if_pos HM.out]; omega)
                go_wp2_with (go_at_call 18; refine (right_any _ _).mono ?_; rintro e w' ⟨rfl, rfl⟩; rw [HM.out])
                go_round
                case rel => exact ⟨j + 1, x, by omega, by go_num, rfl, Lib.hid (by rw [hstep.out, hso2.out, hval.out])⟩
                case measure => simp [intOf]; omega
              · have hval := Lib.hid (show mostStep t x = t by unfold mostStep; rw [if_pos HM.out]; omega)
                go_wp2_with (go_at_call 18; refine (right_any _ _).mono ?_; rintro e w' ⟨rfl, rfl⟩; rw [HM.out])
                go_round
                case rel => exact ⟨j + 1, t, by omega, by go_num, rfl, Lib.hid (by rw [hstep.out, hso2.out, hval.out])⟩
                case measure => simp [intOf]; omega
          · have HM := Lib.hid (by simpa using hm : mayB x = false)
            clear hm
            have hval := Lib.hid (show mostStep t x = t by unfold mostStep; rw [if_neg (by rw [HM.out]; simp)])
            go_wp2_with (go_at_call 18; refine (right_any _ _).mono ?_; rintro e w' ⟨rfl, rfl⟩; rw [HM.out])
            go_round
            case rel => exact ⟨j + 1, t, by omega, by go_num, rfl, Lib.hid (by rw [hstep.out, hso2.out, hval.out])⟩
            case measure => simp [intOf]; omega
        · have hrow := Lib.hid (show rowMost q r = t by have := hso2.out; rwa [List.take_of_length_le (by omega)] at this)
          go_wp2
          go_round
          case rel => exact ⟨k + 1, t, by omega, by go_num, rfl, Lib.hid (by rw [mostL_snoc hlt HR.out, hso.out, hrow.out])⟩
          case measure => simp [intOf]; omega
    · have hin := Lib.hid (show mostL l = q by rw [← hso.out, List.take_of_length_le (by omega)])
      go_wp2
      go_ret
      exact ⟨ret_int hin.out.symm, rfl⟩
set_option maxHeartbeats 1600000 in
theorem most_any (v : Value) (l : List (List Int)) (w : World) (B : Nat) (h : Grid w B v l) (hf : Fits l) :
    Calls Tryz.prog 22 #[v] w fun e w' => e = .returned (.int .i64 (mostL l)) ∧ w = w' := by
  obtain ⟨A, c, rfl, hc, hat⟩ := h
  have HA := Lib.hid hat
  have HF := Lib.hid hf
  have hl := hf.1
  clear hat hf
  go_enter Tryz.func22, Tryz.ntmps22
  go_wp2
  go_loop [3, 10] (fun m i => ∃ (k : Nat) (q : Int), k ≤ l.length ∧ i = .int .i64 k ∧ m = .int .i64 q ∧ Hid (mostL (l.take k) = q)) (fun _ i => l.length - (intOf i).toNat)
  case atStart => exact ⟨0, 0, Nat.zero_le _, rfl, rfl, Lib.hid (by simp [mostL])⟩
  case round =>
    obtain ⟨k, q, hk, rfl, rfl, hso⟩ := hrel
    by_cases hlt : k < l.length
    · obtain ⟨b, off, rfl, hb, hcell⟩ := HA.out (by omega)
      obtain ⟨r, hr⟩ : ∃ r, l.getD k [] = r := ⟨_, rfl⟩
      obtain ⟨u2, hu, hn⟩ := hcell k hlt
      have hrl := HF.out.at_ hlt
      rw [hr] at hn hrl
      have HR := Lib.hid hr
      have hq : 0 ≤ q ∧ q ≤ 1048576 := by rw [← hso.out]; exact mostL_bd _
      obtain ⟨hq0, hq1⟩ := hq
      clear hcell hr
      obtain ⟨A2, c2, rfl, hc2, hat2⟩ := hn
      have HA2 := Lib.hid hat2
      clear hat2
      go_wp2
      go_loop [3, 16] (fun m i => ∃ (j : Nat) (t : Int), j ≤ r.length ∧ i = .int .i64 j ∧ m = .int .i64 t ∧ Hid (rowMost q (r.take j) = t)) (fun _ i => r.length - (intOf i).toNat)
      case atStart => exact ⟨0, q, Nat.zero_le _, rfl, rfl, Lib.hid (by simp [rowMost])⟩
      case round =>
        obtain ⟨j, t, hj, rfl, rfl, hso2⟩ := hrel
        have ht : 0 ≤ t ∧ t ≤ 1048576 := by rw [← hso2.out]; exact rowMost_bd hq0 hq1
        obtain ⟨ht0, ht1⟩ := ht
        by_cases hlt2 : j < r.length
        · obtain ⟨b2, off2, rfl, hb2, hcell2⟩ := HA2.out (by omega)
          obtain ⟨x, hx⟩ : ∃ x, r.getD j 0 = x := ⟨_, rfl⟩
          have hc0 := hcell2 j hlt2
          rw [hx] at hc0
          have HX := Lib.hid hx
          have hstep := Lib.hid (rowMost_snoc (m := q) hlt2 HX.out)
          clear hcell2 hx
          by_cases hm : mayB x = true
          · have HM := Lib.hid hm
            obtain ⟨hx0, hx1, hx2⟩ := mayB_iff.1 hm
            clear hm
            have hval := Lib.hid (show mostStep t x = max (max t x) (-x) by unfold mostStep; rw [if_pos HM.out])
            go_wp2_with (go_at_call 41; refine (may_any _ _).mono ?_; rintro e w' ⟨rfl, rfl⟩; rw [HM.out])
            go_round
            case rel => exact ⟨j + 1, _, by omega, by go_num, rfl, Lib.hid (by rw [hstep.out, hso2.out, hval.out]; (split <;> split) <;> omega)⟩
            case measure => simp [intOf]; omega
          · have HM := Lib.hid (by simpa using hm : mayB x = false)
            clear hm
            have hval := Lib.hid (show mostStep t x = t by unfold mostStep; rw [if_neg (by rw [HM.out]; simp)])
            go_wp2_with (go_at_call 41; refine (may_any _ _).mono ?_; rintro e w' ⟨rfl, rfl⟩; rw [HM.out])
            go_round
            case rel => exact ⟨j + 1, t, by omega, by go_num, rfl, Lib.hid (by rw [hstep.out, hso2.out, hval.out])⟩
            case measure => simp [intOf]; omega
        · have hrow := Lib.hid (show rowMost q r = t by have := hso2.out; rwa [List.take_of_length_le (by omega)] at this)
          go_wp2
          go_round
          case rel => exact ⟨k + 1, t, by omega, by go_num, rfl, Lib.hid (by rw [mostL_snoc hlt HR.out, hso.out, hrow.out])⟩
          case measure => simp [intOf]; omega
    · have hin := Lib.hid (show mostL l = q by rw [← hso.out, List.take_of_length_le (by omega)])
      go_wp2
      go_ret
      exact ⟨ret_int hin.out.symm, rfl⟩
end Go.Proofs.YtpfoaaiedfidbaaGreatDoor
