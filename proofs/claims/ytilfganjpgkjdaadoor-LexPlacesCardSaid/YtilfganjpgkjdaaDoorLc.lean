/- The contracts of lex's span, at its three closures. -/
import Derived.Test.YtilfganjpgkjdaaDoorLb
namespace Go.Proofs.YtilfganjpgkjdaaDoor
open Go Go.RowKit

theorem byte_lt (b : UInt8) : 0 ≤ (b.toNat : Int) ∧ (b.toNat : Int) < 256 := by
  have := b.toNat_lt
  omega
theorem size_len (s : ByteArray) : s.size = s.data.toList.length := rfl
theorem drop_at (s : ByteArray) (k : Nat) (h : k < s.size) : s.data.toList.drop k = s[k] :: s.data.toList.drop (k + 1) := by
  rw [List.drop_eq_getElem_cons (by simpa using h)]; rfl
theorem span_hit {p : Int → Bool} {s : ByteArray} {k : Nat} (h : k < s.size) (hp : p (s[k].toNat : Int) = true) (hr : spanL p (s.data.toList.drop k) + k = spanL p s.data.toList) :
    spanL p (s.data.toList.drop (k + 1)) + (k + 1) = spanL p s.data.toList := by
  rw [drop_at s k h, spanL, if_pos hp] at hr
  omega
theorem span_miss {p : Int → Bool} {s : ByteArray} {k : Nat} (h : k < s.size) (hp : p (s[k].toNat : Int) = false) (hr : spanL p (s.data.toList.drop k) + k = spanL p s.data.toList) :
    (k : Int) = (spanL p s.data.toList : Int) := by
  rw [drop_at s k h, spanL, if_neg (by simp [hp])] at hr
  omega
theorem span_end {p : Int → Bool} {s : ByteArray} {k : Nat} (h : k ≤ s.size) (h' : ¬ k < s.size) (hr : spanL p (s.data.toList.drop k) + k = spanL p s.data.toList) :
    (s.size : Int) = (spanL p s.data.toList : Int) := by
  obtain rfl : k = s.size := by omega
  rw [List.drop_of_length_le (by simp)] at hr
  simp [spanL] at hr
  omega

set_option maxHeartbeats 400000 in
theorem span_ink (s : ByteArray) (w : World) (hs : s.size ≤ maxLen) :
    Calls Tryd.prog 34 #[.string s, .func (.func 35) #[] #[]] w fun e w' => e = .returned (.int .i64 (spanL inkB s.data.toList)) ∧ w = w' := by
  unfold maxLen at hs
  go_enter Tryd.func34, Tryd.ntmps34
  go_wp2
  go_loop [8] (fun i => ∃ k : Nat, k ≤ s.size ∧ i = .int .i64 k ∧ spanL inkB (s.data.toList.drop k) + k = spanL inkB s.data.toList) (fun i => s.size - (intOf i).toNat)
  case atStart => exact ⟨0, Nat.zero_le _, rfl, by simp⟩
  case round =>
    obtain ⟨k, hk, rfl, hr⟩ := hrel
    have Hr := Lib.hid hr
    clear hr
    by_cases hlt : k < s.size
    · cases hp : inkB (s[k].toNat : Int)
      · go_wp2_with (go_at_call 35; refine (ink_any _ _).mono ?_; rintro e w' ⟨rfl, rfl⟩; rw [hp])
        go_ret
        exact ⟨ret_int (span_miss hlt hp Hr.out), rfl⟩
      · go_wp2_with (go_at_call 35; refine (ink_any _ _).mono ?_; rintro e w' ⟨rfl, rfl⟩; rw [hp])
        go_round
        case rel => exact ⟨k + 1, by omega, by go_num, span_hit hlt hp Hr.out⟩
        case measure => simp [intOf]; omega
    · go_wp2
      go_ret
      exact ⟨ret_int (span_end hk hlt Hr.out), rfl⟩
set_option maxHeartbeats 400000 in
theorem span_blank (s : ByteArray) (w : World) (hs : s.size ≤ maxLen) :
    Calls Tryd.prog 34 #[.string s, .func (.func 36) #[] #[]] w fun e w' => e = .returned (.int .i64 (spanL blankB s.data.toList)) ∧ w = w' := by
  unfold maxLen at hs
  go_enter Tryd.func34, Tryd.ntmps34
  go_wp2
  go_loop [8] (fun i => ∃ k : Nat, k ≤ s.size ∧ i = .int .i64 k ∧ spanL blankB (s.data.toList.drop k) + k = spanL blankB s.data.toList) (fun i => s.size - (intOf i).toNat)
  case atStart => exact ⟨0, Nat.zero_le _, rfl, by simp⟩
  case round =>
    obtain ⟨k, hk, rfl, hr⟩ := hrel
    have Hr := Lib.hid hr
    clear hr
    by_cases hlt : k < s.size
    · cases hp : blankB (s[k].toNat : Int)
      · go_wp2_with (go_at_call 36; refine (blank_any _ _).mono ?_; rintro e w' ⟨rfl, rfl⟩; rw [hp])
        go_ret
        exact ⟨ret_int (span_miss hlt hp Hr.out), rfl⟩
      · go_wp2_with (go_at_call 36; refine (blank_any _ _).mono ?_; rintro e w' ⟨rfl, rfl⟩; rw [hp])
        go_round
        case rel => exact ⟨k + 1, by omega, by go_num, span_hit hlt hp Hr.out⟩
        case measure => simp [intOf]; omega
    · go_wp2
      go_ret
      exact ⟨ret_int (span_end hk hlt Hr.out), rfl⟩
set_option maxHeartbeats 400000 in
theorem span_part (s : ByteArray) (w : World) (hs : s.size ≤ maxLen) :
    Calls Tryd.prog 34 #[.string s, .func (.func 37) #[] #[]] w fun e w' => e = .returned (.int .i64 (spanL partB s.data.toList)) ∧ w = w' := by
  unfold maxLen at hs
  go_enter Tryd.func34, Tryd.ntmps34
  go_wp2
  go_loop [8] (fun i => ∃ k : Nat, k ≤ s.size ∧ i = .int .i64 k ∧ spanL partB (s.data.toList.drop k) + k = spanL partB s.data.toList) (fun i => s.size - (intOf i).toNat)
  case atStart => exact ⟨0, Nat.zero_le _, rfl, by simp⟩
  case round =>
    obtain ⟨k, hk, rfl, hr⟩ := hrel
    have Hr := Lib.hid hr
    clear hr
    by_cases hlt : k < s.size
    · cases hp : partB (s[k].toNat : Int)
      · go_wp2_with (go_at_call 37; refine (part_any _ _ (byte_lt _).1 (byte_lt _).2).mono ?_; rintro e w' ⟨rfl, rfl⟩; rw [hp])
        go_ret
        exact ⟨ret_int (span_miss hlt hp Hr.out), rfl⟩
      · go_wp2_with (go_at_call 37; refine (part_any _ _ (byte_lt _).1 (byte_lt _).2).mono ?_; rintro e w' ⟨rfl, rfl⟩; rw [hp])
        go_round
        case rel => exact ⟨k + 1, by omega, by go_num, span_hit hlt hp Hr.out⟩
        case measure => simp [intOf]; omega
    · go_wp2
      go_ret
      exact ⟨ret_int (span_end hk hlt Hr.out), rfl⟩
end Go.Proofs.YtilfganjpgkjdaaDoor
