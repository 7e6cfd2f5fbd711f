/- The contracts of lex's gap and first. -/
import Derived.Test.YtilfganjpgkjdaaDoorLd
namespace Go.Proofs.YtilfganjpgkjdaaDoor
open Go Go.RowKit

set_option maxHeartbeats 400000 in
theorem gap_any (s : ByteArray) (w : World) (hs : s.size ≤ maxLen) :
    Calls Tryd.prog 28 #[.string s] w fun e w' => e = .returned (.int .i64 (gapL s.data.toList)) ∧ w = w' := by
  have h1 := fun w => Tryd.strings_HasPrefix s ⟨#[47, 47]⟩ w
  have e : (⟨#[47, 47]⟩ : ByteArray).data.toList = cmt := rfl
  rw [e] at h1
  clear e
  unfold gapL
  cases hp : Lib.hasPrefix s.data.toList cmt
  · have H1 := Lib.hid h1
    clear h1
    have HP := Lib.hid hp
    clear hp
    rw [if_neg (by decide)]
    go_enter Tryd.func28, Tryd.ntmps28
    go_wp2_with (first
      | (go_at_call 33; refine (H1.out _).mono ?_; rintro e w' ⟨rfl, rfl⟩; rw [HP.out])
      | (go_at_call 34; refine (span_blank _ _ hs).mono ?_; rintro e w' ⟨rfl, rfl⟩))
    go_ret
    exact ⟨rfl, rfl⟩
  · have H1 := Lib.hid h1
    clear h1
    have HP := Lib.hid hp
    clear hp
    rw [if_pos rfl]
    go_enter Tryd.func28, Tryd.ntmps28
    go_wp2_with (first
      | (go_at_call 33; refine (H1.out _).mono ?_; rintro e w' ⟨rfl, rfl⟩; rw [HP.out])
      | (go_at_call 34; refine (span_ink _ _ hs).mono ?_; rintro e w' ⟨rfl, rfl⟩))
    go_ret
    exact ⟨rfl, rfl⟩

theorem head_at (s : ByteArray) (h : 0 < s.size) : ∃ r, s.data.toList = s[0] :: r := ⟨_, by have := drop_at s 0 h; simpa using this⟩
theorem ret_two {a b c d : Int} (h1 : a = c) (h2 : b = d) : Ending.returned (.tuple #[.int .i64 a, .int .i64 b]) = .returned (.tuple #[.int .i64 c, .int .i64 d]) := by rw [h1, h2]
set_option maxHeartbeats 400000 in
theorem first_any (s : ByteArray) (w : World) (hs : s.size ≤ maxLen) (h0 : 0 < s.size) (ht : Signs w) :
    Calls Tryd.prog 30 #[.string s] w fun e w' => e = .returned (.tuple #[.int .i64 (firstK s.data.toList), .int .i64 (firstN s.data.toList)]) ∧ w = w' := by
  obtain ⟨r, hr⟩ := head_at s h0
  have hk : firstK s.data.toList = if letB (s[0].toNat : Int) then 0 else if digI (s[0].toNat : Int) < 10 then 1 else 2 := by rw [hr]; rfl
  have hn : firstN s.data.toList = if letB (s[0].toNat : Int) then spanL partB s.data.toList else if digI (s[0].toNat : Int) < 10 then spanL partB s.data.toList else signL s.data.toList := by
    conv => lhs; rw [hr]
    rw [firstN, ← hr]
  have hd := dig_bd (s[0].toNat : Int)
  have b0 := byte_lt s[0]
  have l1 := fun w => letter_any (s[0].toNat : Int) w b0.1 b0.2
  have l2 := fun w => digit_any (s[0].toNat : Int) w b0.1 b0.2
  have L1 := Lib.hid l1
  have L2 := Lib.hid l2
  have HT := Lib.hid ht
  clear l1 l2 hr ht
  cases hl : letB (s[0].toNat : Int)
  · by_cases hd10 : digI (s[0].toNat : Int) < 10
    · rw [hl, if_neg (by decide), if_pos hd10] at hk hn
      have HK := Lib.hid hk
      have HN := Lib.hid hn
      have HL := Lib.hid hl
      clear hk hn hl
      go_enter Tryd.func30, Tryd.ntmps30
      go_wp2_with (first
        | (go_at_call 38; refine (L1.out _).mono ?_; rintro e w' ⟨rfl, rfl⟩; rw [HL.out])
        | (go_at_call 18; refine (L2.out _).mono ?_; rintro e w' ⟨rfl, rfl⟩)
        | (go_at_call 34; refine (span_part _ _ hs).mono ?_; rintro e w' ⟨rfl, rfl⟩))
      go_ret2
      exact ⟨ret_two HK.out.symm (by rw [HN.out]), rfl⟩
    · rw [hl, if_neg (by decide), if_neg hd10] at hk hn
      have HK := Lib.hid hk
      have HN := Lib.hid hn
      have HL := Lib.hid hl
      clear hk hn hl
      go_enter Tryd.func30, Tryd.ntmps30
      go_wp2_with (first
        | (go_at_call 38; refine (L1.out _).mono ?_; rintro e w' ⟨rfl, rfl⟩; rw [HL.out])
        | (go_at_call 18; refine (L2.out _).mono ?_; rintro e w' ⟨rfl, rfl⟩)
        | (go_at_call 39; refine (sign_any _ _ HT.out).mono ?_; rintro e w' ⟨rfl, rfl⟩))
      go_ret2
      exact ⟨ret_two HK.out.symm (by rw [HN.out]), rfl⟩
  · rw [hl, if_pos rfl] at hk hn
    have HK := Lib.hid hk
    have HN := Lib.hid hn
    have HL := Lib.hid hl
    clear hk hn hl
    go_enter Tryd.func30, Tryd.ntmps30
    go_wp2_with (first
      | (go_at_call 38; refine (L1.out _).mono ?_; rintro e w' ⟨rfl, rfl⟩; rw [HL.out])
      | (go_at_call 34; refine (span_part _ _ hs).mono ?_; rintro e w' ⟨rfl, rfl⟩))
    go_ret2
    exact ⟨ret_two HK.out.symm (by rw [HN.out]), rfl⟩
end Go.Proofs.YtilfganjpgkjdaaDoor
