/- The law LexNumbers, walked. -/
import Derived.Test.YtilfganjpgkjdaaDoorLs
namespace Go.Proofs.YtilfganjpgkjdaaDoor
open Go Go.RowKit

theorem num_range (l : List UInt8) : 0 ≤ (numL l).getD 0 ∧ (numL l).getD 0 ≤ 18446744073709551615 := by
  unfold numL
  (repeat' split)
  · exact ⟨by decide, by decide⟩
  · exact num_bd 16 (.inr rfl) _ _ (by decide) (by decide)
  · exact ⟨by decide, by decide⟩
  · exact num_bd 10 (.inl rfl) _ _ (by decide) (by decide)

set_option maxHeartbeats 1000000 in
theorem numbers_law (s : ByteArray) (w : World) (hs : s.size ≤ maxLen) (ht : Tab w) : Calls Tryd.prog 3 #[.string s] w fun e w' => e = .returned (.bool true) ∧ Below w.heap.size w w' := by
  have hA := Lib.hid (awake_any w ht)
  have HT := Lib.hid ht
  by_cases hl : (s.size : Int) ≤ 200
  · have hN := Lib.hid (fun w => number_any s w hs)
    have hM := Lib.hid (fun w => rnumber_any s w hs)
    have hK := Lib.hid (fun w h => key_any s w h)
    have hL := Lib.hid (fun w => rkey_any s w)
    generalize (numL s.data.toList).getD 0 = x at *
    generalize (numL s.data.toList).isSome = y at *
    generalize keyL s.data.toList = z at *
    clear ht hs
    go_enter Tryd.func3, Tryd.ntmps3
    go_wp2_with (first
      | (go_at_call 8; refine (hN.out _).mono ?_; rintro e w' ⟨rfl, rfl⟩)
      | (go_at_call 9; refine (hM.out _).mono ?_; rintro e w' ⟨rfl, rfl⟩)
      | (go_at_call 7; refine (hA.out).mono ?_; rintro e w1 ⟨rfl, hb⟩)
      | (go_at_call 10; refine (hK.out _ (HT.out.below hb).1).mono ?_; rintro e w' ⟨rfl, rfl⟩)
      | (go_at_call 11; refine (hL.out _).mono ?_; rintro e w' ⟨rfl, rfl⟩))
    go_ret
    exact ⟨rfl, hb⟩
  · clear ht hs
    go_enter Tryd.func3, Tryd.ntmps3
    go_wp2_with (go_at_call 7; refine (hA.out).mono ?_; rintro e w1 ⟨rfl, hb⟩)
    go_ret
    exact ⟨rfl, hb⟩
end Go.Proofs.YtilfganjpgkjdaaDoor
