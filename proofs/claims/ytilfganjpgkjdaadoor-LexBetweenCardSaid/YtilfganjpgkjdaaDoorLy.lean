/- The law LexBetween, walked. -/
import Derived.Test.YtilfganjpgkjdaaDoorBe
namespace Go.Proofs.YtilfganjpgkjdaaDoor
open Go Go.RowKit

set_option maxHeartbeats 1000000 in
theorem between_law (s m : ByteArray) (k : Int) (w : World) (hk0 : 0 ≤ k) (hk1 : k < 256) (ht : Tab w) :
    Calls Tryd.prog 5 #[.string s, .string m, .int .u8 k] w fun e w' => e = .returned (.bool true) ∧ Below w.heap.size w w' := by
  by_cases hl : (s.size : Int) ≤ 2000
  · by_cases hm : (m.size : Int) ≤ 500
    · have h4 : k % 4 = 0 ∨ k % 4 = 1 ∨ k % 4 = 2 ∨ k % 4 = 3 := by omega
      rcases h4 with h | h | h | h
      · exact between_0 s m k w ht hl hm hk0 hk1 h
      · exact between_1 s m k w ht hl hm hk0 hk1 h
      · exact between_2 s m k w ht hl hm hk0 hk1 h
      · exact between_3 s m k w ht hl hm hk0 hk1 h
    · have hA := Lib.hid (awake_any w ht)
      clear ht
      go_enter Tryd.func5, Tryd.ntmps5
      go_wp2_with (go_at_call 7; refine (hA.out).mono ?_; rintro e w1 ⟨rfl, hb⟩)
      go_ret
      exact ⟨rfl, hb⟩
  · have hA := Lib.hid (awake_any w ht)
    clear ht
    go_enter Tryd.func5, Tryd.ntmps5
    go_wp2_with (go_at_call 7; refine (hA.out).mono ?_; rintro e w1 ⟨rfl, hb⟩)
    go_ret
    exact ⟨rfl, hb⟩
end Go.Proofs.YtilfganjpgkjdaaDoor
