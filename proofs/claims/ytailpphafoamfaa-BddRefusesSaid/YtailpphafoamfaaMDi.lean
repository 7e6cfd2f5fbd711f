/- What is refused: the law. -/
import Derived.Test.YtailpphafoamfaaMDf
import Derived.Test.YtailpphafoamfaaMDg
import Derived.Test.YtailpphafoamfaaMDh
set_option linter.all false
namespace Go.Proofs.Ytailpphafoamfaa
open Go Go.RowKit Go.Maps

set_option maxHeartbeats 8000000 in
set_option maxRecDepth 100000 in
theorem refuses_out (W : World) (V f v : Int) (hV : ¬ (0 ≤ V ∧ V ≤ 256)) : Calls Try.prog 8 #[.int .i64 V, .int .i64 f, .int .i64 v] W fun e w' => e = .returned (.bool true) ∧ W.grownBy w' none := by
  have HN := Lib.hid (new_any (w := W) (o := fun _ => 0) (fun _ _ => rfl) V 50)
  have HAW := Lib.hid (awake_any W)
  have HV := Lib.hid hV
  have hV2 : V < 0 ∨ (¬ V < 0 ∧ V > 256) := by omega
  clear hV
  rcases hV2 with q1 | ⟨q1, q2⟩
  all_goals
    go_enter Try.func8, Try.ntmps8
    go_wp2_with fail
    refine (HN.out).mono ?_
    intro e w1 hp
    obtain ⟨rfl, rfl⟩ : e = .returned (.tuple #[.pointer none, .int .i64 91]) ∧ W = w1 := by
      rcases hp with ⟨-, h1, h2⟩ | ⟨h1, -⟩ | ⟨h1, -⟩
      · exact ⟨h1, h2⟩
      · exact absurd h1 HV.out
      · exact absurd h1 HV.out
    clear hp HN
    go_wp2_with fail
    refine (HAW.out).mono ?_
    rintro e w2 ⟨rfl, hg⟩
    have HG := Lib.hid hg
    clear hg
    go_wp2
    go_ret
    exact ⟨rfl, HG.out⟩
theorem refuses_law (W : World) (V f v : Int) : Calls Try.prog 8 #[.int .i64 V, .int .i64 f, .int .i64 v] W fun e w' => e = .returned (.bool true) ∧ W.grownBy w' none := by
  by_cases hV : 0 ≤ V ∧ V ≤ 256
  · obtain ⟨V, rfl⟩ : ∃ n : Nat, V = n := ⟨V.toNat, by omega⟩
    have hV' : V ≤ 256 := by omega
    by_cases h1 : f ≥ 0
    · by_cases h2 : f < 2
      · by_cases h3 : v ≥ 0
        · by_cases h4 : v < (V : Int)
          · exact refuses_ii W V f v hV' ⟨h1, h2⟩ ⟨h3, h4⟩
          · exact refuses_ih W V f v hV' ⟨h1, h2⟩ ⟨h3, h4⟩
        · exact refuses_in W V f v hV' ⟨h1, h2⟩ h3
      · by_cases h3 : v ≥ 0
        · by_cases h4 : v < (V : Int)
          · exact refuses_hi W V f v hV' ⟨h1, h2⟩ ⟨h3, h4⟩
          · exact refuses_hh W V f v hV' ⟨h1, h2⟩ ⟨h3, h4⟩
        · exact refuses_hn W V f v hV' ⟨h1, h2⟩ h3
    · by_cases h3 : v ≥ 0
      · by_cases h4 : v < (V : Int)
        · exact refuses_ni W V f v hV' h1 ⟨h3, h4⟩
        · exact refuses_nh W V f v hV' h1 ⟨h3, h4⟩
      · exact refuses_nn W V f v hV' h1 h3
  · exact refuses_out W V f v hV

end Go.Proofs.Ytailpphafoamfaa
