/- For every number from 0 to 255 and every list of acts and every three numbers from 0 to 255 the law BddLaws returns true, and its arguments read as before. No condition. -/
import Derived.Test.YtailpphafoamfaaMEe
import Derived.Test.YtailpphafoamfaaMK
import Derived.Test.YtailpphafoamfaaMP
import Derived.Test.YtailpphafoamfaaRows
import Derived.WalkKit
import Derived.ProofKit
import Derived.OpenShut
set_option linter.all false
namespace Go.Proofs.Ytailpphafoamfaa.bddLaws
open Go.ChangeShapes Go.WideShapes Go.ChangeAt Go.RowKit

set_option maxRecDepth 100000 in
theorem lifted (os : Os) (started : os.Started) (H : Type) (enc : TypeId × Value → H) :
    ReturnsInHanded {} Try.checked os 9 .any (Rows.bddLawsSpec.pre6 enc Try.prog Try.f9 Rows.bddLawsRow.domain false) (Rows.bddLawsSpec.post enc Try.prog Try.f9 false true false false) := by
  refine returnsInHanded_of_change (C := Try.checked) Try.own started (by kernel_rfl) Try.func9
    (ChangeSpec.witness6 (enc := enc) (C := Try.checked) false ⟨#[], #[.int .u8 0, .slice none 0 0, .agg #[.int .u8 0, .int .u8 0, .int .u8 0]], []⟩ 8 (by kernel_rfl) (by kernel_rfl) (by kernel_rfl) (by kernel_rfl)) ?_
  intro W base args ds gs before hval0 hW hcnd _
  have hval : ∀ (j : Nat) t v, Try.f9.params[j]? = some t → args[j]? = some v → Value.okWide Try.prog W .any base t v := hval0
  have hW' := hW
  obtain ⟨p, q, hA0, hV, rfl, hfz, hnd⟩ := hW
  have hA : DataW.TrodAll enc Try.prog W 0 (fun _ => true) true Try.f9.params.toList args.toList ds p := hA0
  rw [Try.params9] at hA hval
  obtain ⟨v0, vs0, d0, ds0, p0, q0, hargs, rfl, rfl, h0, r0⟩ := trodAll_cons hA
  obtain ⟨v1, vs1, d1, ds1, p1, q1, rfl, rfl, rfl, h1, r1⟩ := trodAll_cons r0
  obtain ⟨v2, vs2, d2, ds2, p2, q2, rfl, rfl, rfl, h2, r2⟩ := trodAll_cons r1
  obtain ⟨rfl, rfl, rfl⟩ := trodAll_nil r2
  obtain rfl : args = #[v0, v1, v2] := by cases args; simp_all
  obtain ⟨rfl, rfl⟩ := trodVars_none hV
  obtain ⟨a0, rfl, b0⟩ := as_u8 (hval 0 5 v0 rfl rfl) h0
  obtain ⟨ac, ha, hal, hav⟩ := as_acts (hval 1 22 v1 rfl rfl) h1
  obtain ⟨q0', q1', q2', rfl, hq⟩ := as_arr (hval 2 59 v2 rfl rfl) h2
  refine (laws_law W a0 v1 ac q0' q1' q2' b0 hq ha hal hav).mono fun e W' ⟨he, hg⟩ => ?_
  subst he
  exact ⟨_, rfl, law_post (by rw [Try.params9]; exact of_decide_eq_true (by kernel_rfl)) (by kernel_rfl) rfl rfl hW' (below_of hg)⟩

theorem over : Rows.bddLawsRow.holds Try.pinned (OpenSpec.ofChange Rows.bddLawsSpec) :=
  OpenClaim.holds_of_wide 9 Try.f9 rfl rfl rfl rfl rfl rfl rfl ⟨rfl, rfl, rfl, rfl, rfl⟩ rfl rfl rfl rfl rfl (by kernel_rfl) Try.func9 (by kernel_rfl)
    (of_decide_eq_true (by kernel_rfl)) (by unfold Func.isWrapper; first | (rw [if_pos (by decide +kernel)]; kernel_rfl) | (rw [if_neg (by decide +kernel)]; exact ⟨rfl, rfl⟩))
    (fun os started H enc _ => lifted os started H enc)
theorem proved : Rows.BddLawsSaid := over
end Go.Proofs.Ytailpphafoamfaa.bddLaws
namespace Go.Proofs.Ytailpphafoamfaa
theorem bddLaws_holds : Rows.BddLawsSaid := bddLaws.proved
end Go.Proofs.Ytailpphafoamfaa
