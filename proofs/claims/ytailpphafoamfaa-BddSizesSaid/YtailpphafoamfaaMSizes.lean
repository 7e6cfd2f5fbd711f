/- For every number from 0 to 255 and every list of acts the law BddSizes returns true, and its arguments read as before. No condition. -/
import Derived.Test.YtailpphafoamfaaMEi
import Derived.Test.YtailpphafoamfaaMK
import Derived.Test.YtailpphafoamfaaMO
import Derived.Test.YtailpphafoamfaaRows
import Derived.WalkKit
import Derived.ProofKit
import Derived.OpenShut
set_option linter.all false
namespace Go.Proofs.Ytailpphafoamfaa.bddSizes
open Go.ChangeShapes Go.WideShapes Go.ChangeAt Go.RowKit

set_option maxRecDepth 100000 in
theorem lifted (os : Os) (started : os.Started) (H : Type) (enc : TypeId × Value → H) :
    ReturnsInHanded {} Try.checked os 6 .any (Rows.bddSizesSpec.pre6 enc Try.prog Try.f6 Rows.bddSizesRow.domain false) (Rows.bddSizesSpec.post enc Try.prog Try.f6 false true false false) := by
  refine returnsInHanded_of_change (C := Try.checked) Try.own started (by kernel_rfl) Try.func6
    (ChangeSpec.witness6 (enc := enc) (C := Try.checked) false ⟨#[], #[.int .u8 0, .slice none 0 0], []⟩ 8 (by kernel_rfl) (by kernel_rfl) (by kernel_rfl) (by kernel_rfl)) ?_
  intro W base args ds gs before hval0 hW hcnd _
  have hval : ∀ (j : Nat) t v, Try.f6.params[j]? = some t → args[j]? = some v → Value.okWide Try.prog W .any base t v := hval0
  have hW' := hW
  obtain ⟨p, q, hA0, hV, rfl, hfz, hnd⟩ := hW
  have hA : DataW.TrodAll enc Try.prog W 0 (fun _ => true) true Try.f6.params.toList args.toList ds p := hA0
  rw [Try.params6] at hA hval
  obtain ⟨v0, vs0, d0, ds0, p0, q0, hargs, rfl, rfl, h0, r0⟩ := trodAll_cons hA
  obtain ⟨v1, vs1, d1, ds1, p1, q1, rfl, rfl, rfl, h1, r1⟩ := trodAll_cons r0
  obtain ⟨rfl, rfl, rfl⟩ := trodAll_nil r1
  obtain rfl : args = #[v0, v1] := by cases args; simp_all
  obtain ⟨rfl, rfl⟩ := trodVars_none hV
  obtain ⟨a0, rfl, b0⟩ := as_u8 (hval 0 5 v0 rfl rfl) h0
  obtain ⟨ac, ha, hal, hav⟩ := as_acts (hval 1 22 v1 rfl rfl) h1
  refine (sizes_law W a0 v1 ac b0 ha hal hav).mono fun e W' ⟨he, hg⟩ => ?_
  subst he
  exact ⟨_, rfl, law_post (by rw [Try.params6]; exact of_decide_eq_true (by kernel_rfl)) (by kernel_rfl) rfl rfl hW' (below_of hg)⟩

theorem over : Rows.bddSizesRow.holds Try.pinned (OpenSpec.ofChange Rows.bddSizesSpec) :=
  OpenClaim.holds_of_wide 6 Try.f6 rfl rfl rfl rfl rfl rfl rfl ⟨rfl, rfl, rfl, rfl, rfl⟩ rfl rfl rfl rfl rfl (by kernel_rfl) Try.func6 (by kernel_rfl)
    (of_decide_eq_true (by kernel_rfl)) (by unfold Func.isWrapper; first | (rw [if_pos (by decide +kernel)]; kernel_rfl) | (rw [if_neg (by decide +kernel)]; exact ⟨rfl, rfl⟩))
    (fun os started H enc _ => lifted os started H enc)
theorem proved : Rows.BddSizesSaid := over
end Go.Proofs.Ytailpphafoamfaa.bddSizes
namespace Go.Proofs.Ytailpphafoamfaa
theorem bddSizes_holds : Rows.BddSizesSaid := bddSizes.proved
end Go.Proofs.Ytailpphafoamfaa
