/- For every type and three numbers of 64 bits the law WordOrder returns true, and its arguments read as before; the table of types starts as the program's text lays it (the card ties it to the text). -/
import Derived.Test.YtpfdbigdkegncaaDoorO
import Derived.Test.YtpfdbigdkegncaaDoorS
import Derived.Test.YtpfdbigdkegncaaDoorTie
import Derived.Test.YtpfdbigdkegncaaDoorCards
import Derived.SevenTiedAt
namespace Go.Proofs.YtpfdbigdkegncaaDoor
open Go.ChangeShapes Go.WideShapes Go.ChangeAt Go.RowKit Go.Deep

set_option maxRecDepth 100000 in
theorem wordOrder_lifted (os : Os) (started : os.Started) (H : Type) (enc : TypeId × Value → H) :
    ReturnsInHanded {} Tryd.checked os 12 .any (fun w args => (Rows.wordOrderSpec.pre enc Tryd.prog Tryd.f12 [] false w args ∧ laidMetH Tryd.prog Rows.wordOrderRow.laid w) ∧ sizedMet enc Tryd.prog Tryd.f12 (OpenSpec.ofChange Rows.wordOrderSpec) false w args)
      (Rows.wordOrderSpec.post enc Tryd.prog Tryd.f12 false true false false) := by
  refine returnsInHanded_of_change_and (C := Tryd.checked) (X := fun w _ => laidMetH Tryd.prog Rows.wordOrderRow.laid w) (fun _ _ _ hh h => h.of_heap hh) Tryd.own started (by kernel_rfl) Tryd.func12
    (ChangeSpec.witness_shaped (enc := enc) (C := Tryd.checked) (os := os) (X := fun w _ => laidMetH Tryd.prog Rows.wordOrderRow.laid w) false (World.doorLaid Tryd.prog 400 os) #[.agg #[.int .i64 8, .bool true], .agg #[.int .u64 7, .int .u64 2, .int .u64 3]] 8 rfl (World.shaped_of_RefB (by kernel_rfl) (by kernel_rfl)) (by kernel_rfl) (by kernel_rfl) (by kernel_rfl) (door_met os _)) ?_
  intro W base args ds gs before hval0 hW _ _ hL _
  have hval : ∀ (j : Nat) t v, Tryd.f12.params[j]? = some t → args[j]? = some v → Value.okWide Tryd.prog W .any base t v := hval0
  have hW' := hW
  obtain ⟨p, q, hA0, hV, rfl, hfz, hnd⟩ := hW
  have hA : DataW.TrodAll enc Tryd.prog W 0 (fun _ => true) true Tryd.f12.params.toList args.toList ds p := hA0
  rw [Tryd.params12] at hA hval
  obtain ⟨v0, v1, d0, d1, p0, p1, rfl, rfl, rfl, h0, h1⟩ := trodAll_two hA
  obtain ⟨rfl, rfl⟩ := trodVars_none hV
  obtain ⟨tw, ts, rfl⟩ := as_type (hval 0 23 v0 rfl rfl) h0
  obtain ⟨a, b, c, rfl, ⟨ha0, ha1⟩, ⟨hb0, hb1⟩, ⟨hc0, hc1⟩⟩ := as_arr3 (hval 1 48 v1 rfl rfl) h1
  refine (order_law tw ts a b c W (tab_of_laid hL) ha0 ha1 hb0 hb1 hc0 hc1).mono fun e W' ⟨he, hb⟩ => ?_
  subst he
  exact ⟨_, rfl, law_post (by rw [Tryd.params12]; exact of_decide_eq_true (by kernel_rfl)) (by kernel_rfl) rfl rfl hW' hb⟩

theorem wordOrder_holds : Rows.WordOrderSaid :=
  OpenClaim.holds_of_wide 12 Tryd.f12 rfl rfl rfl rfl rfl rfl rfl ⟨rfl, rfl, rfl, rfl, rfl⟩ rfl rfl rfl rfl rfl (by kernel_rfl) Tryd.func12 (by kernel_rfl)
    (of_decide_eq_true (by kernel_rfl)) (by unfold Func.isWrapper; first | (rw [if_pos (by decide +kernel)]; kernel_rfl) | (rw [if_neg (by decide +kernel)]; exact ⟨rfl, rfl⟩))
    (fun os started H enc _ => wordOrder_lifted os started H enc)

theorem wordOrder_card : Rows.WordOrderCardSaid :=
  Claim7.holds_tied_plain_at .later [] [.data] true (true, "6483385f0dfae01f2c3b49f39592263337998ad290f6fdaf24fd40e564825afe") false
    wordOrder_holds (fun _ h => by cases h) (by kernel_rfl) (fun _ h => by cases h) wordOrder_row_tie rfl ⟨rfl, rfl⟩ (by kernel_rfl) rfl
    (fun f fn hf hfn => by
      obtain rfl : f = 12 := Option.some.inj ((show Tryd.prog.funcNamed "skua/skualaw01.WordOrder" = some 12 by kernel_rfl).symm.trans hf) |>.symm
      obtain rfl : fn = Tryd.f12 := (Option.some.inj (Tryd.func12.symm.trans hfn)).symm
      exact ⟨by kernel_rfl, fun j t ht => by
        rw [Tryd.params12] at ht
        match j, ht with
        | 0, ht => cases ht; exact (show Tryd.prog.wantsStandIn 23 = false by kernel_rfl)
        | 1, ht => cases ht; exact (show Tryd.prog.wantsStandIn 48 = false by kernel_rfl)
        | j + 2, ht => simp at ht⟩)
    (by kernel_rfl)
end Go.Proofs.YtpfdbigdkegncaaDoor
