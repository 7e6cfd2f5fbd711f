/- What is refused: the law, f being n. -/
import Derived.Test.YtailpphafoamfaaMDe
set_option linter.all false
namespace Go.Proofs.Ytailpphafoamfaa
open Go Go.RowKit Go.Maps

set_option maxHeartbeats 8000000 in
set_option maxRecDepth 100000 in
theorem refuses_nn (W : World) (V : Nat) (f v : Int) (hV : V ≤ 256) (hf : ¬ f ≥ 0) (hv : ¬ v ≥ 0) : Calls Try.prog 8 #[.int .i64 (V : Int), .int .i64 f, .int .i64 v] W fun e w' => e = .returned (.bool true) ∧ W.grownBy w' none := by
  have HN := Lib.hid (new_any (w := W) (o := fun _ => 0) (fun _ _ => rfl) (V : Int) 50)
  have q1 : ¬ (V : Int) < 0 := by omega
  have q2 : ¬ (V : Int) > 256 := by omega
  have HV := Lib.hid (show 0 ≤ (V : Int) ∧ (V : Int) ≤ 256 from ⟨by omega, by omega⟩)
  clear hV
  go_enter Try.func8, Try.ntmps8
  go_wp2_with fail
  refine (HN.out).mono ?_
  intro e w1 hp
  obtain ⟨s, o1, g1, rfl, hr⟩ : ∃ (s : Nat) (o1 : Nat → Nat) (g1 : SG), e = .returned (.tuple #[.pointer (some ⟨s, 0, none⟩), .int .i64 0]) ∧ Rf W w1 s V o1 g1 := by
    rcases hp with ⟨h1, -⟩ | ⟨-, h1, -⟩ | ⟨-, -, s, val, o1, h1, h2, h3⟩
    · exact absurd HV.out h1
    · exact absurd ⟨by decide, by decide⟩ h1
    · exact ⟨s, o1, _, h1, ⟨h2, h3.more (fun _ _ => rfl), rfl, rfl, rfl, rfl⟩⟩
  have HR1 := Lib.hid hr
  have HAW := Lib.hid (awake_any w1)
  clear hp hr HN
  go_wp2_with fail
  refine (HAW.out).mono ?_
  rintro e w2 ⟨rfl, hg⟩
  have HR2 := Lib.hid (HR1.out.grown hg)
  clear hg HAW HR1
  obtain ⟨inn, hinn⟩ : ∃ inn, okB 2 f = inn := ⟨_, rfl⟩
  obtain ⟨has, hhas⟩ : ∃ has, okB V v = has := ⟨_, rfl⟩
  obtain ⟨b0, hb0⟩ : ∃ b0, ((V : Int) == 0) = b0 := ⟨_, rfl⟩
  have HB0 := Lib.hid (show decide ((V : Int) = 0) = b0 from hb0)
  obtain ⟨b1, hb1⟩ : ∃ b1, (f == 1) = b1 := ⟨_, rfl⟩
  have hbb : (b1 == b1) = true := by cases b1 <;> rfl
  have HINN := Lib.hid hinn
  have HHAS := Lib.hid hhas
  have HB1 := Lib.hid hb1
  have HR3 := Lib.hid (HR2.out.grown (grown_alloc w2 (.cells #[.bool inn] 4)))
  have HC3 := Lib.hid (show Cl (w2.alloc (.cells #[.bool inn] 4)) o1 w2.heap.size inn from ⟨(cell_of (MapKept.heap_alloc w2 (.cells #[.bool inn] 4)).1).trans rfl, HR2.out.st.new _ (Nat.le_refl _)⟩)
  have HNOT := Lib.hid (not_any HR3.out.st f)
  rw [HR3.out.hs] at HNOT
  have HDF := Lib.hid (show 0 ≤ f ∨ ¬ 0 ≤ f from by simp; omega)
  have HDV := Lib.hid (show 0 ≤ v ∨ ¬ 0 ≤ v from by simp; omega)
  obtain rfl : inn = false := hinn.symm.trans (by unfold okB; simp; omega)
  obtain rfl : has = false := hhas.symm.trans (by unfold okB; simp; omega)
  clear hinn hhas
  have qf := hf
  have qv := hv

  go_wp2_with fail
  try rw [HDF.out]
  refine (HNOT.out).mono ?_
  intro e w4 hp
  obtain ⟨v3, o4, g4, rfl, hr, hk⟩ := HR3.out.not hp
  obtain ⟨x3, hx3⟩ : ∃ x3, x3 = wantX (okB 2 f) true := ⟨_, rfl⟩
  rw [← hx3]
  have HX3 := Lib.hid hx3
  have HR4 := Lib.hid hr
  have HC4 := Lib.hid (HC3.out.keep hk)
  have HR4a := Lib.hid (HR4.out.grown (grown_alloc w4 (.cells #[.int .i64 v] 3)))
  have HC4a := Lib.hid (HC4.out.keep (keep_alloc T0 w4 o4 (.cells #[.int .i64 v] 3)))
  have H4 := Lib.hid (exists_any HR4a.out.st f (nums_one w4 v) (by simp))
  rw [HR4a.out.hs] at H4
  clear hp hr hk hx3 HNOT HR3 HC3

  go_wp2_with fail
  refine (H4.out).mono ?_
  intro e w5 hp
  obtain ⟨v4, o5, g5, rfl, hr, hk⟩ := HR4a.out.some hp
  obtain ⟨x4, hx4⟩ : ∃ x4, x4 = wantX (okB 2 f) (okB V v) := ⟨_, rfl⟩
  rw [← hx4]
  have HX4 := Lib.hid hx4
  have HR5 := Lib.hid hr
  have HC5 := Lib.hid (HC4a.out.keep hk)
  have H5 := Lib.hid (count_any HR5.out.st f)
  rw [HR5.out.hs] at H5
  clear hp hr hk hx4 H4 HR4 HC4 HR4a HC4a

  go_wp2_with fail
  refine (H5.out).mono ?_
  intro e w6 hp
  obtain ⟨v5, o6, g6, rfl, hr, hk⟩ := HR5.out.count hp
  obtain ⟨x5, hx5⟩ : ∃ x5, x5 = wantX (okB 2 f) true := ⟨_, rfl⟩
  rw [← hx5]
  have HX5 := Lib.hid hx5
  have HR6 := Lib.hid hr
  have HC6 := Lib.hid (HC5.out.keep hk)
  have H6 := Lib.hid (size_any HR6.out.st f)
  rw [HR6.out.hs] at H6
  clear hp hr hk hx5 H5 HR5 HC5

  go_wp2_with fail
  refine (H6.out).mono ?_
  intro e w7 hp
  obtain ⟨v6, o7, g7, rfl, hr, hk⟩ := HR6.out.size hp
  obtain ⟨x6, hx6⟩ : ∃ x6, x6 = wantX (okB 2 f) true := ⟨_, rfl⟩
  rw [← hx6]
  have HX6 := Lib.hid hx6
  have HR7 := Lib.hid hr
  have HC7 := Lib.hid (HC6.out.keep hk)
  have H7 := Lib.hid (eval_any HR7.out.st f (bv := .slice none 0 0) (is := []) ⟨none, 0, rfl, fun h => absurd rfl h⟩ (by simp))
  rw [HR7.out.hs] at H7
  clear hp hr hk hx6 H6 HR6 HC6

  go_wp2_with fail
  refine (H7.out).mono ?_
  intro e w8 hp
  obtain ⟨v7, o8, g8, rfl, hr, hk⟩ := HR7.out.eval hp
  obtain ⟨x7, hx7⟩ : ∃ x7, x7 = wantX (okB 2 f) (decide ((V : Int) = 0)) := ⟨_, rfl⟩
  rw [← hx7]
  have HX7 := Lib.hid hx7
  have HR8 := Lib.hid hr
  have HC8 := Lib.hid (HC7.out.keep hk)
  have H8 := Lib.hid (pick_any HR8.out.st f)
  rw [HR8.out.hs] at H8
  clear hp hr hk hx7 H7 HR7 HC7

  go_wp2_with fail
  refine (H8.out).mono ?_
  intro e w9 hp
  obtain ⟨v8, o9, g9, rfl, hr, hk⟩ := HR8.out.pick hp
  obtain ⟨x8, hx8⟩ : ∃ x8, x8 = (if f = 1 then (0 : Int) else 92) := ⟨_, rfl⟩
  rw [← hx8]
  have HX8 := Lib.hid hx8
  have HR9 := Lib.hid hr
  have HC9 := Lib.hid (HC8.out.keep hk)
  have H9 := Lib.hid (rename_any HR9.out.st f (vv := .slice none 0 0) (l := []) ⟨none, 0, rfl, fun h => absurd rfl h⟩ (by simp))
  rw [HR9.out.hs] at H9
  clear hp hr hk hx8 H8 HR8 HC8

  go_wp2_with fail
  refine (H9.out).mono ?_
  intro e w10 hp
  obtain ⟨v9, o10, g10, rfl, hr, hk⟩ := HR9.out.rename hp
  obtain ⟨x9, hx9⟩ : ∃ x9, x9 = wantX (okB 2 f) (decide ((V : Int) = 0)) := ⟨_, rfl⟩
  rw [← hx9]
  have HX9 := Lib.hid hx9
  have HR10 := Lib.hid hr
  have HC10 := Lib.hid (HC9.out.keep hk)
  have H10 := Lib.hid (var_any HR10.out.st v)
  rw [HR10.out.hs] at H10
  clear hp hr hk hx9 H9 HR9 HC9

  go_wp2_with fail
  refine (H10.out).mono ?_
  intro e w11 hp
  obtain ⟨v10, rfl, o11, hk0, hk⟩ := HR10.out.var hp
  rw [HHAS.out]
  simp only [if_true, Bool.false_eq_true, if_false]
  have HK := Lib.hid hk0.none
  have HC11 := Lib.hid (HC10.out.keep hk)
  rw [HINN.out, HHAS.out] at HX4
  rw [HINN.out, HB0.out] at HX7 HX9
  rw [HINN.out] at HX3 HX5 HX6
  have qx8 : (x8 == 0) = b1 := by
    have h1 := HX8.out
    have h2 := HB1.out
    rw [h1, ← h2]
    by_cases h : f = 1
    · subst h; rfl
    · rw [if_neg h]; simp [h]
  have N3 := Lib.hid (told_node HC11.out.1 true HX3.out)
  have N4 := Lib.hid (told_node HC11.out.1 _ HX4.out)
  have N5 := Lib.hid (told_node HC11.out.1 true HX5.out)
  have N6 := Lib.hid (told_node HC11.out.1 true HX6.out)
  have N7 := Lib.hid (told_node HC11.out.1 b0 HX7.out)
  have N9 := Lib.hid (told_node HC11.out.1 b0 HX9.out)
  have hent := enters_of Try.func31 (by kernel_rfl) rfl
  have hmf : ∀ (fn : Fn) (first cap : Array Value) (w : World), (Instr.makeFunc fn first cap).run Try.prog w = .ok (.func fn first cap) w := fun _ _ _ _ => rfl
  clear hp hk hk0 HX3 HX4 HX5 HX6 HX7 HX8 HX9 HR10 HC10 H10 HC11

  go_wp2_with fail
  refine (N3.out).mono ?_
  rintro e w3' ⟨rfl, rfl⟩

  go_wp2_with fail
  try rw [HDV.out]
  refine (N4.out).mono ?_
  rintro e w4' ⟨rfl, rfl⟩

  go_wp2_with fail
  refine (N5.out).mono ?_
  rintro e w5' ⟨rfl, rfl⟩

  go_wp2_with fail
  refine (N6.out).mono ?_
  rintro e w6' ⟨rfl, rfl⟩

  go_wp2_with fail
  refine (N7.out).mono ?_
  rintro e w7' ⟨rfl, rfl⟩

  go_wp2_with fail
  refine (N9.out).mono ?_
  rintro e w9' ⟨rfl, rfl⟩

  go_wp2
  go_ret
  exact ⟨rfl, HK.out⟩

set_option maxHeartbeats 8000000 in
set_option maxRecDepth 100000 in
theorem refuses_nh (W : World) (V : Nat) (f v : Int) (hV : V ≤ 256) (hf : ¬ f ≥ 0) (hv : v ≥ 0 ∧ ¬ v < (V : Int)) : Calls Try.prog 8 #[.int .i64 (V : Int), .int .i64 f, .int .i64 v] W fun e w' => e = .returned (.bool true) ∧ W.grownBy w' none := by
  have HN := Lib.hid (new_any (w := W) (o := fun _ => 0) (fun _ _ => rfl) (V : Int) 50)
  have q1 : ¬ (V : Int) < 0 := by omega
  have q2 : ¬ (V : Int) > 256 := by omega
  have HV := Lib.hid (show 0 ≤ (V : Int) ∧ (V : Int) ≤ 256 from ⟨by omega, by omega⟩)
  clear hV
  go_enter Try.func8, Try.ntmps8
  go_wp2_with fail
  refine (HN.out).mono ?_
  intro e w1 hp
  obtain ⟨s, o1, g1, rfl, hr⟩ : ∃ (s : Nat) (o1 : Nat → Nat) (g1 : SG), e = .returned (.tuple #[.pointer (some ⟨s, 0, none⟩), .int .i64 0]) ∧ Rf W w1 s V o1 g1 := by
    rcases hp with ⟨h1, -⟩ | ⟨-, h1, -⟩ | ⟨-, -, s, val, o1, h1, h2, h3⟩
    · exact absurd HV.out h1
    · exact absurd ⟨by decide, by decide⟩ h1
    · exact ⟨s, o1, _, h1, ⟨h2, h3.more (fun _ _ => rfl), rfl, rfl, rfl, rfl⟩⟩
  have HR1 := Lib.hid hr
  have HAW := Lib.hid (awake_any w1)
  clear hp hr HN
  go_wp2_with fail
  refine (HAW.out).mono ?_
  rintro e w2 ⟨rfl, hg⟩
  have HR2 := Lib.hid (HR1.out.grown hg)
  clear hg HAW HR1
  obtain ⟨inn, hinn⟩ : ∃ inn, okB 2 f = inn := ⟨_, rfl⟩
  obtain ⟨has, hhas⟩ : ∃ has, okB V v = has := ⟨_, rfl⟩
  obtain ⟨b0, hb0⟩ : ∃ b0, ((V : Int) == 0) = b0 := ⟨_, rfl⟩
  have HB0 := Lib.hid (show decide ((V : Int) = 0) = b0 from hb0)
  obtain ⟨b1, hb1⟩ : ∃ b1, (f == 1) = b1 := ⟨_, rfl⟩
  have hbb : (b1 == b1) = true := by cases b1 <;> rfl
  have HINN := Lib.hid hinn
  have HHAS := Lib.hid hhas
  have HB1 := Lib.hid hb1
  have HR3 := Lib.hid (HR2.out.grown (grown_alloc w2 (.cells #[.bool inn] 4)))
  have HC3 := Lib.hid (show Cl (w2.alloc (.cells #[.bool inn] 4)) o1 w2.heap.size inn from ⟨(cell_of (MapKept.heap_alloc w2 (.cells #[.bool inn] 4)).1).trans rfl, HR2.out.st.new _ (Nat.le_refl _)⟩)
  have HNOT := Lib.hid (not_any HR3.out.st f)
  rw [HR3.out.hs] at HNOT
  have HDF := Lib.hid (show 0 ≤ f ∨ ¬ 0 ≤ f from by simp; omega)
  have HDV := Lib.hid (show decide (v < (V : Int)) = false from by simp; omega)
  obtain rfl : inn = false := hinn.symm.trans (by unfold okB; simp; omega)
  obtain rfl : has = false := hhas.symm.trans (by unfold okB; simp; omega)
  clear hinn hhas
  have qf := hf
  obtain ⟨qv, qv2⟩ := hv

  go_wp2_with fail
  try rw [HDF.out]
  refine (HNOT.out).mono ?_
  intro e w4 hp
  obtain ⟨v3, o4, g4, rfl, hr, hk⟩ := HR3.out.not hp
  obtain ⟨x3, hx3⟩ : ∃ x3, x3 = wantX (okB 2 f) true := ⟨_, rfl⟩
  rw [← hx3]
  have HX3 := Lib.hid hx3
  have HR4 := Lib.hid hr
  have HC4 := Lib.hid (HC3.out.keep hk)
  have HR4a := Lib.hid (HR4.out.grown (grown_alloc w4 (.cells #[.int .i64 v] 3)))
  have HC4a := Lib.hid (HC4.out.keep (keep_alloc T0 w4 o4 (.cells #[.int .i64 v] 3)))
  have H4 := Lib.hid (exists_any HR4a.out.st f (nums_one w4 v) (by simp))
  rw [HR4a.out.hs] at H4
  clear hp hr hk hx3 HNOT HR3 HC3

  go_wp2_with fail
  refine (H4.out).mono ?_
  intro e w5 hp
  obtain ⟨v4, o5, g5, rfl, hr, hk⟩ := HR4a.out.some hp
  obtain ⟨x4, hx4⟩ : ∃ x4, x4 = wantX (okB 2 f) (okB V v) := ⟨_, rfl⟩
  rw [← hx4]
  have HX4 := Lib.hid hx4
  have HR5 := Lib.hid hr
  have HC5 := Lib.hid (HC4a.out.keep hk)
  have H5 := Lib.hid (count_any HR5.out.st f)
  rw [HR5.out.hs] at H5
  clear hp hr hk hx4 H4 HR4 HC4 HR4a HC4a

  go_wp2_with fail
  refine (H5.out).mono ?_
  intro e w6 hp
  obtain ⟨v5, o6, g6, rfl, hr, hk⟩ := HR5.out.count hp
  obtain ⟨x5, hx5⟩ : ∃ x5, x5 = wantX (okB 2 f) true := ⟨_, rfl⟩
  rw [← hx5]
  have HX5 := Lib.hid hx5
  have HR6 := Lib.hid hr
  have HC6 := Lib.hid (HC5.out.keep hk)
  have H6 := Lib.hid (size_any HR6.out.st f)
  rw [HR6.out.hs] at H6
  clear hp hr hk hx5 H5 HR5 HC5

  go_wp2_with fail
  refine (H6.out).mono ?_
  intro e w7 hp
  obtain ⟨v6, o7, g7, rfl, hr, hk⟩ := HR6.out.size hp
  obtain ⟨x6, hx6⟩ : ∃ x6, x6 = wantX (okB 2 f) true := ⟨_, rfl⟩
  rw [← hx6]
  have HX6 := Lib.hid hx6
  have HR7 := Lib.hid hr
  have HC7 := Lib.hid (HC6.out.keep hk)
  have H7 := Lib.hid (eval_any HR7.out.st f (bv := .slice none 0 0) (is := []) ⟨none, 0, rfl, fun h => absurd rfl h⟩ (by simp))
  rw [HR7.out.hs] at H7
  clear hp hr hk hx6 H6 HR6 HC6

  go_wp2_with fail
  refine (H7.out).mono ?_
  intro e w8 hp
  obtain ⟨v7, o8, g8, rfl, hr, hk⟩ := HR7.out.eval hp
  obtain ⟨x7, hx7⟩ : ∃ x7, x7 = wantX (okB 2 f) (decide ((V : Int) = 0)) := ⟨_, rfl⟩
  rw [← hx7]
  have HX7 := Lib.hid hx7
  have HR8 := Lib.hid hr
  have HC8 := Lib.hid (HC7.out.keep hk)
  have H8 := Lib.hid (pick_any HR8.out.st f)
  rw [HR8.out.hs] at H8
  clear hp hr hk hx7 H7 HR7 HC7

  go_wp2_with fail
  refine (H8.out).mono ?_
  intro e w9 hp
  obtain ⟨v8, o9, g9, rfl, hr, hk⟩ := HR8.out.pick hp
  obtain ⟨x8, hx8⟩ : ∃ x8, x8 = (if f = 1 then (0 : Int) else 92) := ⟨_, rfl⟩
  rw [← hx8]
  have HX8 := Lib.hid hx8
  have HR9 := Lib.hid hr
  have HC9 := Lib.hid (HC8.out.keep hk)
  have H9 := Lib.hid (rename_any HR9.out.st f (vv := .slice none 0 0) (l := []) ⟨none, 0, rfl, fun h => absurd rfl h⟩ (by simp))
  rw [HR9.out.hs] at H9
  clear hp hr hk hx8 H8 HR8 HC8

  go_wp2_with fail
  refine (H9.out).mono ?_
  intro e w10 hp
  obtain ⟨v9, o10, g10, rfl, hr, hk⟩ := HR9.out.rename hp
  obtain ⟨x9, hx9⟩ : ∃ x9, x9 = wantX (okB 2 f) (decide ((V : Int) = 0)) := ⟨_, rfl⟩
  rw [← hx9]
  have HX9 := Lib.hid hx9
  have HR10 := Lib.hid hr
  have HC10 := Lib.hid (HC9.out.keep hk)
  have H10 := Lib.hid (var_any HR10.out.st v)
  rw [HR10.out.hs] at H10
  clear hp hr hk hx9 H9 HR9 HC9

  go_wp2_with fail
  refine (H10.out).mono ?_
  intro e w11 hp
  obtain ⟨v10, rfl, o11, hk0, hk⟩ := HR10.out.var hp
  rw [HHAS.out]
  simp only [if_true, Bool.false_eq_true, if_false]
  have HK := Lib.hid hk0.none
  have HC11 := Lib.hid (HC10.out.keep hk)
  rw [HINN.out, HHAS.out] at HX4
  rw [HINN.out, HB0.out] at HX7 HX9
  rw [HINN.out] at HX3 HX5 HX6
  have qx8 : (x8 == 0) = b1 := by
    have h1 := HX8.out
    have h2 := HB1.out
    rw [h1, ← h2]
    by_cases h : f = 1
    · subst h; rfl
    · rw [if_neg h]; simp [h]
  have N3 := Lib.hid (told_node HC11.out.1 true HX3.out)
  have N4 := Lib.hid (told_node HC11.out.1 _ HX4.out)
  have N5 := Lib.hid (told_node HC11.out.1 true HX5.out)
  have N6 := Lib.hid (told_node HC11.out.1 true HX6.out)
  have N7 := Lib.hid (told_node HC11.out.1 b0 HX7.out)
  have N9 := Lib.hid (told_node HC11.out.1 b0 HX9.out)
  have hent := enters_of Try.func31 (by kernel_rfl) rfl
  have hmf : ∀ (fn : Fn) (first cap : Array Value) (w : World), (Instr.makeFunc fn first cap).run Try.prog w = .ok (.func fn first cap) w := fun _ _ _ _ => rfl
  clear hp hk hk0 HX3 HX4 HX5 HX6 HX7 HX8 HX9 HR10 HC10 H10 HC11

  go_wp2_with fail
  refine (N3.out).mono ?_
  rintro e w3' ⟨rfl, rfl⟩

  go_wp2_with fail
  try rw [HDV.out]
  refine (N4.out).mono ?_
  rintro e w4' ⟨rfl, rfl⟩

  go_wp2_with fail
  refine (N5.out).mono ?_
  rintro e w5' ⟨rfl, rfl⟩

  go_wp2_with fail
  refine (N6.out).mono ?_
  rintro e w6' ⟨rfl, rfl⟩

  go_wp2_with fail
  refine (N7.out).mono ?_
  rintro e w7' ⟨rfl, rfl⟩

  go_wp2_with fail
  refine (N9.out).mono ?_
  rintro e w9' ⟨rfl, rfl⟩

  go_wp2
  go_ret
  exact ⟨rfl, HK.out⟩

set_option maxHeartbeats 8000000 in
set_option maxRecDepth 100000 in
theorem refuses_ni (W : World) (V : Nat) (f v : Int) (hV : V ≤ 256) (hf : ¬ f ≥ 0) (hv : v ≥ 0 ∧ v < (V : Int)) : Calls Try.prog 8 #[.int .i64 (V : Int), .int .i64 f, .int .i64 v] W fun e w' => e = .returned (.bool true) ∧ W.grownBy w' none := by
  have HN := Lib.hid (new_any (w := W) (o := fun _ => 0) (fun _ _ => rfl) (V : Int) 50)
  have q1 : ¬ (V : Int) < 0 := by omega
  have q2 : ¬ (V : Int) > 256 := by omega
  have HV := Lib.hid (show 0 ≤ (V : Int) ∧ (V : Int) ≤ 256 from ⟨by omega, by omega⟩)
  clear hV
  go_enter Try.func8, Try.ntmps8
  go_wp2_with fail
  refine (HN.out).mono ?_
  intro e w1 hp
  obtain ⟨s, o1, g1, rfl, hr⟩ : ∃ (s : Nat) (o1 : Nat → Nat) (g1 : SG), e = .returned (.tuple #[.pointer (some ⟨s, 0, none⟩), .int .i64 0]) ∧ Rf W w1 s V o1 g1 := by
    rcases hp with ⟨h1, -⟩ | ⟨-, h1, -⟩ | ⟨-, -, s, val, o1, h1, h2, h3⟩
    · exact absurd HV.out h1
    · exact absurd ⟨by decide, by decide⟩ h1
    · exact ⟨s, o1, _, h1, ⟨h2, h3.more (fun _ _ => rfl), rfl, rfl, rfl, rfl⟩⟩
  have HR1 := Lib.hid hr
  have HAW := Lib.hid (awake_any w1)
  clear hp hr HN
  go_wp2_with fail
  refine (HAW.out).mono ?_
  rintro e w2 ⟨rfl, hg⟩
  have HR2 := Lib.hid (HR1.out.grown hg)
  clear hg HAW HR1
  obtain ⟨inn, hinn⟩ : ∃ inn, okB 2 f = inn := ⟨_, rfl⟩
  obtain ⟨has, hhas⟩ : ∃ has, okB V v = has := ⟨_, rfl⟩
  obtain ⟨b0, hb0⟩ : ∃ b0, ((V : Int) == 0) = b0 := ⟨_, rfl⟩
  have HB0 := Lib.hid (show decide ((V : Int) = 0) = b0 from hb0)
  obtain ⟨b1, hb1⟩ : ∃ b1, (f == 1) = b1 := ⟨_, rfl⟩
  have hbb : (b1 == b1) = true := by cases b1 <;> rfl
  have HINN := Lib.hid hinn
  have HHAS := Lib.hid hhas
  have HB1 := Lib.hid hb1
  have HR3 := Lib.hid (HR2.out.grown (grown_alloc w2 (.cells #[.bool inn] 4)))
  have HC3 := Lib.hid (show Cl (w2.alloc (.cells #[.bool inn] 4)) o1 w2.heap.size inn from ⟨(cell_of (MapKept.heap_alloc w2 (.cells #[.bool inn] 4)).1).trans rfl, HR2.out.st.new _ (Nat.le_refl _)⟩)
  have HNOT := Lib.hid (not_any HR3.out.st f)
  rw [HR3.out.hs] at HNOT
  have HDF := Lib.hid (show 0 ≤ f ∨ ¬ 0 ≤ f from by simp; omega)
  have HDV := Lib.hid (show decide (v < (V : Int)) = true from by simp; omega)
  obtain rfl : inn = false := hinn.symm.trans (by unfold okB; simp; omega)
  obtain rfl : has = true := hhas.symm.trans (by unfold okB; simp; omega)
  clear hinn hhas
  have qf := hf
  obtain ⟨qv, qv2⟩ := hv

  go_wp2_with fail
  try rw [HDF.out]
  refine (HNOT.out).mono ?_
  intro e w4 hp
  obtain ⟨v3, o4, g4, rfl, hr, hk⟩ := HR3.out.not hp
  obtain ⟨x3, hx3⟩ : ∃ x3, x3 = wantX (okB 2 f) true := ⟨_, rfl⟩
  rw [← hx3]
  have HX3 := Lib.hid hx3
  have HR4 := Lib.hid hr
  have HC4 := Lib.hid (HC3.out.keep hk)
  have HR4a := Lib.hid (HR4.out.grown (grown_alloc w4 (.cells #[.int .i64 v] 3)))
  have HC4a := Lib.hid (HC4.out.keep (keep_alloc T0 w4 o4 (.cells #[.int .i64 v] 3)))
  have H4 := Lib.hid (exists_any HR4a.out.st f (nums_one w4 v) (by simp))
  rw [HR4a.out.hs] at H4
  clear hp hr hk hx3 HNOT HR3 HC3

  go_wp2_with fail
  refine (H4.out).mono ?_
  intro e w5 hp
  obtain ⟨v4, o5, g5, rfl, hr, hk⟩ := HR4a.out.some hp
  obtain ⟨x4, hx4⟩ : ∃ x4, x4 = wantX (okB 2 f) (okB V v) := ⟨_, rfl⟩
  rw [← hx4]
  have HX4 := Lib.hid hx4
  have HR5 := Lib.hid hr
  have HC5 := Lib.hid (HC4a.out.keep hk)
  have H5 := Lib.hid (count_any HR5.out.st f)
  rw [HR5.out.hs] at H5
  clear hp hr hk hx4 H4 HR4 HC4 HR4a HC4a

  go_wp2_with fail
  refine (H5.out).mono ?_
  intro e w6 hp
  obtain ⟨v5, o6, g6, rfl, hr, hk⟩ := HR5.out.count hp
  obtain ⟨x5, hx5⟩ : ∃ x5, x5 = wantX (okB 2 f) true := ⟨_, rfl⟩
  rw [← hx5]
  have HX5 := Lib.hid hx5
  have HR6 := Lib.hid hr
  have HC6 := Lib.hid (HC5.out.keep hk)
  have H6 := Lib.hid (size_any HR6.out.st f)
  rw [HR6.out.hs] at H6
  clear hp hr hk hx5 H5 HR5 HC5

  go_wp2_with fail
  refine (H6.out).mono ?_
  intro e w7 hp
  obtain ⟨v6, o7, g7, rfl, hr, hk⟩ := HR6.out.size hp
  obtain ⟨x6, hx6⟩ : ∃ x6, x6 = wantX (okB 2 f) true := ⟨_, rfl⟩
  rw [← hx6]
  have HX6 := Lib.hid hx6
  have HR7 := Lib.hid hr
  have HC7 := Lib.hid (HC6.out.keep hk)
  have H7 := Lib.hid (eval_any HR7.out.st f (bv := .slice none 0 0) (is := []) ⟨none, 0, rfl, fun h => absurd rfl h⟩ (by simp))
  rw [HR7.out.hs] at H7
  clear hp hr hk hx6 H6 HR6 HC6

  go_wp2_with fail
  refine (H7.out).mono ?_
  intro e w8 hp
  obtain ⟨v7, o8, g8, rfl, hr, hk⟩ := HR7.out.eval hp
  obtain ⟨x7, hx7⟩ : ∃ x7, x7 = wantX (okB 2 f) (decide ((V : Int) = 0)) := ⟨_, rfl⟩
  rw [← hx7]
  have HX7 := Lib.hid hx7
  have HR8 := Lib.hid hr
  have HC8 := Lib.hid (HC7.out.keep hk)
  have H8 := Lib.hid (pick_any HR8.out.st f)
  rw [HR8.out.hs] at H8
  clear hp hr hk hx7 H7 HR7 HC7

  go_wp2_with fail
  refine (H8.out).mono ?_
  intro e w9 hp
  obtain ⟨v8, o9, g9, rfl, hr, hk⟩ := HR8.out.pick hp
  obtain ⟨x8, hx8⟩ : ∃ x8, x8 = (if f = 1 then (0 : Int) else 92) := ⟨_, rfl⟩
  rw [← hx8]
  have HX8 := Lib.hid hx8
  have HR9 := Lib.hid hr
  have HC9 := Lib.hid (HC8.out.keep hk)
  have H9 := Lib.hid (rename_any HR9.out.st f (vv := .slice none 0 0) (l := []) ⟨none, 0, rfl, fun h => absurd rfl h⟩ (by simp))
  rw [HR9.out.hs] at H9
  clear hp hr hk hx8 H8 HR8 HC8

  go_wp2_with fail
  refine (H9.out).mono ?_
  intro e w10 hp
  obtain ⟨v9, o10, g10, rfl, hr, hk⟩ := HR9.out.rename hp
  obtain ⟨x9, hx9⟩ : ∃ x9, x9 = wantX (okB 2 f) (decide ((V : Int) = 0)) := ⟨_, rfl⟩
  rw [← hx9]
  have HX9 := Lib.hid hx9
  have HR10 := Lib.hid hr
  have HC10 := Lib.hid (HC9.out.keep hk)
  have H10 := Lib.hid (var_any HR10.out.st v)
  rw [HR10.out.hs] at H10
  clear hp hr hk hx9 H9 HR9 HC9

  go_wp2_with fail
  refine (H10.out).mono ?_
  intro e w11 hp
  obtain ⟨v10, rfl, o11, hk0, hk⟩ := HR10.out.var hp
  rw [HHAS.out]
  simp only [if_true, Bool.false_eq_true, if_false]
  have HK := Lib.hid hk0.none
  have HC11 := Lib.hid (HC10.out.keep hk)
  rw [HINN.out, HHAS.out] at HX4
  rw [HINN.out, HB0.out] at HX7 HX9
  rw [HINN.out] at HX3 HX5 HX6
  have qx8 : (x8 == 0) = b1 := by
    have h1 := HX8.out
    have h2 := HB1.out
    rw [h1, ← h2]
    by_cases h : f = 1
    · subst h; rfl
    · rw [if_neg h]; simp [h]
  have N3 := Lib.hid (told_node HC11.out.1 true HX3.out)
  have N4 := Lib.hid (told_node HC11.out.1 _ HX4.out)
  have N5 := Lib.hid (told_node HC11.out.1 true HX5.out)
  have N6 := Lib.hid (told_node HC11.out.1 true HX6.out)
  have N7 := Lib.hid (told_node HC11.out.1 b0 HX7.out)
  have N9 := Lib.hid (told_node HC11.out.1 b0 HX9.out)
  have hent := enters_of Try.func31 (by kernel_rfl) rfl
  have hmf : ∀ (fn : Fn) (first cap : Array Value) (w : World), (Instr.makeFunc fn first cap).run Try.prog w = .ok (.func fn first cap) w := fun _ _ _ _ => rfl
  clear hp hk hk0 HX3 HX4 HX5 HX6 HX7 HX8 HX9 HR10 HC10 H10 HC11

  go_wp2_with fail
  refine (N3.out).mono ?_
  rintro e w3' ⟨rfl, rfl⟩

  go_wp2_with fail
  try rw [HDV.out]
  refine (N4.out).mono ?_
  rintro e w4' ⟨rfl, rfl⟩

  go_wp2_with fail
  refine (N5.out).mono ?_
  rintro e w5' ⟨rfl, rfl⟩

  go_wp2_with fail
  refine (N6.out).mono ?_
  rintro e w6' ⟨rfl, rfl⟩

  go_wp2_with fail
  refine (N7.out).mono ?_
  rintro e w7' ⟨rfl, rfl⟩

  go_wp2_with fail
  refine (N9.out).mono ?_
  rintro e w9' ⟨rfl, rfl⟩

  go_wp2
  go_ret
  exact ⟨rfl, HK.out⟩


end Go.Proofs.Ytailpphafoamfaa
