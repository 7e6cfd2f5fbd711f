/- The contract of action. -/
import Derived.Test.YtnalgnklgmoepaaGreatDoorMbaf
set_option linter.all false
namespace Go.Proofs.YtnalgnklgmoepaaGreatDoor
open Go Go.RowKit

set_option maxHeartbeats 2000000 in
set_option maxRecDepth 100000 in
theorem action_does (rec : NT → Int → List Tok → PR Tree) (n : Nat) (d : Int) (hcall : Does 137 (fun p => #[p]) d (callP rec n d)) (htar : Does 138 (fun p => #[p]) d (targetP rec d)) (hex : Does 135 (fun p => #[p]) d (exprP rec d)) : Does 124 (fun p => #[p]) d (actionP rec n d) := by
  intro B l w h hno
  obtain ⟨t, r, rfl⟩ := h.ends.ne
  have S0 := St.start h
  have hBw := S0.hB
  have HNO := Lib.hid hno
  have S0 := Lib.hid S0
  have hmf := makeFunc_run
  have hft := field_text
  have hfk := field_kind
  have HCL := Lib.hid hcall
  have HTR := Lib.hid htar
  have HEX := Lib.hid hex
  clear hcall htar hex
  clear h hno
  unfold zero6 at *
  go_enter Tryz.func124, Tryz.ntmps124
  cases hf0 : (atCallB (t :: r))
  case false =>
    have H := Lib.hid (atCall_any B (t :: r) d _ S0.out.ps)
    rw [hf0] at H
    go_wp2_with fail
    refine (H.out).mono ?_
    rintro e w1 ⟨rfl, hb1⟩
    have S1 := Lib.hid (S0.out.below hb1)
    clear S0
    clear H hb1
    have H := Lib.hid (peek_any B t r d _ S1.out.ps)
    go_wp2_with fail
    refine (H.out).mono ?_
    rintro e w2 ⟨rfl, hb2⟩
    have S2 := Lib.hid (S1.out.below hb2)
    clear S1
    clear H hb2
    have H := Lib.hid (node_any t ⟨#[97, 115, 115, 105, 103, 110]⟩ ⟨#[]⟩)
    go_wp2_with fail
    refine (H.out _).mono ?_
    rintro e w3 ⟨rfl, hb3⟩
    have S3 := Lib.hid (S2.out.below hb3)
    clear S2
    clear H hb3
    have hwN : w.heap.size < w3.heap.size := S3.out.lt
    have N4 := Lib.hid (Nd.new kAssign [] 0 t.line t.col w3)
    have S4 := Lib.hid (S3.out.alloc (nodO kAssign [] 0 t.line t.col (.slice none 0 0)))
    clear S3
    unfold nodO at *
    have hnoc : targetP rec d (t :: r) ≠ .out := fun e => HNO.out (by simp only [Bool.false_eq_true, if_false, if_true, reduceIte, Bool.not_false, Bool.not_true, Bool.false_or, Bool.true_or, Bool.or_false, Bool.or_true, Bool.and_true, Bool.and_false, Bool.false_and, Bool.true_and, List.nil_append, List.cons_append, List.append_nil, actionP, hf0, PR.bind, hdT_cons, e])
    have HNOC := Lib.hid hnoc
    clear hnoc
    have S5d := Lib.hid S4.out.drew
    have N5d := Lib.hid N4.out.drew
    clear S4 N4
    go_wp2_with fail
    have hcl := N5d.out.nd.c5
    refine wp_region_T (S := fun w' => w'.cell? ⟨w3.heap.size, 5, none⟩ = some (.slice none 0 0)) (tail := fun i => decide (5 ≤ i)) (by kernel_rfl) ?_
    change wpAnyT _ _ _ _ _ _ _ _ _ (World.drew _)
    refine wpAnyT_take (i := 0) (d := 16) (v := .pointer (some ⟨w3.heap.size, 5, none⟩)) rfl rfl (by kernel_rfl) (fun _ _ _ h => h) (by rfl) ?y0 hcl ?_
    case y0 => intro w' hw'; go_simp
    try simp only [Act.put, List.setIfInBounds_toArray, List.set_cons_zero, List.set_cons_succ]
    refine wpAnyT_take (i := 1) (d := 17) (v := .slice none 0 0) rfl rfl (by kernel_rfl) (fun _ _ _ h => h) (by rfl) ?y1 hcl ?_
    case y1 => intro w' hw'; go_simp
    try simp only [Act.put, List.setIfInBounds_toArray, List.set_cons_zero, List.set_cons_succ]
    refine wpAnyT_take (i := 2) (d := 18) (v := .pointer (some ⟨B, 0, none⟩)) rfl rfl (by kernel_rfl) (fun _ _ _ h => h) (by rfl) ?y2 hcl ?_
    case y2 => intro w' hw'; go_simp
    try simp only [Act.put, List.setIfInBounds_toArray, List.set_cons_zero, List.set_cons_succ]
    refine wpAnyT_one (i := 3) rfl (by kernel_rfl) (by rfl) (fun K hK => ?_)
    go_simp
    have HC := HTR.out B (t :: r) _ S5d.out.ps HNOC.out
    refine HC.mono ?_
    intro e w5a hq
    rcases hq.cases HNOC.out with ⟨t5, l5, q5, n5, c5, he5, rfl, hb6, hP6, hg6⟩ | ⟨ln, c, code, he5, rfl, hg6⟩
    rotate_left
    · refine ⟨rfl, ?_⟩
      have hbad : (actionP rec n d) (t :: r) = .bad ln c code := by simp only [Bool.false_eq_true, if_false, if_true, reduceIte, Bool.not_false, Bool.not_true, Bool.false_or, Bool.true_or, Bool.or_false, Bool.or_true, Bool.and_true, Bool.and_false, Bool.false_and, Bool.true_and, List.nil_append, List.cons_append, List.append_nil, actionP, hf0, PR.bind, hdT_cons, he5]
      rw [hbad]
      exact S5d.out.pan ⟨rfl, hg6⟩
    have S6 := Lib.hid (S5d.out.call hP6 hg6)
    have N6 := Lib.hid (N5d.out.call hg6 (by omega))
    have HB6 := Lib.hid hb6
    have hbl := N5d.out.bd.lt
    have c6' := N6.out.nd.c5
    have f6' := N6.out.nd.f 5 (by omega)
    have hs6 := N6.out.lt
    have hsz5 := N5d.out.lt
    have hsz6 := hg6.size
    clear hP6 hg6 hb6 HC hq S5d N5d
    unfold nodeV
    refine hK.out _ _ (fun _ => c6') ?_
    clear hK K
    try simp only [Act.put, List.setIfInBounds_toArray, List.set_cons_zero, List.set_cons_succ]
    refine wpAnyT_one (i := 4) rfl (by kernel_rfl) (by rfl) (fun K hK => ?_)
    go_simp
    refine hK.out _ _ (fun _ => by go_simp) ?_
    clear hK K
    try simp only [Act.put, List.setIfInBounds_toArray, List.set_cons_zero, List.set_cons_succ]
    refine wpAnyT_one (i := 5) rfl (by kernel_rfl) (by rfl) (fun K hK => ?_)
    refine append_at (dd := 21) (t := t5) (u := .slice q5 n5 c5) _ _ rfl rfl N6.out.bd HB6.out (by omega) (fun g hg => (hbl g hg).2) hsz6 rfl rfl rfl (by simp) (fun v7 w5 hb7 hg7 => ?_)
    refine hK.out _ _ (fun h => absurd h (by decide)) ?_
    clear hK K
    obtain ⟨qq5, nn5, cc5, rfl⟩ := hb7.shape
    have hff := app_fin S6.out N6.out hwN hb7 hg7
    have hs7 : w5.frozen? ⟨w3.heap.size, 5, none⟩ = false := ((N6.out.nd.grown (World.grownBy_alloc w5a _ none) (by simp)).grown hg7 (fun e => by have := (hbl _ e.symm).1; omega)).f 5 (by omega)
    have hd7 := ((N6.out.nd.grown (World.grownBy_alloc w5a _ none) (by simp)).grown hg7 (fun e => by have := (hbl _ e.symm).1; omega)).c5
    have HFF := Lib.hid hff
    clear hff hb7 hg7 S6 N6 HB6 hbl hcl c6' f6' hsz5 hsz6
    try simp only [Act.put, List.setIfInBounds_toArray, List.set_cons_zero, List.set_cons_succ]
    refine wpAnyT_one (i := 6) rfl (by kernel_rfl) (by rfl) (fun K hK => ?_)
    go_simp
    refine hK.out _ _ (fun h => absurd h (by decide)) ?_
    clear hK K
    try simp only [Act.put, List.setIfInBounds_toArray, List.set_cons_zero, List.set_cons_succ]
    refine wpAnyT_one (i := 7) rfl (by kernel_rfl) (by rfl) (fun K hK => ?_)
    go_simp
    refine hK.out _ _ (fun h => absurd h (by decide)) ?_
    clear hK K
    try simp only [Act.put, List.setIfInBounds_toArray, List.set_cons_zero, List.set_cons_succ]
    refine wpAnyT_done (by kernel_rfl) ?_ _
    clear hs7 hd7
    have S5 := Lib.hid HFF.out.1
    have N5 := Lib.hid HFF.out.2
    have HE5 := Lib.hid he5
    clear HFF he5 HNOC
    have hszn := N5.out.lt
    simp only [World.size_setCell] at hszn
    have H := Lib.hid (pass_lit (S := w5.heap.size) [[61]] S5.out.ps (by simp) (by simp) (by simp))
    simp only [List.map, List.length] at H
    go_wp2_with fail
    refine (H.out).mono ?_
    rintro e w6 (⟨l6, he6, rfl, hP6, hg6⟩ | ⟨ln, c, code, he6, rfl, hg6⟩)
    rotate_left
    · refine ⟨rfl, ?_⟩
      have hbad : (actionP rec n d) (t :: r) = .bad ln c code := by simp only [Bool.false_eq_true, if_false, if_true, reduceIte, Bool.not_false, Bool.not_true, Bool.false_or, Bool.true_or, Bool.or_false, Bool.or_true, Bool.and_true, Bool.and_false, Bool.false_and, Bool.true_and, List.nil_append, List.cons_append, List.append_nil, actionP, hf0, PR.bind, hdT_cons, HE5.out, he6]
      rw [hbad]
      exact S5.out.pan ⟨rfl, hg6⟩
    have S6 := Lib.hid (S5.out.call hP6 hg6)
    have N6 := Lib.hid (N5.out.call hg6 (by omega))
    clear S5 N5
    have HE6 := Lib.hid he6
    clear H he6 hP6 hg6
    obtain ⟨t1, r1, hlt1⟩ := S6.out.ps.ends.ne
    subst hlt1
    cases hf1 : (t1.text == kNondet)
    case false =>
      have H := Lib.hid (at_any B t1 r1 d kNondet _ S6.out.ps)
      rw [hf1] at H
      go_wp2_with fail
      refine (H.out).mono ?_
      rintro e w7 ⟨rfl, hb7⟩
      have S7 := Lib.hid (S6.out.below hb7)
      have N7 := Lib.hid (N6.out.below hb7)
      clear S6 N6
      clear H hb7
      cases hf2 : (atCallB (t1 :: r1))
      case false =>
        have H := Lib.hid (atCall_any B (t1 :: r1) d _ S7.out.ps)
        rw [hf2] at H
        go_wp2_with fail
        refine (H.out).mono ?_
        rintro e w8 ⟨rfl, hb8⟩
        have S8 := Lib.hid (S7.out.below hb8)
        have N8 := Lib.hid (N7.out.below hb8)
        clear S7 N7
        clear H hb8
        have hnoc : exprP rec d (t1 :: r1) ≠ .out := fun e => HNO.out (by simp only [Bool.false_eq_true, if_false, if_true, reduceIte, Bool.not_false, Bool.not_true, Bool.false_or, Bool.true_or, Bool.or_false, Bool.or_true, Bool.and_true, Bool.and_false, Bool.false_and, Bool.true_and, List.nil_append, List.cons_append, List.append_nil, actionP, hf0, hf1, hf2, PR.bind, hdT_cons, HE5.out, HE6.out, e])
        have HNOC := Lib.hid hnoc
        clear hnoc
        have S9d := Lib.hid S8.out.drew
        have N9d := Lib.hid N8.out.drew
        clear S8 N8
        go_wp2_with fail
        have hcl := N9d.out.nd.c5
        refine wp_region_T (S := fun w' => w'.cell? ⟨w3.heap.size, 5, none⟩ = some (.slice qq5 nn5 cc5)) (tail := fun i => decide (5 ≤ i)) (by kernel_rfl) ?_
        change wpAnyT _ _ _ _ _ _ _ _ _ (World.drew _)
        refine wpAnyT_take (i := 0) (d := 26) (v := .pointer (some ⟨w3.heap.size, 5, none⟩)) rfl rfl (by kernel_rfl) (fun _ _ _ h => h) (by rfl) ?y0 hcl ?_
        case y0 => intro w' hw'; go_simp
        try simp only [Act.put, List.setIfInBounds_toArray, List.set_cons_zero, List.set_cons_succ]
        refine wpAnyT_take (i := 1) (d := 27) (v := .slice qq5 nn5 cc5) rfl rfl (by kernel_rfl) (fun _ _ _ h => h) (by rfl) ?y1 hcl ?_
        case y1 => intro w' hw'; go_simp
        try simp only [Act.put, List.setIfInBounds_toArray, List.set_cons_zero, List.set_cons_succ]
        refine wpAnyT_take (i := 2) (d := 28) (v := .pointer (some ⟨B, 0, none⟩)) rfl rfl (by kernel_rfl) (fun _ _ _ h => h) (by rfl) ?y2 hcl ?_
        case y2 => intro w' hw'; go_simp
        try simp only [Act.put, List.setIfInBounds_toArray, List.set_cons_zero, List.set_cons_succ]
        refine wpAnyT_one (i := 3) rfl (by kernel_rfl) (by rfl) (fun K hK => ?_)
        go_simp
        have HC := HEX.out B (t1 :: r1) _ S9d.out.ps HNOC.out
        refine HC.mono ?_
        intro e w9a hq
        rcases hq.cases HNOC.out with ⟨t9, l9, q9, n9, c9, he9, rfl, hb6, hP6, hg6⟩ | ⟨ln, c, code, he9, rfl, hg6⟩
        rotate_left
        · refine ⟨rfl, ?_⟩
          have hbad : (actionP rec n d) (t :: r) = .bad ln c code := by simp only [Bool.false_eq_true, if_false, if_true, reduceIte, Bool.not_false, Bool.not_true, Bool.false_or, Bool.true_or, Bool.or_false, Bool.or_true, Bool.and_true, Bool.and_false, Bool.false_and, Bool.true_and, List.nil_append, List.cons_append, List.append_nil, actionP, hf0, hf1, hf2, PR.bind, hdT_cons, HE5.out, HE6.out, he9]
          rw [hbad]
          exact S9d.out.pan ⟨rfl, hg6⟩
        have S6 := Lib.hid (S9d.out.call hP6 hg6)
        have N6 := Lib.hid (N9d.out.call hg6 (by omega))
        have HB6 := Lib.hid hb6
        have hbl := N9d.out.bd.lt
        have c6' := N6.out.nd.c5
        have f6' := N6.out.nd.f 5 (by omega)
        have hs6 := N6.out.lt
        have hsz5 := N9d.out.lt
        have hsz6 := hg6.size
        clear hP6 hg6 hb6 HC hq S9d N9d
        unfold nodeV
        refine hK.out _ _ (fun _ => c6') ?_
        clear hK K
        try simp only [Act.put, List.setIfInBounds_toArray, List.set_cons_zero, List.set_cons_succ]
        refine wpAnyT_one (i := 4) rfl (by kernel_rfl) (by rfl) (fun K hK => ?_)
        go_simp
        refine hK.out _ _ (fun _ => by go_simp) ?_
        clear hK K
        try simp only [Act.put, List.setIfInBounds_toArray, List.set_cons_zero, List.set_cons_succ]
        refine wpAnyT_one (i := 5) rfl (by kernel_rfl) (by rfl) (fun K hK => ?_)
        refine append_at (dd := 31) (t := t9) (u := .slice q9 n9 c9) _ _ rfl rfl N6.out.bd HB6.out (by omega) (fun g hg => (hbl g hg).2) hsz6 rfl rfl rfl (by simp) (fun v7 w9 hb7 hg7 => ?_)
        refine hK.out _ _ (fun h => absurd h (by decide)) ?_
        clear hK K
        obtain ⟨qq9, nn9, cc9, rfl⟩ := hb7.shape
        have hff := app_fin S6.out N6.out hwN hb7 hg7
        have hs7 : w9.frozen? ⟨w3.heap.size, 5, none⟩ = false := ((N6.out.nd.grown (World.grownBy_alloc w9a _ none) (by simp)).grown hg7 (fun e => by have := (hbl _ e.symm).1; omega)).f 5 (by omega)
        have hd7 := ((N6.out.nd.grown (World.grownBy_alloc w9a _ none) (by simp)).grown hg7 (fun e => by have := (hbl _ e.symm).1; omega)).c5
        have HFF := Lib.hid hff
        clear hff hb7 hg7 S6 N6 HB6 hbl hcl c6' f6' hsz5 hsz6
        try simp only [Act.put, List.setIfInBounds_toArray, List.set_cons_zero, List.set_cons_succ]
        refine wpAnyT_one (i := 6) rfl (by kernel_rfl) (by rfl) (fun K hK => ?_)
        go_simp
        refine hK.out _ _ (fun h => absurd h (by decide)) ?_
        clear hK K
        try simp only [Act.put, List.setIfInBounds_toArray, List.set_cons_zero, List.set_cons_succ]
        refine wpAnyT_one (i := 7) rfl (by kernel_rfl) (by rfl) (fun K hK => ?_)
        go_simp
        refine hK.out _ _ (fun h => absurd h (by decide)) ?_
        clear hK K
        try simp only [Act.put, List.setIfInBounds_toArray, List.set_cons_zero, List.set_cons_succ]
        refine wpAnyT_done (by kernel_rfl) ?_ _
        clear hs7 hd7
        have S9 := Lib.hid HFF.out.1
        have N9 := Lib.hid HFF.out.2
        have HE9 := Lib.hid he9
        clear HFF he9 HNOC
        have hszn := N9.out.lt
        simp only [World.size_setCell] at hszn
        have H := Lib.hid (pass_lit (S := w9.heap.size) [[59]] S9.out.ps (by simp) (by simp) (by simp))
        simp only [List.map, List.length] at H
        go_wp2_with fail
        refine (H.out).mono ?_
        rintro e w10 (⟨l10, he10, rfl, hP10, hg10⟩ | ⟨ln, c, code, he10, rfl, hg10⟩)
        rotate_left
        · refine ⟨rfl, ?_⟩
          have hbad : (actionP rec n d) (t :: r) = .bad ln c code := by simp only [Bool.false_eq_true, if_false, if_true, reduceIte, Bool.not_false, Bool.not_true, Bool.false_or, Bool.true_or, Bool.or_false, Bool.or_true, Bool.and_true, Bool.and_false, Bool.false_and, Bool.true_and, List.nil_append, List.cons_append, List.append_nil, actionP, hf0, hf1, hf2, PR.bind, hdT_cons, HE5.out, HE6.out, HE9.out, he10]
          rw [hbad]
          exact S9.out.pan ⟨rfl, hg10⟩
        have S10 := Lib.hid (S9.out.call hP10 hg10)
        have N10 := Lib.hid (N9.out.call hg10 (by omega))
        clear S9 N9
        have HE10 := Lib.hid he10
        clear H he10 hP10 hg10
        have S9 := S10.out
        have N9 := N10.out
        have hs1 := S9.lt
        have hs2 := N9.lt
        try simp only [World.size_setCell, World.size_alloc] at hs1 hs2
        have hr := S9.res
        have r0 := hr.c0; have r1' := hr.c1; have r2 := hr.c2; have r3 := hr.c3; have r4 := hr.c4; have r5 := hr.c5
        have g0 := hr.f 0 (by omega); have g1 := hr.f 1 (by omega); have g2 := hr.f 2 (by omega); have g3 := hr.f 3 (by omega); have g4 := hr.f 4 (by omega); have g5 := hr.f 5 (by omega)
        clear hr
        have hq := N9.nd
        have qn0 := hq.c0; have qn1 := hq.c1; have qn2 := hq.c2; have qn3 := hq.c3; have qn4 := hq.c4; have qn5 := hq.c5
        clear hq
        have HS9 := Lib.hid S9
        have HN9 := Lib.hid N9
        clear S9 N9 S10 N10
        unfold kAssign at qn0
        go_wp2
        refine bodyPost_ret (v := nodeV (.mk kAssign [] 0 t.line t.col [t5, t9]) (.slice qq9 nn9 cc9)) (by simp [results, Tryz.results124, go_sem, nodeV, Tree.kind, Tree.text, Tree.num, Tree.line, Tree.col, Tree.kids, kProgram, kGlobal, kFunc, kParam, kType, kNum, kBlock, kLocal, kIf, kElse, kWhile, kReturn, kAssert, kAssume, kAssign, kNondet, kResult, kCall, kName, kIndex, kBinary, kUnary, kCast, kTrue, kFalse, kVoid, *]) rfl ?_
        have hgood : (actionP rec n d) (t :: r) = .ok (.mk kAssign [] 0 t.line t.col [t5, t9]) l10 := by simp only [Bool.false_eq_true, if_false, if_true, reduceIte, Bool.not_false, Bool.not_true, Bool.false_or, Bool.true_or, Bool.or_false, Bool.or_true, Bool.and_true, Bool.and_false, Bool.false_and, Bool.true_and, List.nil_append, List.cons_append, List.append_nil, actionP, hf0, hf1, hf2, PR.bind, hdT_cons, HE5.out, HE6.out, HE9.out, HE10.out]
        rw [hgood]
        exact HS9.out.fin (HN9.out.bd.mono (by omega)) _ _ _ _ _ _
      case true =>
        have H := Lib.hid (atCall_any B (t1 :: r1) d _ S7.out.ps)
        rw [hf2] at H
        go_wp2_with fail
        refine (H.out).mono ?_
        rintro e w8 ⟨rfl, hb8⟩
        have S8 := Lib.hid (S7.out.below hb8)
        have N8 := Lib.hid (N7.out.below hb8)
        clear S7 N7
        clear H hb8
        have hk0 := N8.out.nd.c0
        have hkf := N8.out.nd.f 0 (by omega)
        have S9 := Lib.hid (S8.out.setN hwN 0 (.string ⟨kResult.toArray⟩))
        have N9 := Lib.hid (N8.out.setK kResult)
        clear S8 N8
        have hnoc : callP rec n d (t1 :: r1) ≠ .out := fun e => HNO.out (by simp only [Bool.false_eq_true, if_false, if_true, reduceIte, Bool.not_false, Bool.not_true, Bool.false_or, Bool.true_or, Bool.or_false, Bool.or_true, Bool.and_true, Bool.and_false, Bool.false_and, Bool.true_and, List.nil_append, List.cons_append, List.append_nil, actionP, hf0, hf1, hf2, PR.bind, hdT_cons, HE5.out, HE6.out, e])
        have HNOC := Lib.hid hnoc
        clear hnoc
        have S10d := Lib.hid S9.out.drew
        have N10d := Lib.hid N9.out.drew
        clear S9 N9
        go_wp2_with fail
        have hcl := N10d.out.nd.c5
        refine wp_region_T (S := fun w' => w'.cell? ⟨w3.heap.size, 5, none⟩ = some (.slice qq5 nn5 cc5)) (tail := fun i => decide (5 ≤ i)) (by kernel_rfl) ?_
        change wpAnyT _ _ _ _ _ _ _ _ _ (World.drew _)
        refine wpAnyT_take (i := 0) (d := 44) (v := .pointer (some ⟨w3.heap.size, 5, none⟩)) rfl rfl (by kernel_rfl) (fun _ _ _ h => h) (by rfl) ?y0 hcl ?_
        case y0 => intro w' hw'; go_simp
        try simp only [Act.put, List.setIfInBounds_toArray, List.set_cons_zero, List.set_cons_succ]
        refine wpAnyT_take (i := 1) (d := 45) (v := .slice qq5 nn5 cc5) rfl rfl (by kernel_rfl) (fun _ _ _ h => h) (by rfl) ?y1 hcl ?_
        case y1 => intro w' hw'; go_simp
        try simp only [Act.put, List.setIfInBounds_toArray, List.set_cons_zero, List.set_cons_succ]
        refine wpAnyT_take (i := 2) (d := 46) (v := .pointer (some ⟨B, 0, none⟩)) rfl rfl (by kernel_rfl) (fun _ _ _ h => h) (by rfl) ?y2 hcl ?_
        case y2 => intro w' hw'; go_simp
        try simp only [Act.put, List.setIfInBounds_toArray, List.set_cons_zero, List.set_cons_succ]
        refine wpAnyT_one (i := 3) rfl (by kernel_rfl) (by rfl) (fun K hK => ?_)
        go_simp
        have HC := HCL.out B (t1 :: r1) _ S10d.out.ps HNOC.out
        refine HC.mono ?_
        intro e w10a hq
        rcases hq.cases HNOC.out with ⟨t10, l10, q10, n10, c10, he10, rfl, hb6, hP6, hg6⟩ | ⟨ln, c, code, he10, rfl, hg6⟩
        rotate_left
        · refine ⟨rfl, ?_⟩
          have hbad : (actionP rec n d) (t :: r) = .bad ln c code := by simp only [Bool.false_eq_true, if_false, if_true, reduceIte, Bool.not_false, Bool.not_true, Bool.false_or, Bool.true_or, Bool.or_false, Bool.or_true, Bool.and_true, Bool.and_false, Bool.false_and, Bool.true_and, List.nil_append, List.cons_append, List.append_nil, actionP, hf0, hf1, hf2, PR.bind, hdT_cons, HE5.out, HE6.out, he10]
          rw [hbad]
          exact S10d.out.pan ⟨rfl, hg6⟩
        have S6 := Lib.hid (S10d.out.call hP6 hg6)
        have N6 := Lib.hid (N10d.out.call hg6 (by omega))
        have HB6 := Lib.hid hb6
        have hbl := N10d.out.bd.lt
        have c6' := N6.out.nd.c5
        have f6' := N6.out.nd.f 5 (by omega)
        have hs6 := N6.out.lt
        have hsz5 := N10d.out.lt
        have hsz6 := hg6.size
        clear hP6 hg6 hb6 HC hq S10d N10d
        unfold nodeV
        refine hK.out _ _ (fun _ => c6') ?_
        clear hK K
        try simp only [Act.put, List.setIfInBounds_toArray, List.set_cons_zero, List.set_cons_succ]
        refine wpAnyT_one (i := 4) rfl (by kernel_rfl) (by rfl) (fun K hK => ?_)
        go_simp
        refine hK.out _ _ (fun _ => by go_simp) ?_
        clear hK K
        try simp only [Act.put, List.setIfInBounds_toArray, List.set_cons_zero, List.set_cons_succ]
        refine wpAnyT_one (i := 5) rfl (by kernel_rfl) (by rfl) (fun K hK => ?_)
        refine append_at (dd := 49) (t := t10) (u := .slice q10 n10 c10) _ _ rfl rfl N6.out.bd HB6.out (by omega) (fun g hg => (hbl g hg).2) hsz6 rfl rfl rfl (by simp) (fun v7 w10 hb7 hg7 => ?_)
        refine hK.out _ _ (fun h => absurd h (by decide)) ?_
        clear hK K
        obtain ⟨qq10, nn10, cc10, rfl⟩ := hb7.shape
        have hff := app_fin S6.out N6.out hwN hb7 hg7
        have hs7 : w10.frozen? ⟨w3.heap.size, 5, none⟩ = false := ((N6.out.nd.grown (World.grownBy_alloc w10a _ none) (by simp)).grown hg7 (fun e => by have := (hbl _ e.symm).1; omega)).f 5 (by omega)
        have hd7 := ((N6.out.nd.grown (World.grownBy_alloc w10a _ none) (by simp)).grown hg7 (fun e => by have := (hbl _ e.symm).1; omega)).c5
        have HFF := Lib.hid hff
        clear hff hb7 hg7 S6 N6 HB6 hbl hcl c6' f6' hsz5 hsz6
        try simp only [Act.put, List.setIfInBounds_toArray, List.set_cons_zero, List.set_cons_succ]
        refine wpAnyT_one (i := 6) rfl (by kernel_rfl) (by rfl) (fun K hK => ?_)
        go_simp
        refine hK.out _ _ (fun h => absurd h (by decide)) ?_
        clear hK K
        try simp only [Act.put, List.setIfInBounds_toArray, List.set_cons_zero, List.set_cons_succ]
        refine wpAnyT_one (i := 7) rfl (by kernel_rfl) (by rfl) (fun K hK => ?_)
        go_simp
        refine hK.out _ _ (fun h => absurd h (by decide)) ?_
        clear hK K
        try simp only [Act.put, List.setIfInBounds_toArray, List.set_cons_zero, List.set_cons_succ]
        refine wpAnyT_done (by kernel_rfl) ?_ _
        clear hs7 hd7
        have S10 := Lib.hid HFF.out.1
        have N10 := Lib.hid HFF.out.2
        have HE10 := Lib.hid he10
        clear HFF he10 HNOC
        have hszn := N10.out.lt
        simp only [World.size_setCell] at hszn
        have H := Lib.hid (pass_lit (S := w10.heap.size) [[59]] S10.out.ps (by simp) (by simp) (by simp))
        simp only [List.map, List.length] at H
        go_wp2_with fail
        refine (H.out).mono ?_
        rintro e w11 (⟨l11, he11, rfl, hP11, hg11⟩ | ⟨ln, c, code, he11, rfl, hg11⟩)
        rotate_left
        · refine ⟨rfl, ?_⟩
          have hbad : (actionP rec n d) (t :: r) = .bad ln c code := by simp only [Bool.false_eq_true, if_false, if_true, reduceIte, Bool.not_false, Bool.not_true, Bool.false_or, Bool.true_or, Bool.or_false, Bool.or_true, Bool.and_true, Bool.and_false, Bool.false_and, Bool.true_and, List.nil_append, List.cons_append, List.append_nil, actionP, hf0, hf1, hf2, PR.bind, hdT_cons, HE5.out, HE6.out, HE10.out, he11]
          rw [hbad]
          exact S10.out.pan ⟨rfl, hg11⟩
        have S11 := Lib.hid (S10.out.call hP11 hg11)
        have N11 := Lib.hid (N10.out.call hg11 (by omega))
        clear S10 N10
        have HE11 := Lib.hid he11
        clear H he11 hP11 hg11
        have S9 := S11.out
        have N9 := N11.out
        have hs1 := S9.lt
        have hs2 := N9.lt
        try simp only [World.size_setCell, World.size_alloc] at hs1 hs2
        have hr := S9.res
        have r0 := hr.c0; have r1' := hr.c1; have r2 := hr.c2; have r3 := hr.c3; have r4 := hr.c4; have r5 := hr.c5
        have g0 := hr.f 0 (by omega); have g1 := hr.f 1 (by omega); have g2 := hr.f 2 (by omega); have g3 := hr.f 3 (by omega); have g4 := hr.f 4 (by omega); have g5 := hr.f 5 (by omega)
        clear hr
        have hq := N9.nd
        have qn0 := hq.c0; have qn1 := hq.c1; have qn2 := hq.c2; have qn3 := hq.c3; have qn4 := hq.c4; have qn5 := hq.c5
        clear hq
        have HS9 := Lib.hid S9
        have HN9 := Lib.hid N9
        clear S9 N9 S11 N11
        unfold kResult at qn0
        go_wp2
        refine bodyPost_ret (v := nodeV (.mk kResult [] 0 t.line t.col [t5, t10]) (.slice qq10 nn10 cc10)) (by simp [results, Tryz.results124, go_sem, nodeV, Tree.kind, Tree.text, Tree.num, Tree.line, Tree.col, Tree.kids, kProgram, kGlobal, kFunc, kParam, kType, kNum, kBlock, kLocal, kIf, kElse, kWhile, kReturn, kAssert, kAssume, kAssign, kNondet, kResult, kCall, kName, kIndex, kBinary, kUnary, kCast, kTrue, kFalse, kVoid, *]) rfl ?_
        have hgood : (actionP rec n d) (t :: r) = .ok (.mk kResult [] 0 t.line t.col [t5, t10]) l11 := by simp only [Bool.false_eq_true, if_false, if_true, reduceIte, Bool.not_false, Bool.not_true, Bool.false_or, Bool.true_or, Bool.or_false, Bool.or_true, Bool.and_true, Bool.and_false, Bool.false_and, Bool.true_and, List.nil_append, List.cons_append, List.append_nil, actionP, hf0, hf1, hf2, PR.bind, hdT_cons, HE5.out, HE6.out, HE10.out, HE11.out]
        rw [hgood]
        exact HS9.out.fin (HN9.out.bd.mono (by omega)) _ _ _ _ _ _
    case true =>
      have H := Lib.hid (at_any B t1 r1 d kNondet _ S6.out.ps)
      rw [hf1] at H
      go_wp2_with fail
      refine (H.out).mono ?_
      rintro e w7 ⟨rfl, hb7⟩
      have S7 := Lib.hid (S6.out.below hb7)
      have N7 := Lib.hid (N6.out.below hb7)
      clear S6 N6
      clear H hb7
      have H := Lib.hid (pass_lit (S := w7.heap.size) [kNondet, [40], [41]] S7.out.ps (by simp [*, kProgram, kGlobal, kFunc, kParam, kType, kNum, kBlock, kLocal, kIf, kElse, kWhile, kReturn, kAssert, kAssume, kAssign, kNondet, kResult, kCall, kName, kIndex, kBinary, kUnary, kCast, kTrue, kFalse, kVoid]) (by simp) (by simp))
      simp only [List.map, List.length] at H
      go_wp2_with fail
      refine (H.out).mono ?_
      rintro e w8 (⟨l8, he8, rfl, hP8, hg8⟩ | ⟨ln, c, code, he8, rfl, hg8⟩)
      rotate_left
      · refine ⟨rfl, ?_⟩
        have hbad : (actionP rec n d) (t :: r) = .bad ln c code := by simp only [Bool.false_eq_true, if_false, if_true, reduceIte, Bool.not_false, Bool.not_true, Bool.false_or, Bool.true_or, Bool.or_false, Bool.or_true, Bool.and_true, Bool.and_false, Bool.false_and, Bool.true_and, List.nil_append, List.cons_append, List.append_nil, actionP, hf0, hf1, PR.bind, hdT_cons, HE5.out, HE6.out, he8]
        rw [hbad]
        exact S7.out.pan ⟨rfl, hg8⟩
      have S8 := Lib.hid (S7.out.call hP8 hg8)
      have N8 := Lib.hid (N7.out.call hg8 (by omega))
      clear S7 N7
      have HE8 := Lib.hid he8
      clear H he8 hP8 hg8
      have hk0 := N8.out.nd.c0
      have hkf := N8.out.nd.f 0 (by omega)
      have S9 := Lib.hid (S8.out.setN hwN 0 (.string ⟨kNondet.toArray⟩))
      have N9 := Lib.hid (N8.out.setK kNondet)
      clear S8 N8
      have H := Lib.hid (pass_lit (S := w8.heap.size) [[59]] S9.out.ps (by simp) (by simp) (by simp))
      simp only [List.map, List.length] at H
      go_wp2_with fail
      refine (H.out).mono ?_
      rintro e w10 (⟨l10, he10, rfl, hP10, hg10⟩ | ⟨ln, c, code, he10, rfl, hg10⟩)
      rotate_left
      · refine ⟨rfl, ?_⟩
        have hbad : (actionP rec n d) (t :: r) = .bad ln c code := by simp only [Bool.false_eq_true, if_false, if_true, reduceIte, Bool.not_false, Bool.not_true, Bool.false_or, Bool.true_or, Bool.or_false, Bool.or_true, Bool.and_true, Bool.and_false, Bool.false_and, Bool.true_and, List.nil_append, List.cons_append, List.append_nil, actionP, hf0, hf1, PR.bind, hdT_cons, HE5.out, HE6.out, HE8.out, he10]
        rw [hbad]
        exact S9.out.pan ⟨rfl, hg10⟩
      have S10 := Lib.hid (S9.out.call hP10 hg10)
      have N10 := Lib.hid (N9.out.call hg10 (by omega))
      clear S9 N9
      have HE10 := Lib.hid he10
      clear H he10 hP10 hg10
      have S9 := S10.out
      have N9 := N10.out
      have hs1 := S9.lt
      have hs2 := N9.lt
      try simp only [World.size_setCell, World.size_alloc] at hs1 hs2
      have hr := S9.res
      have r0 := hr.c0; have r1' := hr.c1; have r2 := hr.c2; have r3 := hr.c3; have r4 := hr.c4; have r5 := hr.c5
      have g0 := hr.f 0 (by omega); have g1 := hr.f 1 (by omega); have g2 := hr.f 2 (by omega); have g3 := hr.f 3 (by omega); have g4 := hr.f 4 (by omega); have g5 := hr.f 5 (by omega)
      clear hr
      have hq := N9.nd
      have qn0 := hq.c0; have qn1 := hq.c1; have qn2 := hq.c2; have qn3 := hq.c3; have qn4 := hq.c4; have qn5 := hq.c5
      clear hq
      have HS9 := Lib.hid S9
      have HN9 := Lib.hid N9
      clear S9 N9 S10 N10
      unfold kNondet at qn0
      go_wp2
      refine bodyPost_ret (v := nodeV (.mk kNondet [] 0 t.line t.col [t5]) (.slice qq5 nn5 cc5)) (by simp [results, Tryz.results124, go_sem, nodeV, Tree.kind, Tree.text, Tree.num, Tree.line, Tree.col, Tree.kids, kProgram, kGlobal, kFunc, kParam, kType, kNum, kBlock, kLocal, kIf, kElse, kWhile, kReturn, kAssert, kAssume, kAssign, kNondet, kResult, kCall, kName, kIndex, kBinary, kUnary, kCast, kTrue, kFalse, kVoid, *]) rfl ?_
      have hgood : (actionP rec n d) (t :: r) = .ok (.mk kNondet [] 0 t.line t.col [t5]) l10 := by simp only [Bool.false_eq_true, if_false, if_true, reduceIte, Bool.not_false, Bool.not_true, Bool.false_or, Bool.true_or, Bool.or_false, Bool.or_true, Bool.and_true, Bool.and_false, Bool.false_and, Bool.true_and, List.nil_append, List.cons_append, List.append_nil, actionP, hf0, hf1, PR.bind, hdT_cons, HE5.out, HE6.out, HE8.out, HE10.out]
      rw [hgood]
      exact HS9.out.fin (HN9.out.bd.mono (by omega)) _ _ _ _ _ _
  case true =>
    have H := Lib.hid (atCall_any B (t :: r) d _ S0.out.ps)
    rw [hf0] at H
    go_wp2_with fail
    refine (H.out).mono ?_
    rintro e w1 ⟨rfl, hb1⟩
    have S1 := Lib.hid (S0.out.below hb1)
    clear S0
    clear H hb1
    have hnoc : callP rec n d (t :: r) ≠ .out := fun e => HNO.out (by simp only [Bool.false_eq_true, if_false, if_true, reduceIte, Bool.not_false, Bool.not_true, Bool.false_or, Bool.true_or, Bool.or_false, Bool.or_true, Bool.and_true, Bool.and_false, Bool.false_and, Bool.true_and, List.nil_append, List.cons_append, List.append_nil, actionP, hf0, PR.bind, hdT_cons, e])
    have HC := Lib.hid (HCL.out B (t :: r) _ S1.out.ps hnoc)
    have HNOC := Lib.hid hnoc
    clear hnoc
    go_wp2_with fail
    refine (HC.out).mono ?_
    intro e w2 hq
    rcases hq.cases HNOC.out with ⟨t2, l2, q2, n2, c2, he2, rfl, hb2, hP2, hg2⟩ | ⟨ln, c, code, he2, rfl, hg2⟩
    rotate_left
    · refine ⟨rfl, ?_⟩
      have hbad : (actionP rec n d) (t :: r) = .bad ln c code := by simp only [Bool.false_eq_true, if_false, if_true, reduceIte, Bool.not_false, Bool.not_true, Bool.false_or, Bool.true_or, Bool.or_false, Bool.or_true, Bool.and_true, Bool.and_false, Bool.false_and, Bool.true_and, List.nil_append, List.cons_append, List.append_nil, actionP, hf0, PR.bind, hdT_cons, he2]
      rw [hbad]
      exact S1.out.pan ⟨rfl, hg2⟩
    have hwN : w.heap.size < w2.heap.size := (S1.out.call hP2 hg2).lt
    have N2 := Lib.hid (Hd.put t2 (hb2.mono (lo' := w.heap.size + 1) S1.out.lt))
    have S2 := Lib.hid ((S1.out.call hP2 hg2).alloc (nodO t2.kind t2.text t2.num t2.line t2.col (.slice q2 n2 c2)))
    have HE2 := Lib.hid he2
    clear hq hb2 hP2 hg2 he2 HC HNOC S1
    unfold nodeV nodO at *
    have H := Lib.hid (pass_lit (S := w2.heap.size + 1) [[59]] S2.out.ps (by simp) (by simp) (by simp))
    simp only [List.map, List.length] at H
    go_wp2_with fail
    refine (H.out).mono ?_
    rintro e w3 (⟨l3, he3, rfl, hP3, hg3⟩ | ⟨ln, c, code, he3, rfl, hg3⟩)
    rotate_left
    · refine ⟨rfl, ?_⟩
      have hbad : (actionP rec n d) (t :: r) = .bad ln c code := by simp only [Bool.false_eq_true, if_false, if_true, reduceIte, Bool.not_false, Bool.not_true, Bool.false_or, Bool.true_or, Bool.or_false, Bool.or_true, Bool.and_true, Bool.and_false, Bool.false_and, Bool.true_and, List.nil_append, List.cons_append, List.append_nil, actionP, hf0, PR.bind, hdT_cons, HE2.out, he3]
      rw [hbad]
      exact S2.out.pan ⟨rfl, hg3⟩
    have S3 := Lib.hid (S2.out.call hP3 hg3)
    have N3 := Lib.hid (N2.out.call hg3 (by omega))
    clear S2 N2
    have HE3 := Lib.hid he3
    clear H he3 hP3 hg3
    have S9 := S3.out
    have N9 := N3.out
    have hs1 := S9.lt
    have hs2 := N9.lt
    try simp only [World.size_setCell, World.size_alloc] at hs1 hs2
    have hr := S9.res
    have r0 := hr.c0; have r1' := hr.c1; have r2 := hr.c2; have r3 := hr.c3; have r4 := hr.c4; have r5 := hr.c5
    have g0 := hr.f 0 (by omega); have g1 := hr.f 1 (by omega); have g2 := hr.f 2 (by omega); have g3 := hr.f 3 (by omega); have g4 := hr.f 4 (by omega); have g5 := hr.f 5 (by omega)
    clear hr
    have hq := N9.nd
    have qn0 := hq.c0; have qn1 := hq.c1; have qn2 := hq.c2; have qn3 := hq.c3; have qn4 := hq.c4; have qn5 := hq.c5
    clear hq
    have HS9 := Lib.hid S9
    have HN9 := Lib.hid N9
    clear S9 N9 S3 N3
    skip
    go_wp2
    refine bodyPost_ret (v := nodeV t2 (.slice q2 n2 c2)) (by simp [results, Tryz.results124, go_sem, nodeV, Tree.kind, Tree.text, Tree.num, Tree.line, Tree.col, Tree.kids, kProgram, kGlobal, kFunc, kParam, kType, kNum, kBlock, kLocal, kIf, kElse, kWhile, kReturn, kAssert, kAssume, kAssign, kNondet, kResult, kCall, kName, kIndex, kBinary, kUnary, kCast, kTrue, kFalse, kVoid, *]) rfl ?_
    have hgood : (actionP rec n d) (t :: r) = .ok t2 l3 := by simp only [Bool.false_eq_true, if_false, if_true, reduceIte, Bool.not_false, Bool.not_true, Bool.false_or, Bool.true_or, Bool.or_false, Bool.or_true, Bool.and_true, Bool.and_false, Bool.false_and, Bool.true_and, List.nil_append, List.cons_append, List.append_nil, actionP, hf0, PR.bind, hdT_cons, HE2.out, HE3.out]
    rw [hgood]
    exact HS9.out.fin (HN9.out.bd.mono (by omega)) _ _ _ _ _ _
end Go.Proofs.YtnalgnklgmoepaaGreatDoor
