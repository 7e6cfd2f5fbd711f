/- The contract of operand. The contract of parenthesis. -/
import Derived.Test.YtnalgnklgmoepaaGreatDoorMbag
set_option linter.all false
namespace Go.Proofs.YtnalgnklgmoepaaGreatDoor
open Go Go.RowKit

theorem wpAnyT_two {P : Program} {ops : Array Oper} {Q : Exit → Act → World → Prop} {md : Region.Mode} {S : World → Prop} {tail : Nat → Bool} {i j : Nat} {o o' : Oper} {fuel : Nat} {listed : Array Bool} {a : Act} {w : World} (hi : ops[i]? = some o) (hj : ops[j]? = some o') (hr : Region.ready md ops listed = [i, j]) (hw : Region.wanted o (yielded ops a.tmps) = true) (hw' : Region.wanted o' (yielded ops a.tmps) = true)
    (h : ∀ K : Act → World → Prop, Shut (∀ a' w', (tail i = false → S w') → wpAnyT P md ops Q S tail fuel (listed.setIfInBounds i true) a' w' → K a' w') → o.wp P a w K Q)
    (h' : ∀ K : Act → World → Prop, Shut (∀ a' w', (tail j = false → S w') → wpAnyT P md ops Q S tail fuel (listed.setIfInBounds j true) a' w' → K a' w') → o'.wp P a w K Q) : wpAnyT P md ops Q S tail (fuel + 1) listed a w := by
  refine ⟨fun h0 => (by rw [hr] at h0; cases h0), fun k hk => ?_⟩
  rw [hr] at hk
  have hk' : k = i ∨ k = j := by simpa using hk
  rcases hk' with rfl | rfl
  · unfold wpOp
    simp only [hi, hw, if_true]
    exact .inl (h _ (fun a' w' h1 h2 => ⟨h1, h2⟩))
  · unfold wpOp
    simp only [hj, hw', if_true]
    exact .inl (h' _ (fun a' w' h1 h2 => ⟨h1, h2⟩))
/-- What a region leaves, whatever its order. -/
def CutPost (F : Act → Nat → Act) (a : Act) (I : Nat → World → Prop) (e : Exit) (a' : Act) (w' : World) : Prop :=
  match e with
  | .normal => ∃ N, a' = F a N ∧ I N w'
  | _ => False
theorem wp_cut {P : Program} {c : Code} {Q : Exit → Act → World → Prop} {a : Act} {w : World} (F : Act → Nat → Act) (I : Nat → World → Prop) (h : c.wp P (CutPost F a I) a w) (k : ∀ N w', I N w' → Q .normal (F a N) w') : c.wp P Q a w := by
  refine wp_mono h ?_
  intro e a' w' hq
  cases e with
  | normal =>
    obtain ⟨N, rfl, hI⟩ := hq
    exact k N w' hI
  | exit id => exact hq.elim
  | goto l => exact hq.elim
  | ret => exact hq.elim
  | panic ch => exact hq.elim
  | outgrown => exact hq.elim
/-- The region gives up. -/
def PanPost (ch : List PanicEntry) (I : World → Prop) (e : Exit) (a' : Act) (w' : World) : Prop :=
  match e with
  | .panic c => a'.defers = [] ∧ c = ch ∧ I w'
  | _ => False
theorem wp_pan {P : Program} {c : Code} {Q : Exit → Act → World → Prop} {a : Act} {w : World} (ch : List PanicEntry) (I : World → Prop) (h : c.wp P (PanPost ch I) a w) (k : ∀ a' w', a'.defers = [] → I w' → Q (.panic ch) a' w') : c.wp P Q a w := by
  refine wp_mono h ?_
  intro e a' w' hq
  cases e with
  | normal => exact hq.elim
  | exit id => exact hq.elim
  | goto l => exact hq.elim
  | ret => exact hq.elim
  | panic ch =>
    obtain ⟨h1, rfl, h2⟩ := hq
    exact k _ _ h1 h2
  | outgrown => exact hq.elim
theorem LNode.six {b : Nat} {k x : List UInt8} {n ln c : Int} {v : Value} {w : World} (h : LNode b k x n ln c v w) (k' x' : List UInt8) (n' ln' c' : Int) (v' : Value) :
    LNode b k' x' n' ln' c' v' (six w b (.string ⟨k'.toArray⟩) (.string ⟨x'.toArray⟩) (.int .u64 n') (.int .i64 ln') (.int .i64 c') v') := by
  have h0 := h.c0; have h1 := h.c1; have h2 := h.c2; have h3 := h.c3; have h4 := h.c4; have h5 := h.c5; have hf := h.f
  unfold Go.Proofs.YtnalgnklgmoepaaGreatDoor.six
  constructor
  case f => intro k hk; have := hf k hk; simp [go_sem, *]
  all_goals simp [go_sem, *]
theorem St.six {w0 : World} {B : Nat} {l : List Tok} {d : Int} {w : World} (h : St w0 B l d w) {k : Nat} (hk : w0.heap.size < k) (a b c d' e f : Value) : St w0 B l d (six w k a b c d' e f) := h.local (six_own w k a b c d' e f) (fun j e => by cases e; exact hk)

set_option maxHeartbeats 2000000 in
set_option maxRecDepth 100000 in
theorem operand_does (rec : NT → Int → List Tok → PR Tree) (d : Int) (he : Enters 150) (hop : Does 150 (fun p => #[p]) (d + 1) (rec .operand (d + 1))) (hpar : Does 151 (fun p => #[p]) d (parenP rec d)) (htar : Does 138 (fun p => #[p]) d (targetP rec d)) : Does 150 (fun p => #[p]) d (operandP rec d) := by
  intro B l w h hno
  obtain ⟨t, r, rfl⟩ := h.ends.ne
  have S0 := St.start h
  have hBw := S0.hB
  have HNO := Lib.hid hno
  have S0 := Lib.hid S0
  have hmf := makeFunc_run
  have hft := field_text
  have hfk := field_kind
  have HOP := Lib.hid (deeper_does 150 d (rec .operand) he hop)
  have HPA := Lib.hid hpar
  have HTR := Lib.hid htar
  have HNU := Lib.hid (number_does d)
  clear he hop hpar htar
  clear h hno
  unfold zero6 at *
  go_enter Tryz.func150, Tryz.ntmps150
  have H := Lib.hid (peek_any B t r d _ S0.out.ps)
  go_wp2_with fail
  refine (H.out).mono ?_
  rintro e w1 ⟨rfl, hb1⟩
  have S1 := Lib.hid (S0.out.below hb1)
  clear S0
  clear H hb1
  unfold tokW tokV at *
  have hwT : w.heap.size < w1.heap.size := S1.out.lt
  have L2 := Lib.hid (LTok.newO t w1)
  have S2 := Lib.hid (S1.out.alloc (tokO t))
  clear S1
  unfold tokO at *
  have l0 := L2.out.c0
  have l1 := L2.out.c1
  have l2' := L2.out.c2
  have l3' := L2.out.c3
  have l4' := L2.out.c4
  cases hk1 : (t.kind == 1)
  case false =>
    cases hk2 : (t.text == kTrue)
    case false =>
      have hm2 : (t.text == [116, 114, 117, 101]) = false := hk2
      cases hk3 : (t.text == kFalse)
      case false =>
        have hm3 : (t.text == [102, 97, 108, 115, 101]) = false := hk3
        cases hk4 : (unaryB t.text)
        case false =>
          have H := Lib.hid (unary_any t.text)
          rw [hk4] at H
          go_wp2_with fail
          refine (H.out _).mono ?_
          rintro e w3 ⟨rfl, rfl⟩
          clear H
          cases hk5 : (t.text == [40])
          case false =>
            clear l0 l1 l2' l3' l4'
            have hnoc : targetP rec d (t :: r) ≠ .out := fun e => HNO.out (by simp only [Bool.false_eq_true, if_false, if_true, reduceIte, Bool.not_false, Bool.not_true, Bool.false_or, Bool.true_or, Bool.or_false, Bool.or_true, Bool.and_true, Bool.and_false, Bool.false_and, Bool.true_and, List.nil_append, List.cons_append, List.append_nil, operandP, takeP, hk1, hk2, hk3, hk4, hk5, PR.bind, hdT_cons, e])
            have HC := Lib.hid (HTR.out B (t :: r) _ S2.out.ps hnoc)
            have HNOC := Lib.hid hnoc
            clear hnoc
            go_wp2_with fail
            refine (HC.out).mono ?_
            intro e w5 hq
            rcases hq.cases HNOC.out with ⟨t5, l5, q5, n5, c5, he5, rfl, hb5, hP5, hg5⟩ | ⟨ln, c, code, he5, rfl, hg5⟩
            rotate_left
            · refine ⟨rfl, ?_⟩
              have hbad : (operandP rec d) (t :: r) = .bad ln c code := by simp only [Bool.false_eq_true, if_false, if_true, reduceIte, Bool.not_false, Bool.not_true, Bool.false_or, Bool.true_or, Bool.or_false, Bool.or_true, Bool.and_true, Bool.and_false, Bool.false_and, Bool.true_and, List.nil_append, List.cons_append, List.append_nil, operandP, takeP, hk1, hk2, hk3, hk4, hk5, PR.bind, hdT_cons, he5]
              rw [hbad]
              exact S2.out.pan ⟨rfl, hg5⟩
            have S9 := S2.out.call hP5 hg5
            have HB := Lib.hid (hb5.mono (lo' := w.heap.size + 1) S2.out.lt)
            have HE := Lib.hid he5
            have hs1 := S9.lt
            have hr := S9.res
            have r0 := hr.c0; have r1' := hr.c1; have r2 := hr.c2; have r3 := hr.c3; have r4 := hr.c4; have r5 := hr.c5
            have g0 := hr.f 0 (by omega); have g1 := hr.f 1 (by omega); have g2 := hr.f 2 (by omega); have g3 := hr.f 3 (by omega); have g4 := hr.f 4 (by omega); have g5 := hr.f 5 (by omega)
            clear hr
            have HS9 := Lib.hid S9
            clear S9 hq hb5 hP5 hg5 he5 HC S2 L2
            unfold nodeV
            go_wp2
            refine bodyPost_ret (v := nodeV t5 (.slice q5 n5 c5)) (by simp [results, Tryz.results150, go_sem, nodeV, *]) rfl ?_
            have hgood : (operandP rec d) (t :: r) = .ok t5 l5 := by simp only [Bool.false_eq_true, if_false, if_true, reduceIte, Bool.not_false, Bool.not_true, Bool.false_or, Bool.true_or, Bool.or_false, Bool.or_true, Bool.and_true, Bool.and_false, Bool.false_and, Bool.true_and, List.nil_append, List.cons_append, List.append_nil, operandP, takeP, hk1, hk2, hk3, hk4, hk5, PR.bind, hdT_cons, HE.out]
            rw [hgood]
            exact HS9.out.fin HB.out _ _ _ _ _ _
          case true =>
            clear l0 l1 l2' l3' l4'
            have hnoc : parenP rec d (t :: r) ≠ .out := fun e => HNO.out (by simp only [Bool.false_eq_true, if_false, if_true, reduceIte, Bool.not_false, Bool.not_true, Bool.false_or, Bool.true_or, Bool.or_false, Bool.or_true, Bool.and_true, Bool.and_false, Bool.false_and, Bool.true_and, List.nil_append, List.cons_append, List.append_nil, operandP, takeP, hk1, hk2, hk3, hk4, hk5, PR.bind, hdT_cons, e])
            have HC := Lib.hid (HPA.out B (t :: r) _ S2.out.ps hnoc)
            have HNOC := Lib.hid hnoc
            clear hnoc
            go_wp2_with fail
            refine (HC.out).mono ?_
            intro e w5 hq
            rcases hq.cases HNOC.out with ⟨t5, l5, q5, n5, c5, he5, rfl, hb5, hP5, hg5⟩ | ⟨ln, c, code, he5, rfl, hg5⟩
            rotate_left
            · refine ⟨rfl, ?_⟩
              have hbad : (operandP rec d) (t :: r) = .bad ln c code := by simp only [Bool.false_eq_true, if_false, if_true, reduceIte, Bool.not_false, Bool.not_true, Bool.false_or, Bool.true_or, Bool.or_false, Bool.or_true, Bool.and_true, Bool.and_false, Bool.false_and, Bool.true_and, List.nil_append, List.cons_append, List.append_nil, operandP, takeP, hk1, hk2, hk3, hk4, hk5, PR.bind, hdT_cons, he5]
              rw [hbad]
              exact S2.out.pan ⟨rfl, hg5⟩
            have S9 := S2.out.call hP5 hg5
            have HB := Lib.hid (hb5.mono (lo' := w.heap.size + 1) S2.out.lt)
            have HE := Lib.hid he5
            have hs1 := S9.lt
            have hr := S9.res
            have r0 := hr.c0; have r1' := hr.c1; have r2 := hr.c2; have r3 := hr.c3; have r4 := hr.c4; have r5 := hr.c5
            have g0 := hr.f 0 (by omega); have g1 := hr.f 1 (by omega); have g2 := hr.f 2 (by omega); have g3 := hr.f 3 (by omega); have g4 := hr.f 4 (by omega); have g5 := hr.f 5 (by omega)
            clear hr
            have HS9 := Lib.hid S9
            clear S9 hq hb5 hP5 hg5 he5 HC S2 L2
            unfold nodeV
            go_wp2
            refine bodyPost_ret (v := nodeV t5 (.slice q5 n5 c5)) (by simp [results, Tryz.results150, go_sem, nodeV, *]) rfl ?_
            have hgood : (operandP rec d) (t :: r) = .ok t5 l5 := by simp only [Bool.false_eq_true, if_false, if_true, reduceIte, Bool.not_false, Bool.not_true, Bool.false_or, Bool.true_or, Bool.or_false, Bool.or_true, Bool.and_true, Bool.and_false, Bool.false_and, Bool.true_and, List.nil_append, List.cons_append, List.append_nil, operandP, takeP, hk1, hk2, hk3, hk4, hk5, PR.bind, hdT_cons, HE.out]
            rw [hgood]
            exact HS9.out.fin HB.out _ _ _ _ _ _
        case true =>
          have H := Lib.hid (unary_any t.text)
          rw [hk4] at H
          go_wp2_with fail
          refine (H.out _).mono ?_
          rintro e w3 ⟨rfl, rfl⟩
          clear H
          have hte : t.text ≠ [] := fun e => by rw [e] at hk4; exact absurd hk4 (by decide)
          clear l0 l1 l2' l3' l4'
          go_wp2_with fail
          refine wp_cut (fun a N => ((((((a.put (some 31) (.agg #[.int .i64 t.kind, .string ⟨t.text.toArray⟩, .int .u64 t.num, .int .i64 t.line, .int .i64 t.col])).put (some 32) (.pointer (some ⟨B, 0, none⟩))).put (some 33) (.agg #[.int .i64 t.kind, .string ⟨t.text.toArray⟩, .int .u64 t.num, .int .i64 t.line, .int .i64 t.col])).put (some 34) (.string ⟨t.text.toArray⟩)).put (some 35) (.agg #[.string ⟨kUnary.toArray⟩, .string ⟨t.text.toArray⟩, .int .u64 0, .int .i64 t.line, .int .i64 t.col, .slice none 0 0])).put (some 4) (.pointer (some ⟨N, 0, none⟩)))) (fun N w' => St w B r d w' ∧ Nd N kUnary t.text 0 t.line t.col (.slice none 0 0) [] w' ∧ w.heap.size < N ∧ LTok w1.heap.size t w') ?_ ?_
          · refine wp_region_T (S := fun w' => LTok w1.heap.size t w') (tail := fun _ => false) (by kernel_rfl) ?_
            change wpAnyT _ _ _ _ _ _ _ _ _ (World.drew _)
            have SS := Lib.hid S2.out.drew
            have LL := Lib.hid (L2.out.below (Below.refl _ _).drew)
            generalize World.drew _ = wd at *
            have hwd := SS.out.lt
            have hwl := LL.out.lt
            refine wpAnyT_take (i := 0) (d := 31) (v := .agg #[.int .i64 t.kind, .string ⟨t.text.toArray⟩, .int .u64 t.num, .int .i64 t.line, .int .i64 t.col]) rfl rfl (by kernel_rfl) (fun _ _ _ h => h) (by rfl) ?y1 LL.out ?_
            case y1 => intro w' hw'; have h0 := hw'.c0; have h1 := hw'.c1; have h2 := hw'.c2; have h3 := hw'.c3; have h4 := hw'.c4; go_simp
            try simp only [Act.put, List.setIfInBounds_toArray, List.set_cons_zero, List.set_cons_succ]
            refine wpAnyT_take (i := 1) (d := 32) (v := .pointer (some ⟨B, 0, none⟩)) rfl rfl (by kernel_rfl) (fun _ _ _ h => h) (by rfl) ?y2 LL.out ?_
            case y2 => intro w' hw'; go_simp
            try simp only [Act.put, List.setIfInBounds_toArray, List.set_cons_zero, List.set_cons_succ]
            refine wpAnyT_two (i := 2) (j := 5) rfl rfl (by kernel_rfl) (by rfl) (by rfl) (fun K hK => ?_) (fun K hK => ?_)
            · go_simp
              refine (take_yes B t r d _ SS.out.ps hte).mono ?_
              rintro e v5 ⟨rfl, hP, hg⟩
              have S5x := Lib.hid (SS.out.call hP hg)
              have L5x := Lib.hid (LL.out.grown hg (by simp; omega))
              have hss5 := S5x.out.lt
              have hll5 := L5x.out.lt
              unfold tokW tokV
              refine hK.out _ _ (fun _ => L5x.out) ?_
              clear hK K
              try simp only [Act.put, List.setIfInBounds_toArray, List.set_cons_zero, List.set_cons_succ]
              refine wpAnyT_take (i := 3) (d := 34) (v := .string ⟨t.text.toArray⟩) rfl rfl (by kernel_rfl) (fun _ _ _ h => h) (by rfl) ?y6 L5x.out ?_
              case y6 => intro w' hw'; go_simp
              try simp only [Act.put, List.setIfInBounds_toArray, List.set_cons_zero, List.set_cons_succ]
              refine wpAnyT_two (i := 4) (j := 5) rfl rfl (by kernel_rfl) (by rfl) (by rfl) (fun K hK => ?_) (fun K hK => ?_)
              · go_simp
                have HN := node_any t ⟨kUnary.toArray⟩ ⟨(t.text).toArray⟩
                unfold tokW tokV at HN
                refine (HN _).mono ?_
                rintro e v9 ⟨rfl, hb⟩
                have S9x := Lib.hid (S5x.out.below hb)
                have L9x := Lib.hid (L5x.out.below hb)
                have hss9 := S9x.out.lt
                have hll9 := L9x.out.lt
                refine hK.out _ _ (fun _ => L9x.out) ?_
                clear hK K
                try simp only [Act.put, List.setIfInBounds_toArray, List.set_cons_zero, List.set_cons_succ]
                refine wpAnyT_one (i := 5) rfl (by kernel_rfl) (by rfl) (fun K hK => ?_)
                go_simp
                refine hK.out _ _ (fun _ => L9x.out.below ((Below.refl _ _).alloc (Nat.le_refl _) _)) ?_
                clear hK K
                try simp only [Act.put, List.setIfInBounds_toArray, List.set_cons_zero, List.set_cons_succ]
                refine wpAnyT_one (i := 6) rfl (by kernel_rfl) (by rfl) (fun K hK => ?_)
                go_simp
                refine hK.out _ _ (fun _ => L9x.out.below ((Below.refl _ _).alloc (Nat.le_refl _) _)) ?_
                clear hK K
                try simp only [Act.put, List.setIfInBounds_toArray, List.set_cons_zero, List.set_cons_succ]
                refine wpAnyT_done (by kernel_rfl) ?_ _
                exact ⟨_, by first | rfl | (simp only [Act.put, List.setIfInBounds_toArray, List.set_cons_zero, List.set_cons_succ]; done), S9x.out.alloc _, Nd.new kUnary t.text 0 t.line t.col _, S9x.out.lt, L9x.out.below ((Below.refl _ _).alloc (Nat.le_refl _) _)⟩
              · go_simp
                have S11a := Lib.hid (S5x.out.alloc zero6)
                have L11a := Lib.hid (L5x.out.below ((Below.refl _ _).alloc (Nat.le_refl _) zero6))
                have N11a := Lib.hid (LNode.new [] [] 0 0 0 (.slice none 0 0) v5)
                have hNs11 := N11a.out.lt
                have hlt11 := S5x.out.lt
                unfold zero6 at *
                refine hK.out _ _ (fun _ => L11a.out) ?_
                clear hK K
                try simp only [Act.put, List.setIfInBounds_toArray, List.set_cons_zero, List.set_cons_succ]
                refine wpAnyT_one (i := 4) rfl (by kernel_rfl) (by rfl) (fun K hK => ?_)
                go_simp
                have HN := node_any t ⟨kUnary.toArray⟩ ⟨(t.text).toArray⟩
                unfold tokW tokV at HN
                refine (HN _).mono ?_
                rintro e v13 ⟨rfl, hb⟩
                have S13x := Lib.hid (S11a.out.below hb)
                have L13x := Lib.hid (L11a.out.below hb)
                have N13x := Lib.hid (N11a.out.below hb)
                have hNs13 := N13x.out.lt
                have hss13 := S13x.out.lt
                have hll13 := L13x.out.lt
                refine hK.out _ _ (fun _ => L13x.out) ?_
                clear hK K
                try simp only [Act.put, List.setIfInBounds_toArray, List.set_cons_zero, List.set_cons_succ]
                have a0 := N13x.out.c0; have a1 := N13x.out.c1; have a2 := N13x.out.c2; have a3 := N13x.out.c3; have a4 := N13x.out.c4; have a5 := N13x.out.c5
                have b0 := N13x.out.f 0 (by omega); have b1 := N13x.out.f 1 (by omega); have b2 := N13x.out.f 2 (by omega); have b3 := N13x.out.f 3 (by omega); have b4 := N13x.out.f 4 (by omega); have b5 := N13x.out.f 5 (by omega)
                refine wpAnyT_one (i := 6) rfl (by kernel_rfl) (by rfl) (fun K hK => ?_)
                go_simp
                refine hK.out _ _ (fun _ => L13x.out.grown (six_own _ v5.heap.size _ _ _ _ _ _) (by simp; omega)) ?_
                clear hK K
                try simp only [Act.put, List.setIfInBounds_toArray, List.set_cons_zero, List.set_cons_succ]
                refine wpAnyT_done (by kernel_rfl) ?_ _
                exact ⟨_, by first | rfl | (simp only [Act.put, List.setIfInBounds_toArray, List.set_cons_zero, List.set_cons_succ]; done), S13x.out.six (by omega) _ _ _ _ _ _, ⟨N13x.out.six kUnary t.text 0 t.line t.col (.slice none 0 0), Build.nil _ _⟩, by omega, L13x.out.grown (six_own _ v5.heap.size _ _ _ _ _ _) (by simp; omega)⟩
            · go_simp
              have S15a := Lib.hid (SS.out.alloc zero6)
              have L15a := Lib.hid (LL.out.below ((Below.refl _ _).alloc (Nat.le_refl _) zero6))
              have N15a := Lib.hid (LNode.new [] [] 0 0 0 (.slice none 0 0) wd)
              have hNs15 := N15a.out.lt
              have hlt15 := SS.out.lt
              unfold zero6 at *
              refine hK.out _ _ (fun _ => L15a.out) ?_
              clear hK K
              try simp only [Act.put, List.setIfInBounds_toArray, List.set_cons_zero, List.set_cons_succ]
              refine wpAnyT_one (i := 2) rfl (by kernel_rfl) (by rfl) (fun K hK => ?_)
              go_simp
              refine (take_yes B t r d _ S15a.out.ps hte).mono ?_
              rintro e v17 ⟨rfl, hP, hg⟩
              have S17x := Lib.hid (S15a.out.call hP hg)
              have L17x := Lib.hid (L15a.out.grown hg (by simp; omega))
              have N17x := Lib.hid (N15a.out.grown hg (by simp; omega))
              have hNs17 := N17x.out.lt
              have hss17 := S17x.out.lt
              have hll17 := L17x.out.lt
              unfold tokW tokV
              refine hK.out _ _ (fun _ => L17x.out) ?_
              clear hK K
              try simp only [Act.put, List.setIfInBounds_toArray, List.set_cons_zero, List.set_cons_succ]
              refine wpAnyT_take (i := 3) (d := 34) (v := .string ⟨t.text.toArray⟩) rfl rfl (by kernel_rfl) (fun _ _ _ h => h) (by rfl) ?y18 L17x.out ?_
              case y18 => intro w' hw'; go_simp
              try simp only [Act.put, List.setIfInBounds_toArray, List.set_cons_zero, List.set_cons_succ]
              refine wpAnyT_one (i := 4) rfl (by kernel_rfl) (by rfl) (fun K hK => ?_)
              go_simp
              have HN := node_any t ⟨kUnary.toArray⟩ ⟨(t.text).toArray⟩
              unfold tokW tokV at HN
              refine (HN _).mono ?_
              rintro e v20 ⟨rfl, hb⟩
              have S20x := Lib.hid (S17x.out.below hb)
              have L20x := Lib.hid (L17x.out.below hb)
              have N20x := Lib.hid (N17x.out.below hb)
              have hNs20 := N20x.out.lt
              have hss20 := S20x.out.lt
              have hll20 := L20x.out.lt
              refine hK.out _ _ (fun _ => L20x.out) ?_
              clear hK K
              try simp only [Act.put, List.setIfInBounds_toArray, List.set_cons_zero, List.set_cons_succ]
              have a0 := N20x.out.c0; have a1 := N20x.out.c1; have a2 := N20x.out.c2; have a3 := N20x.out.c3; have a4 := N20x.out.c4; have a5 := N20x.out.c5
              have b0 := N20x.out.f 0 (by omega); have b1 := N20x.out.f 1 (by omega); have b2 := N20x.out.f 2 (by omega); have b3 := N20x.out.f 3 (by omega); have b4 := N20x.out.f 4 (by omega); have b5 := N20x.out.f 5 (by omega)
              refine wpAnyT_one (i := 6) rfl (by kernel_rfl) (by rfl) (fun K hK => ?_)
              go_simp
              refine hK.out _ _ (fun _ => L20x.out.grown (six_own _ wd.heap.size _ _ _ _ _ _) (by simp; omega)) ?_
              clear hK K
              try simp only [Act.put, List.setIfInBounds_toArray, List.set_cons_zero, List.set_cons_succ]
              refine wpAnyT_done (by kernel_rfl) ?_ _
              exact ⟨_, by first | rfl | (simp only [Act.put, List.setIfInBounds_toArray, List.set_cons_zero, List.set_cons_succ]; done), S20x.out.six (by omega) _ _ _ _ _ _, ⟨N20x.out.six kUnary t.text 0 t.line t.col (.slice none 0 0), Build.nil _ _⟩, by omega, L20x.out.grown (six_own _ wd.heap.size _ _ _ _ _ _) (by simp; omega)⟩
          intro N w5 ⟨hS5, hN5, hwN, hL5⟩
          try simp only [Act.put, List.setIfInBounds_toArray, List.set_cons_zero, List.set_cons_succ]
          have S5 := Lib.hid hS5
          have N5 := Lib.hid hN5
          clear hS5 hN5 hL5 S2 L2
          have hnoc : deeperP d (rec .operand) r ≠ .out := fun e => HNO.out (by simp only [Bool.false_eq_true, if_false, if_true, reduceIte, Bool.not_false, Bool.not_true, Bool.false_or, Bool.true_or, Bool.or_false, Bool.or_true, Bool.and_true, Bool.and_false, Bool.false_and, Bool.true_and, List.nil_append, List.cons_append, List.append_nil, operandP, takeP, hk1, hk2, hk3, hk4, PR.bind, hdT_cons, e])
          have HC := Lib.hid (HOP.out B r _ S5.out.ps hnoc)
          have HNOC := Lib.hid hnoc
          clear hnoc
          go_wp2_with fail
          refine (HC.out).mono ?_
          intro e w21 hq
          rcases hq.cases HNOC.out with ⟨t21, l21, q21, n21, c21, he21, rfl, hb21, hP21, hg21⟩ | ⟨ln, c, code, he21, rfl, hg21⟩
          rotate_left
          · refine ⟨rfl, ?_⟩
            have hbad : (operandP rec d) (t :: r) = .bad ln c code := by simp only [Bool.false_eq_true, if_false, if_true, reduceIte, Bool.not_false, Bool.not_true, Bool.false_or, Bool.true_or, Bool.or_false, Bool.or_true, Bool.and_true, Bool.and_false, Bool.false_and, Bool.true_and, List.nil_append, List.cons_append, List.append_nil, operandP, takeP, hk1, hk2, hk3, hk4, PR.bind, hdT_cons, he21]
            rw [hbad]
            exact S5.out.pan ⟨rfl, hg21⟩
          have SC := S5.out.call hP21 hg21
          have NC := N5.out.call hg21 (by omega)
          have hff := kid_fin SC NC.nd hwN hb21 (Nat.succ_le_of_lt N5.out.lt) hg21.size
          have HFF := Lib.hid hff
          have HE21 := Lib.hid he21
          have hs1 := SC.lt
          have hs2 := NC.lt
          have hf5 := NC.nd.f 5 (by omega)
          have hr := SC.res
          have r0 := hr.c0; have r1' := hr.c1; have r2 := hr.c2; have r3 := hr.c3; have r4 := hr.c4; have r5 := hr.c5
          have g0 := hr.f 0 (by omega); have g1 := hr.f 1 (by omega); have g2 := hr.f 2 (by omega); have g3 := hr.f 3 (by omega); have g4 := hr.f 4 (by omega); have g5 := hr.f 5 (by omega)
          clear hr
          have hq := NC.nd
          have qn0 := hq.c0; have qn1 := hq.c1; have qn2 := hq.c2; have qn3 := hq.c3; have qn4 := hq.c4; have qn5 := hq.c5
          clear hq
          clear hff hq hb21 hP21 hg21 he21 HC HNOC S5 N5 SC NC
          unfold nodeV
          unfold kUnary at qn0
          go_wp2
          refine bodyPost_ret (v := nodeV (.mk kUnary t.text 0 t.line t.col [t21]) (.slice (some ⟨w21.heap.size, 0, none⟩) 1 1)) (by simp [results, Tryz.results150, go_sem, nodeV, Tree.kind, Tree.text, Tree.num, Tree.line, Tree.col, Tree.kids, kProgram, kGlobal, kFunc, kParam, kType, kNum, kBlock, kLocal, kIf, kElse, kWhile, kReturn, kAssert, kAssume, kAssign, kNondet, kResult, kCall, kName, kIndex, kBinary, kUnary, kCast, kTrue, kFalse, kVoid, *]) rfl ?_
          have hgood : (operandP rec d) (t :: r) = .ok (.mk kUnary t.text 0 t.line t.col [t21]) l21 := by simp only [Bool.false_eq_true, if_false, if_true, reduceIte, Bool.not_false, Bool.not_true, Bool.false_or, Bool.true_or, Bool.or_false, Bool.or_true, Bool.and_true, Bool.and_false, Bool.false_and, Bool.true_and, List.nil_append, List.cons_append, List.append_nil, operandP, takeP, hk1, hk2, hk3, hk4, PR.bind, hdT_cons, HE21.out]
          rw [hgood]
          exact HFF.out.1.finA (by simpa using hs1) (HFF.out.2.bd.mono (by omega)) _ _ _ _ _ _
      case true =>
        have hm3 : (t.text == [102, 97, 108, 115, 101]) = true := hk3
        have hte : t.text ≠ [] := fun e => by rw [e] at hm3; exact absurd hm3 (by decide)
        clear l0 l1 l2' l3' l4'
        go_wp2_with fail
        refine wp_region_T (S := fun w' => LTok w1.heap.size t w') (tail := fun _ => false) (by kernel_rfl) ?_
        change wpAnyT _ _ _ _ _ _ _ _ _ (World.drew _)
        have SS := Lib.hid S2.out.drew
        have LL := Lib.hid (L2.out.below (Below.refl _ _).drew)
        generalize World.drew _ = wd at *
        have hwd := SS.out.lt
        have hwl := LL.out.lt
        refine wpAnyT_take (i := 0) (d := 22) (v := .agg #[.int .i64 t.kind, .string ⟨t.text.toArray⟩, .int .u64 t.num, .int .i64 t.line, .int .i64 t.col]) rfl rfl (by kernel_rfl) (fun _ _ _ h => h) (by rfl) ?y1 LL.out ?_
        case y1 => intro w' hw'; have h0 := hw'.c0; have h1 := hw'.c1; have h2 := hw'.c2; have h3 := hw'.c3; have h4 := hw'.c4; go_simp
        try simp only [Act.put, List.setIfInBounds_toArray, List.set_cons_zero, List.set_cons_succ]
        refine wpAnyT_take (i := 1) (d := 23) (v := .pointer (some ⟨B, 0, none⟩)) rfl rfl (by kernel_rfl) (fun _ _ _ h => h) (by rfl) ?y2 LL.out ?_
        case y2 => intro w' hw'; go_simp
        try simp only [Act.put, List.setIfInBounds_toArray, List.set_cons_zero, List.set_cons_succ]
        refine wpAnyT_one (i := 2) rfl (by kernel_rfl) (by rfl) (fun K hK => ?_)
        go_simp
        refine (take_yes B t r d _ SS.out.ps hte).mono ?_
        rintro e v5 ⟨rfl, hP, hg⟩
        have S5x := Lib.hid (SS.out.call hP hg)
        have L5x := Lib.hid (LL.out.grown hg (by simp; omega))
        unfold tokW tokV
        refine hK.out _ _ (fun _ => L5x.out) ?_
        clear hK K
        try simp only [Act.put, List.setIfInBounds_toArray, List.set_cons_zero, List.set_cons_succ]
        refine wpAnyT_take (i := 3) (d := 25) (v := .string ⟨t.text.toArray⟩) rfl rfl (by kernel_rfl) (fun _ _ _ h => h) (by rfl) ?y3 L5x.out ?_
        case y3 => intro w' hw'; go_simp
        try simp only [Act.put, List.setIfInBounds_toArray, List.set_cons_zero, List.set_cons_succ]
        refine wpAnyT_one (i := 4) rfl (by kernel_rfl) (by rfl) (fun K hK => ?_)
        go_simp
        have HN := node_any t ⟨t.text.toArray⟩ ⟨#[]⟩
        unfold tokW tokV at HN
        refine (HN _).mono ?_
        rintro e v6 ⟨rfl, hb⟩
        have S6x := Lib.hid (S5x.out.below hb)
        have L6x := Lib.hid (L5x.out.below hb)
        refine hK.out _ _ (fun _ => L6x.out) ?_
        clear hK K
        try simp only [Act.put, List.setIfInBounds_toArray, List.set_cons_zero, List.set_cons_succ]
        have hs1 := S6x.out.lt
        have hs2 := L6x.out.lt
        have hr := S6x.out.res
        have r0 := hr.c0; have r1' := hr.c1; have r2 := hr.c2; have r3 := hr.c3; have r4 := hr.c4; have r5 := hr.c5
        have g0 := hr.f 0 (by omega); have g1 := hr.f 1 (by omega); have g2 := hr.f 2 (by omega); have g3 := hr.f 3 (by omega); have g4 := hr.f 4 (by omega); have g5 := hr.f 5 (by omega)
        clear hr
        refine wpAnyT_one (i := 5) rfl (by kernel_rfl) (by rfl) (fun K hK => ?_)
        go_simp
        refine hK.out _ _ (fun _ => L6x.out.grown (six_own _ w.heap.size _ _ _ _ _ _) (by simp; omega)) ?_
        clear hK K
        try simp only [Act.put, List.setIfInBounds_toArray, List.set_cons_zero, List.set_cons_succ]
        refine wpAnyT_done (by kernel_rfl) ?_ _
        clear hP hg hb HN SS LL S5x L5x
        go_wp2
        refine bodyPost_ret (v := nodeV (.mk t.text [] 0 t.line t.col []) (.slice none 0 0)) (by simp [results, Tryz.results150, go_sem, nodeV, Tree.kind, Tree.text, Tree.num, Tree.line, Tree.col, Tree.kids, *]) rfl ?_
        have hgood : (operandP rec d) (t :: r) = .ok (.mk t.text [] 0 t.line t.col []) r := by simp only [Bool.false_eq_true, if_false, if_true, reduceIte, Bool.not_false, Bool.not_true, Bool.false_or, Bool.true_or, Bool.or_false, Bool.or_true, Bool.and_true, Bool.and_false, Bool.false_and, Bool.true_and, List.nil_append, List.cons_append, List.append_nil, operandP, takeP, hk1, hk2, hk3, PR.bind, hdT_cons]
        rw [hgood]
        exact S6x.out.fin (Build.nil _ _) _ _ _ _ _ _
    case true =>
      have hm2 : (t.text == [116, 114, 117, 101]) = true := hk2
      have hte : t.text ≠ [] := fun e => by rw [e] at hm2; exact absurd hm2 (by decide)
      clear l0 l1 l2' l3' l4'
      go_wp2_with fail
      refine wp_region_T (S := fun w' => LTok w1.heap.size t w') (tail := fun _ => false) (by kernel_rfl) ?_
      change wpAnyT _ _ _ _ _ _ _ _ _ (World.drew _)
      have SS := Lib.hid S2.out.drew
      have LL := Lib.hid (L2.out.below (Below.refl _ _).drew)
      generalize World.drew _ = wd at *
      have hwd := SS.out.lt
      have hwl := LL.out.lt
      refine wpAnyT_take (i := 0) (d := 22) (v := .agg #[.int .i64 t.kind, .string ⟨t.text.toArray⟩, .int .u64 t.num, .int .i64 t.line, .int .i64 t.col]) rfl rfl (by kernel_rfl) (fun _ _ _ h => h) (by rfl) ?y1 LL.out ?_
      case y1 => intro w' hw'; have h0 := hw'.c0; have h1 := hw'.c1; have h2 := hw'.c2; have h3 := hw'.c3; have h4 := hw'.c4; go_simp
      try simp only [Act.put, List.setIfInBounds_toArray, List.set_cons_zero, List.set_cons_succ]
      refine wpAnyT_take (i := 1) (d := 23) (v := .pointer (some ⟨B, 0, none⟩)) rfl rfl (by kernel_rfl) (fun _ _ _ h => h) (by rfl) ?y2 LL.out ?_
      case y2 => intro w' hw'; go_simp
      try simp only [Act.put, List.setIfInBounds_toArray, List.set_cons_zero, List.set_cons_succ]
      refine wpAnyT_one (i := 2) rfl (by kernel_rfl) (by rfl) (fun K hK => ?_)
      go_simp
      refine (take_yes B t r d _ SS.out.ps hte).mono ?_
      rintro e v5 ⟨rfl, hP, hg⟩
      have S5x := Lib.hid (SS.out.call hP hg)
      have L5x := Lib.hid (LL.out.grown hg (by simp; omega))
      unfold tokW tokV
      refine hK.out _ _ (fun _ => L5x.out) ?_
      clear hK K
      try simp only [Act.put, List.setIfInBounds_toArray, List.set_cons_zero, List.set_cons_succ]
      refine wpAnyT_take (i := 3) (d := 25) (v := .string ⟨t.text.toArray⟩) rfl rfl (by kernel_rfl) (fun _ _ _ h => h) (by rfl) ?y3 L5x.out ?_
      case y3 => intro w' hw'; go_simp
      try simp only [Act.put, List.setIfInBounds_toArray, List.set_cons_zero, List.set_cons_succ]
      refine wpAnyT_one (i := 4) rfl (by kernel_rfl) (by rfl) (fun K hK => ?_)
      go_simp
      have HN := node_any t ⟨t.text.toArray⟩ ⟨#[]⟩
      unfold tokW tokV at HN
      refine (HN _).mono ?_
      rintro e v6 ⟨rfl, hb⟩
      have S6x := Lib.hid (S5x.out.below hb)
      have L6x := Lib.hid (L5x.out.below hb)
      refine hK.out _ _ (fun _ => L6x.out) ?_
      clear hK K
      try simp only [Act.put, List.setIfInBounds_toArray, List.set_cons_zero, List.set_cons_succ]
      have hs1 := S6x.out.lt
      have hs2 := L6x.out.lt
      have hr := S6x.out.res
      have r0 := hr.c0; have r1' := hr.c1; have r2 := hr.c2; have r3 := hr.c3; have r4 := hr.c4; have r5 := hr.c5
      have g0 := hr.f 0 (by omega); have g1 := hr.f 1 (by omega); have g2 := hr.f 2 (by omega); have g3 := hr.f 3 (by omega); have g4 := hr.f 4 (by omega); have g5 := hr.f 5 (by omega)
      clear hr
      refine wpAnyT_one (i := 5) rfl (by kernel_rfl) (by rfl) (fun K hK => ?_)
      go_simp
      refine hK.out _ _ (fun _ => L6x.out.grown (six_own _ w.heap.size _ _ _ _ _ _) (by simp; omega)) ?_
      clear hK K
      try simp only [Act.put, List.setIfInBounds_toArray, List.set_cons_zero, List.set_cons_succ]
      refine wpAnyT_done (by kernel_rfl) ?_ _
      clear hP hg hb HN SS LL S5x L5x
      go_wp2
      refine bodyPost_ret (v := nodeV (.mk t.text [] 0 t.line t.col []) (.slice none 0 0)) (by simp [results, Tryz.results150, go_sem, nodeV, Tree.kind, Tree.text, Tree.num, Tree.line, Tree.col, Tree.kids, *]) rfl ?_
      have hgood : (operandP rec d) (t :: r) = .ok (.mk t.text [] 0 t.line t.col []) r := by simp only [Bool.false_eq_true, if_false, if_true, reduceIte, Bool.not_false, Bool.not_true, Bool.false_or, Bool.true_or, Bool.or_false, Bool.or_true, Bool.and_true, Bool.and_false, Bool.false_and, Bool.true_and, List.nil_append, List.cons_append, List.append_nil, operandP, takeP, hk1, hk2, PR.bind, hdT_cons]
      rw [hgood]
      exact S6x.out.fin (Build.nil _ _) _ _ _ _ _ _
  case true =>
    clear l0 l1 l2' l3' l4'
    have hnoc : numberP (t :: r) ≠ .out := fun e => HNO.out (by simp only [Bool.false_eq_true, if_false, if_true, reduceIte, Bool.not_false, Bool.not_true, Bool.false_or, Bool.true_or, Bool.or_false, Bool.or_true, Bool.and_true, Bool.and_false, Bool.false_and, Bool.true_and, List.nil_append, List.cons_append, List.append_nil, operandP, takeP, hk1, PR.bind, hdT_cons, e])
    have HC := Lib.hid (HNU.out B (t :: r) _ S2.out.ps hnoc)
    have HNOC := Lib.hid hnoc
    clear hnoc
    go_wp2_with fail
    refine (HC.out).mono ?_
    intro e w3 hq
    rcases hq.cases HNOC.out with ⟨t3, l3, q3, n3, c3, he3, rfl, hb3, hP3, hg3⟩ | ⟨ln, c, code, he3, rfl, hg3⟩
    rotate_left
    · refine ⟨rfl, ?_⟩
      have hbad : (operandP rec d) (t :: r) = .bad ln c code := by simp only [Bool.false_eq_true, if_false, if_true, reduceIte, Bool.not_false, Bool.not_true, Bool.false_or, Bool.true_or, Bool.or_false, Bool.or_true, Bool.and_true, Bool.and_false, Bool.false_and, Bool.true_and, List.nil_append, List.cons_append, List.append_nil, operandP, takeP, hk1, PR.bind, hdT_cons, he3]
      rw [hbad]
      exact S2.out.pan ⟨rfl, hg3⟩
    have S9 := S2.out.call hP3 hg3
    have HB := Lib.hid (hb3.mono (lo' := w.heap.size + 1) S2.out.lt)
    have HE := Lib.hid he3
    have hs1 := S9.lt
    have hr := S9.res
    have r0 := hr.c0; have r1' := hr.c1; have r2 := hr.c2; have r3 := hr.c3; have r4 := hr.c4; have r5 := hr.c5
    have g0 := hr.f 0 (by omega); have g1 := hr.f 1 (by omega); have g2 := hr.f 2 (by omega); have g3 := hr.f 3 (by omega); have g4 := hr.f 4 (by omega); have g5 := hr.f 5 (by omega)
    clear hr
    have HS9 := Lib.hid S9
    clear S9 hq hb3 hP3 hg3 he3 HC S2 L2
    unfold nodeV
    go_wp2
    refine bodyPost_ret (v := nodeV t3 (.slice q3 n3 c3)) (by simp [results, Tryz.results150, go_sem, nodeV, *]) rfl ?_
    have hgood : (operandP rec d) (t :: r) = .ok t3 l3 := by simp only [Bool.false_eq_true, if_false, if_true, reduceIte, Bool.not_false, Bool.not_true, Bool.false_or, Bool.true_or, Bool.or_false, Bool.or_true, Bool.and_true, Bool.and_false, Bool.false_and, Bool.true_and, List.nil_append, List.cons_append, List.append_nil, operandP, takeP, hk1, PR.bind, hdT_cons, HE.out]
    rw [hgood]
    exact HS9.out.fin HB.out _ _ _ _ _ _
end Go.Proofs.YtnalgnklgmoepaaGreatDoor
namespace Go.Proofs.YtnalgnklgmoepaaGreatDoor
open Go Go.RowKit

set_option maxHeartbeats 2000000 in
set_option maxRecDepth 100000 in
theorem paren_does (rec : NT → Int → List Tok → PR Tree) (d : Int) (he : Enters 150) (he' : Enters 135) (hop : Does 150 (fun p => #[p]) (d + 1) (rec .operand (d + 1))) (hex : Does 135 (fun p => #[p]) (d + 1) (exprP rec (d + 1))) : Does 151 (fun p => #[p]) d (parenP rec d) := by
  intro B l w h hno
  obtain ⟨t, r, rfl⟩ := h.ends.ne
  have S0 := St.start h
  have hBw := S0.hB
  have HNO := Lib.hid hno
  have S0 := Lib.hid S0
  have hmf := makeFunc_run
  have hft := field_text
  have hfk := field_kind
  have HOP := Lib.hid (deeper_does 150 d (rec .operand) he hop)
  have HEX := Lib.hid (deeper_does 135 d (rec (.binary 0)) he' hex)
  clear he he' hop hex
  clear h hno
  unfold zero6 at *
  go_enter Tryz.func151, Tryz.ntmps151
  cases hf0 : (t.text == [40])
  case false =>
    have H := Lib.hid (at_any B t r d [40] _ S0.out.ps)
    rw [hf0] at H
    go_wp2_with fail
    refine (H.out).mono ?_
    rintro e w1 ⟨rfl, hb1⟩
    have S1 := Lib.hid (S0.out.below hb1)
    clear S0
    clear H hb1
    have H := Lib.hid (take_no B t r d _ S1.out.ps)
    go_wp2_with fail
    refine (H.out).mono ?_
    rintro e w2 ⟨rfl, hg2⟩
    refine ⟨rfl, ?_⟩
    have hbad : (parenP rec d) (t :: r) = .bad t.line t.col 30 := by simp only [Bool.false_eq_true, if_false, if_true, reduceIte, Bool.not_false, Bool.not_true, Bool.false_or, Bool.true_or, Bool.or_false, Bool.or_true, Bool.and_true, Bool.and_false, Bool.false_and, Bool.true_and, List.nil_append, List.cons_append, List.append_nil, parenP, takeP, hf0, PR.bind, hdT_cons, takeP]
    rw [hbad]
    exact S1.out.pan ⟨rfl, hg2⟩
  case true =>
    have H := Lib.hid (at_any B t r d [40] _ S0.out.ps)
    rw [hf0] at H
    go_wp2_with fail
    refine (H.out).mono ?_
    rintro e w1 ⟨rfl, hb1⟩
    have S1 := Lib.hid (S0.out.below hb1)
    clear S0
    clear H hb1
    have hte : t.text ≠ [] := fun e => by rw [e] at hf0; exact absurd hf0 (by decide)
    have H := Lib.hid (take_yes B t r d _ S1.out.ps hte)
    go_wp2_with fail
    refine (H.out).mono ?_
    rintro e w2 ⟨rfl, hP2, hg2⟩
    have S2 := Lib.hid (S1.out.call hP2 hg2)
    clear S1
    clear H hP2 hg2
    unfold tokW tokV at *
    have hwT : w.heap.size < w2.heap.size := S2.out.lt
    have L3 := Lib.hid (LTok.newO t w2)
    have S3 := Lib.hid (S2.out.alloc (tokO t))
    clear S2
    unfold tokO at *
    obtain ⟨u, rr, hlu⟩ := S3.out.ps.ends.ne
    subst hlu
    have H := Lib.hid (peek_any B u rr d _ S3.out.ps)
    go_wp2_with fail
    refine (H.out).mono ?_
    rintro e w4 ⟨rfl, hb4⟩
    have S4 := Lib.hid (S3.out.below hb4)
    have L4 := Lib.hid (L3.out.below hb4)
    clear S3 L3
    clear H hb4
    cases hf1 : (typeB u.text)
    case false =>
      have hT : Types w4 := by
        obtain ⟨lo, T, o, c, h1⟩ := S4.out.ps
        exact h1.tab.types
      have H := Lib.hid (type_any ⟨u.text.toArray⟩ _ hT)
      have hdt : (⟨u.text.toArray⟩ : ByteArray).data.toList = u.text := by simp
      rw [hdt, hf1] at H
      unfold tokW tokV at *
      go_wp2_with fail
      refine (H.out).mono ?_
      rintro e w5' ⟨rfl, rfl⟩
      clear H hT hdt
      clear L4
      have hnoc : deeperP d (rec (.binary 0)) (u :: rr) ≠ .out := fun e => HNO.out (by simp only [Bool.false_eq_true, if_false, if_true, reduceIte, Bool.not_false, Bool.not_true, Bool.false_or, Bool.true_or, Bool.or_false, Bool.or_true, Bool.and_true, Bool.and_false, Bool.false_and, Bool.true_and, List.nil_append, List.cons_append, List.append_nil, parenP, takeP, hf0, hf1, PR.bind, hdT_cons, e])
      have HC := Lib.hid (HEX.out B (u :: rr) _ S4.out.ps hnoc)
      have HNOC := Lib.hid hnoc
      clear hnoc
      go_wp2_with fail
      refine (HC.out).mono ?_
      intro e w6 hq
      rcases hq.cases HNOC.out with ⟨t6, l6, q6, n6, c6, he6, rfl, hb6, hP6, hg6⟩ | ⟨ln, c, code, he6, rfl, hg6⟩
      rotate_left
      · refine ⟨rfl, ?_⟩
        have hbad : (parenP rec d) (t :: u :: rr) = .bad ln c code := by simp only [Bool.false_eq_true, if_false, if_true, reduceIte, Bool.not_false, Bool.not_true, Bool.false_or, Bool.true_or, Bool.or_false, Bool.or_true, Bool.and_true, Bool.and_false, Bool.false_and, Bool.true_and, List.nil_append, List.cons_append, List.append_nil, parenP, takeP, hf0, hf1, PR.bind, hdT_cons, he6]
        rw [hbad]
        exact S4.out.pan ⟨rfl, hg6⟩
      have hwN : w.heap.size < w6.heap.size := (S4.out.call hP6 hg6).lt
      have N6 := Lib.hid (Hd.put t6 (hb6.mono (lo' := w.heap.size + 1) S4.out.lt))
      have S6 := Lib.hid ((S4.out.call hP6 hg6).alloc (nodO t6.kind t6.text t6.num t6.line t6.col (.slice q6 n6 c6)))
      have HE6 := Lib.hid he6
      clear hq hb6 hP6 hg6 he6 HC HNOC S4
      unfold nodeV nodO at *
      have H := Lib.hid (pass_lit (S := w6.heap.size + 1) [[41]] S6.out.ps (by simp) (by simp) (by simp))
      simp only [List.map, List.length] at H
      go_wp2_with fail
      refine (H.out).mono ?_
      rintro e w7 (⟨l7, he7, rfl, hP7, hg7⟩ | ⟨ln, c, code, he7, rfl, hg7⟩)
      rotate_left
      · refine ⟨rfl, ?_⟩
        have hbad : (parenP rec d) (t :: u :: rr) = .bad ln c code := by simp only [Bool.false_eq_true, if_false, if_true, reduceIte, Bool.not_false, Bool.not_true, Bool.false_or, Bool.true_or, Bool.or_false, Bool.or_true, Bool.and_true, Bool.and_false, Bool.false_and, Bool.true_and, List.nil_append, List.cons_append, List.append_nil, parenP, takeP, hf0, hf1, PR.bind, hdT_cons, HE6.out, he7]
        rw [hbad]
        exact S6.out.pan ⟨rfl, hg7⟩
      have S7 := Lib.hid (S6.out.call hP7 hg7)
      have N7 := Lib.hid (N6.out.call hg7 (by omega))
      clear S6 N6
      have HE7 := Lib.hid he7
      clear H he7 hP7 hg7
      have S9 := S7.out
      have N9 := N7.out
      have hs1 := S9.lt
      have hs2 := N9.lt
      try simp only [World.size_setCell, World.size_alloc] at hs1 hs2
      have hr := S9.res
      have r0 := hr.c0; have r1' := hr.c1; have r2 := hr.c2; have r3 := hr.c3; have r4 := hr.c4; have r5 := hr.c5
      have g0 := hr.f 0 (by omega); have g1 := hr.f 1 (by omega); have g2 := hr.f 2 (by omega); have g3 := hr.f 3 (by omega); have g4 := hr.f 4 (by omega); have g5 := hr.f 5 (by omega)
      clear hr
      have hq := N9.nd
      have qn0 := hq.c0; have qn1 := hq.c1; have qn2 := hq.c2; have qn3 := hq.c3; have qn4 := hq.c4; have qn5 := hq.c5
      clear hq
      have HS9 := Lib.hid S9
      have HN9 := Lib.hid N9
      clear S9 N9 S7 N7
      skip
      go_wp2
      refine bodyPost_ret (v := nodeV t6 (.slice q6 n6 c6)) (by simp [results, Tryz.results151, go_sem, nodeV, Tree.kind, Tree.text, Tree.num, Tree.line, Tree.col, Tree.kids, kProgram, kGlobal, kFunc, kParam, kType, kNum, kBlock, kLocal, kIf, kElse, kWhile, kReturn, kAssert, kAssume, kAssign, kNondet, kResult, kCall, kName, kIndex, kBinary, kUnary, kCast, kTrue, kFalse, kVoid, *]) rfl ?_
      have hgood : (parenP rec d) (t :: u :: rr) = .ok t6 l7 := by simp only [Bool.false_eq_true, if_false, if_true, reduceIte, Bool.not_false, Bool.not_true, Bool.false_or, Bool.true_or, Bool.or_false, Bool.or_true, Bool.and_true, Bool.and_false, Bool.false_and, Bool.true_and, List.nil_append, List.cons_append, List.append_nil, parenP, takeP, hf0, hf1, PR.bind, hdT_cons, HE6.out, HE7.out]
      rw [hgood]
      exact HS9.out.fin (HN9.out.bd.mono (by omega)) _ _ _ _ _ _
    case true =>
      have hT : Types w4 := by
        obtain ⟨lo, T, o, c, h1⟩ := S4.out.ps
        exact h1.tab.types
      have H := Lib.hid (type_any ⟨u.text.toArray⟩ _ hT)
      have hdt : (⟨u.text.toArray⟩ : ByteArray).data.toList = u.text := by simp
      rw [hdt, hf1] at H
      unfold tokW tokV at *
      go_wp2_with fail
      refine (H.out).mono ?_
      rintro e w5' ⟨rfl, rfl⟩
      clear H hT hdt
      have hteu : u.text ≠ [] := fun e => by rw [e] at hf1; exact absurd hf1 (by decide)
      go_wp2_with fail
      refine wp_cut (fun a N => ((((((a.put (some 14) (.agg #[.int .i64 t.kind, .string ⟨t.text.toArray⟩, .int .u64 t.num, .int .i64 t.line, .int .i64 t.col])).put (some 15) (.pointer (some ⟨B, 0, none⟩))).put (some 16) (.agg #[.int .i64 u.kind, .string ⟨u.text.toArray⟩, .int .u64 u.num, .int .i64 u.line, .int .i64 u.col])).put (some 17) (.string ⟨u.text.toArray⟩)).put (some 18) (.agg #[.string ⟨kCast.toArray⟩, .string ⟨u.text.toArray⟩, .int .u64 0, .int .i64 t.line, .int .i64 t.col, .slice none 0 0])).put (some 4) (.pointer (some ⟨N, 0, none⟩)))) (fun N w' => St w B rr d w' ∧ Nd N kCast u.text 0 t.line t.col (.slice none 0 0) [] w' ∧ w.heap.size < N ∧ LTok w2.heap.size t w') ?_ ?_
      · refine wp_region_T (S := fun w' => LTok w2.heap.size t w') (tail := fun _ => false) (by kernel_rfl) ?_
        change wpAnyT _ _ _ _ _ _ _ _ _ (World.drew _)
        have SS := Lib.hid S4.out.drew
        have LL := Lib.hid (L4.out.below (Below.refl _ _).drew)
        generalize World.drew _ = wd at *
        have hwd := SS.out.lt
        have hwl := LL.out.lt
        refine wpAnyT_take (i := 0) (d := 14) (v := .agg #[.int .i64 t.kind, .string ⟨t.text.toArray⟩, .int .u64 t.num, .int .i64 t.line, .int .i64 t.col]) rfl rfl (by kernel_rfl) (fun _ _ _ h => h) (by rfl) ?y1 LL.out ?_
        case y1 => intro w' hw'; have h0 := hw'.c0; have h1 := hw'.c1; have h2 := hw'.c2; have h3 := hw'.c3; have h4 := hw'.c4; go_simp
        try simp only [Act.put, List.setIfInBounds_toArray, List.set_cons_zero, List.set_cons_succ]
        refine wpAnyT_take (i := 1) (d := 15) (v := .pointer (some ⟨B, 0, none⟩)) rfl rfl (by kernel_rfl) (fun _ _ _ h => h) (by rfl) ?y2 LL.out ?_
        case y2 => intro w' hw'; go_simp
        try simp only [Act.put, List.setIfInBounds_toArray, List.set_cons_zero, List.set_cons_succ]
        refine wpAnyT_two (i := 2) (j := 5) rfl rfl (by kernel_rfl) (by rfl) (by rfl) (fun K hK => ?_) (fun K hK => ?_)
        · go_simp
          refine (take_yes B u rr d _ SS.out.ps hteu).mono ?_
          rintro e v5 ⟨rfl, hP, hg⟩
          have S5x := Lib.hid (SS.out.call hP hg)
          have L5x := Lib.hid (LL.out.grown hg (by simp; omega))
          have hss5 := S5x.out.lt
          have hll5 := L5x.out.lt
          unfold tokW tokV
          refine hK.out _ _ (fun _ => L5x.out) ?_
          clear hK K
          try simp only [Act.put, List.setIfInBounds_toArray, List.set_cons_zero, List.set_cons_succ]
          refine wpAnyT_take (i := 3) (d := 17) (v := .string ⟨u.text.toArray⟩) rfl rfl (by kernel_rfl) (fun _ _ _ h => h) (by rfl) ?y6 L5x.out ?_
          case y6 => intro w' hw'; go_simp
          try simp only [Act.put, List.setIfInBounds_toArray, List.set_cons_zero, List.set_cons_succ]
          refine wpAnyT_two (i := 4) (j := 5) rfl rfl (by kernel_rfl) (by rfl) (by rfl) (fun K hK => ?_) (fun K hK => ?_)
          · go_simp
            have HN := node_any t ⟨kCast.toArray⟩ ⟨(u.text).toArray⟩
            unfold tokW tokV at HN
            refine (HN _).mono ?_
            rintro e v9 ⟨rfl, hb⟩
            have S9x := Lib.hid (S5x.out.below hb)
            have L9x := Lib.hid (L5x.out.below hb)
            have hss9 := S9x.out.lt
            have hll9 := L9x.out.lt
            refine hK.out _ _ (fun _ => L9x.out) ?_
            clear hK K
            try simp only [Act.put, List.setIfInBounds_toArray, List.set_cons_zero, List.set_cons_succ]
            refine wpAnyT_one (i := 5) rfl (by kernel_rfl) (by rfl) (fun K hK => ?_)
            go_simp
            refine hK.out _ _ (fun _ => L9x.out.below ((Below.refl _ _).alloc (Nat.le_refl _) _)) ?_
            clear hK K
            try simp only [Act.put, List.setIfInBounds_toArray, List.set_cons_zero, List.set_cons_succ]
            refine wpAnyT_one (i := 6) rfl (by kernel_rfl) (by rfl) (fun K hK => ?_)
            go_simp
            refine hK.out _ _ (fun _ => L9x.out.below ((Below.refl _ _).alloc (Nat.le_refl _) _)) ?_
            clear hK K
            try simp only [Act.put, List.setIfInBounds_toArray, List.set_cons_zero, List.set_cons_succ]
            refine wpAnyT_done (by kernel_rfl) ?_ _
            exact ⟨_, by first | rfl | (simp only [Act.put, List.setIfInBounds_toArray, List.set_cons_zero, List.set_cons_succ]; done), S9x.out.alloc _, Nd.new kCast u.text 0 t.line t.col _, S9x.out.lt, L9x.out.below ((Below.refl _ _).alloc (Nat.le_refl _) _)⟩
          · go_simp
            have S11a := Lib.hid (S5x.out.alloc zero6)
            have L11a := Lib.hid (L5x.out.below ((Below.refl _ _).alloc (Nat.le_refl _) zero6))
            have N11a := Lib.hid (LNode.new [] [] 0 0 0 (.slice none 0 0) v5)
            have hNs11 := N11a.out.lt
            have hlt11 := S5x.out.lt
            unfold zero6 at *
            refine hK.out _ _ (fun _ => L11a.out) ?_
            clear hK K
            try simp only [Act.put, List.setIfInBounds_toArray, List.set_cons_zero, List.set_cons_succ]
            refine wpAnyT_one (i := 4) rfl (by kernel_rfl) (by rfl) (fun K hK => ?_)
            go_simp
            have HN := node_any t ⟨kCast.toArray⟩ ⟨(u.text).toArray⟩
            unfold tokW tokV at HN
            refine (HN _).mono ?_
            rintro e v13 ⟨rfl, hb⟩
            have S13x := Lib.hid (S11a.out.below hb)
            have L13x := Lib.hid (L11a.out.below hb)
            have N13x := Lib.hid (N11a.out.below hb)
            have hNs13 := N13x.out.lt
            have hss13 := S13x.out.lt
            have hll13 := L13x.out.lt
            refine hK.out _ _ (fun _ => L13x.out) ?_
            clear hK K
            try simp only [Act.put, List.setIfInBounds_toArray, List.set_cons_zero, List.set_cons_succ]
            have a0 := N13x.out.c0; have a1 := N13x.out.c1; have a2 := N13x.out.c2; have a3 := N13x.out.c3; have a4 := N13x.out.c4; have a5 := N13x.out.c5
            have b0 := N13x.out.f 0 (by omega); have b1 := N13x.out.f 1 (by omega); have b2 := N13x.out.f 2 (by omega); have b3 := N13x.out.f 3 (by omega); have b4 := N13x.out.f 4 (by omega); have b5 := N13x.out.f 5 (by omega)
            refine wpAnyT_one (i := 6) rfl (by kernel_rfl) (by rfl) (fun K hK => ?_)
            go_simp
            refine hK.out _ _ (fun _ => L13x.out.grown (six_own _ v5.heap.size _ _ _ _ _ _) (by simp; omega)) ?_
            clear hK K
            try simp only [Act.put, List.setIfInBounds_toArray, List.set_cons_zero, List.set_cons_succ]
            refine wpAnyT_done (by kernel_rfl) ?_ _
            exact ⟨_, by first | rfl | (simp only [Act.put, List.setIfInBounds_toArray, List.set_cons_zero, List.set_cons_succ]; done), S13x.out.six (by omega) _ _ _ _ _ _, ⟨N13x.out.six kCast u.text 0 t.line t.col (.slice none 0 0), Build.nil _ _⟩, by omega, L13x.out.grown (six_own _ v5.heap.size _ _ _ _ _ _) (by simp; omega)⟩
        · go_simp
          have S15a := Lib.hid (SS.out.alloc zero6)
          have L15a := Lib.hid (LL.out.below ((Below.refl _ _).alloc (Nat.le_refl _) zero6))
          have N15a := Lib.hid (LNode.new [] [] 0 0 0 (.slice none 0 0) wd)
          have hNs15 := N15a.out.lt
          have hlt15 := SS.out.lt
          unfold zero6 at *
          refine hK.out _ _ (fun _ => L15a.out) ?_
          clear hK K
          try simp only [Act.put, List.setIfInBounds_toArray, List.set_cons_zero, List.set_cons_succ]
          refine wpAnyT_one (i := 2) rfl (by kernel_rfl) (by rfl) (fun K hK => ?_)
          go_simp
          refine (take_yes B u rr d _ S15a.out.ps hteu).mono ?_
          rintro e v17 ⟨rfl, hP, hg⟩
          have S17x := Lib.hid (S15a.out.call hP hg)
          have L17x := Lib.hid (L15a.out.grown hg (by simp; omega))
          have N17x := Lib.hid (N15a.out.grown hg (by simp; omega))
          have hNs17 := N17x.out.lt
          have hss17 := S17x.out.lt
          have hll17 := L17x.out.lt
          unfold tokW tokV
          refine hK.out _ _ (fun _ => L17x.out) ?_
          clear hK K
          try simp only [Act.put, List.setIfInBounds_toArray, List.set_cons_zero, List.set_cons_succ]
          refine wpAnyT_take (i := 3) (d := 17) (v := .string ⟨u.text.toArray⟩) rfl rfl (by kernel_rfl) (fun _ _ _ h => h) (by rfl) ?y18 L17x.out ?_
          case y18 => intro w' hw'; go_simp
          try simp only [Act.put, List.setIfInBounds_toArray, List.set_cons_zero, List.set_cons_succ]
          refine wpAnyT_one (i := 4) rfl (by kernel_rfl) (by rfl) (fun K hK => ?_)
          go_simp
          have HN := node_any t ⟨kCast.toArray⟩ ⟨(u.text).toArray⟩
          unfold tokW tokV at HN
          refine (HN _).mono ?_
          rintro e v20 ⟨rfl, hb⟩
          have S20x := Lib.hid (S17x.out.below hb)
          have L20x := Lib.hid (L17x.out.below hb)
          have N20x := Lib.hid (N17x.out.below hb)
          have hNs20 := N20x.out.lt
          have hss20 := S20x.out.lt
          have hll20 := L20x.out.lt
          refine hK.out _ _ (fun _ => L20x.out) ?_
          clear hK K
          try simp only [Act.put, List.setIfInBounds_toArray, List.set_cons_zero, List.set_cons_succ]
          have a0 := N20x.out.c0; have a1 := N20x.out.c1; have a2 := N20x.out.c2; have a3 := N20x.out.c3; have a4 := N20x.out.c4; have a5 := N20x.out.c5
          have b0 := N20x.out.f 0 (by omega); have b1 := N20x.out.f 1 (by omega); have b2 := N20x.out.f 2 (by omega); have b3 := N20x.out.f 3 (by omega); have b4 := N20x.out.f 4 (by omega); have b5 := N20x.out.f 5 (by omega)
          refine wpAnyT_one (i := 6) rfl (by kernel_rfl) (by rfl) (fun K hK => ?_)
          go_simp
          refine hK.out _ _ (fun _ => L20x.out.grown (six_own _ wd.heap.size _ _ _ _ _ _) (by simp; omega)) ?_
          clear hK K
          try simp only [Act.put, List.setIfInBounds_toArray, List.set_cons_zero, List.set_cons_succ]
          refine wpAnyT_done (by kernel_rfl) ?_ _
          exact ⟨_, by first | rfl | (simp only [Act.put, List.setIfInBounds_toArray, List.set_cons_zero, List.set_cons_succ]; done), S20x.out.six (by omega) _ _ _ _ _ _, ⟨N20x.out.six kCast u.text 0 t.line t.col (.slice none 0 0), Build.nil _ _⟩, by omega, L20x.out.grown (six_own _ wd.heap.size _ _ _ _ _ _) (by simp; omega)⟩
      intro N w5 ⟨hS5, hN5, hwN, hL5⟩
      try simp only [Act.put, List.setIfInBounds_toArray, List.set_cons_zero, List.set_cons_succ]
      have S5 := Lib.hid hS5
      have N5 := Lib.hid hN5
      clear hS5 hN5 hL5 S4 L4
      have H := Lib.hid (pass_lit (S := w5.heap.size) [[41]] S5.out.ps (by simp) (by simp) (by simp))
      simp only [List.map, List.length] at H
      go_wp2_with fail
      refine (H.out).mono ?_
      rintro e w21 (⟨l21, he21, rfl, hP21, hg21⟩ | ⟨ln, c, code, he21, rfl, hg21⟩)
      rotate_left
      · refine ⟨rfl, ?_⟩
        have hbad : (parenP rec d) (t :: u :: rr) = .bad ln c code := by simp only [Bool.false_eq_true, if_false, if_true, reduceIte, Bool.not_false, Bool.not_true, Bool.false_or, Bool.true_or, Bool.or_false, Bool.or_true, Bool.and_true, Bool.and_false, Bool.false_and, Bool.true_and, List.nil_append, List.cons_append, List.append_nil, parenP, takeP, hf0, hf1, PR.bind, hdT_cons, he21]
        rw [hbad]
        exact S5.out.pan ⟨rfl, hg21⟩
      have S21 := Lib.hid (S5.out.call hP21 hg21)
      have N21 := Lib.hid (N5.out.call hg21 (by omega))
      clear S5 N5
      have HE21 := Lib.hid he21
      clear H he21 hP21 hg21
      have hnoc : deeperP d (rec .operand) l21 ≠ .out := fun e => HNO.out (by simp only [Bool.false_eq_true, if_false, if_true, reduceIte, Bool.not_false, Bool.not_true, Bool.false_or, Bool.true_or, Bool.or_false, Bool.or_true, Bool.and_true, Bool.and_false, Bool.false_and, Bool.true_and, List.nil_append, List.cons_append, List.append_nil, parenP, takeP, hf0, hf1, PR.bind, hdT_cons, HE21.out, e])
      have HC := Lib.hid (HOP.out B l21 _ S21.out.ps hnoc)
      have HNOC := Lib.hid hnoc
      clear hnoc
      go_wp2_with fail
      refine (HC.out).mono ?_
      intro e w22 hq
      rcases hq.cases HNOC.out with ⟨t22, l22, q22, n22, c22, he22, rfl, hb22, hP22, hg22⟩ | ⟨ln, c, code, he22, rfl, hg22⟩
      rotate_left
      · refine ⟨rfl, ?_⟩
        have hbad : (parenP rec d) (t :: u :: rr) = .bad ln c code := by simp only [Bool.false_eq_true, if_false, if_true, reduceIte, Bool.not_false, Bool.not_true, Bool.false_or, Bool.true_or, Bool.or_false, Bool.or_true, Bool.and_true, Bool.and_false, Bool.false_and, Bool.true_and, List.nil_append, List.cons_append, List.append_nil, parenP, takeP, hf0, hf1, PR.bind, hdT_cons, HE21.out, he22]
        rw [hbad]
        exact S21.out.pan ⟨rfl, hg22⟩
      have SC := S21.out.call hP22 hg22
      have NC := N21.out.call hg22 (by omega)
      have hff := kid_fin SC NC.nd hwN hb22 (Nat.succ_le_of_lt N21.out.lt) hg22.size
      have HFF := Lib.hid hff
      have HE22 := Lib.hid he22
      have hs1 := SC.lt
      have hs2 := NC.lt
      have hf5 := NC.nd.f 5 (by omega)
      have hr := SC.res
      have r0 := hr.c0; have r1' := hr.c1; have r2 := hr.c2; have r3 := hr.c3; have r4 := hr.c4; have r5 := hr.c5
      have g0 := hr.f 0 (by omega); have g1 := hr.f 1 (by omega); have g2 := hr.f 2 (by omega); have g3 := hr.f 3 (by omega); have g4 := hr.f 4 (by omega); have g5 := hr.f 5 (by omega)
      clear hr
      have hq := NC.nd
      have qn0 := hq.c0; have qn1 := hq.c1; have qn2 := hq.c2; have qn3 := hq.c3; have qn4 := hq.c4; have qn5 := hq.c5
      clear hq
      clear hff hq hb22 hP22 hg22 he22 HC HNOC S21 N21 SC NC
      unfold nodeV
      unfold kCast at qn0
      go_wp2
      refine bodyPost_ret (v := nodeV (.mk kCast u.text 0 t.line t.col [t22]) (.slice (some ⟨w22.heap.size, 0, none⟩) 1 1)) (by simp [results, Tryz.results151, go_sem, nodeV, Tree.kind, Tree.text, Tree.num, Tree.line, Tree.col, Tree.kids, kProgram, kGlobal, kFunc, kParam, kType, kNum, kBlock, kLocal, kIf, kElse, kWhile, kReturn, kAssert, kAssume, kAssign, kNondet, kResult, kCall, kName, kIndex, kBinary, kUnary, kCast, kTrue, kFalse, kVoid, *]) rfl ?_
      have hgood : (parenP rec d) (t :: u :: rr) = .ok (.mk kCast u.text 0 t.line t.col [t22]) l22 := by simp only [Bool.false_eq_true, if_false, if_true, reduceIte, Bool.not_false, Bool.not_true, Bool.false_or, Bool.true_or, Bool.or_false, Bool.or_true, Bool.and_true, Bool.and_false, Bool.false_and, Bool.true_and, List.nil_append, List.cons_append, List.append_nil, parenP, takeP, hf0, hf1, PR.bind, hdT_cons, HE21.out, HE22.out]
      rw [hgood]
      exact HFF.out.1.finA (by simpa using hs1) (HFF.out.2.bd.mono (by omega)) _ _ _ _ _ _
end Go.Proofs.YtnalgnklgmoepaaGreatDoor
