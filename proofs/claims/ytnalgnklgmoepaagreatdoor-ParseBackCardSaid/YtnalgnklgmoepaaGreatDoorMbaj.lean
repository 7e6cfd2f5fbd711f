/- The contract of item. The contract of program. -/
import Derived.Test.YtnalgnklgmoepaaGreatDoorMbai
set_option linter.all false
namespace Go.Proofs.YtnalgnklgmoepaaGreatDoor
open Go Go.RowKit

/-- A row of nodes behind a row of nodes. -/
theorem append_rowX {o : Oper} {a : Act} {K : Act → World → Prop} {Q : Exit → Act → World → Prop} {w : World} {ok : Nat → Prop} {lo1 dd : Nat} {acc ts : List Tree} {v u : Value} (s x : Operand)
    (ho : o.op = .call { callee := .builtin .append, args := #[s, x], argTypes := #[24, 24] }) (hd : o.dst = some dd) (hB : BuildP w ok acc v) (hK : Build w lo1 ts u) (hz : ts = [] → u = .slice none 0 0) (hok : ∀ g, lo1 ≤ g → ok g) (hv : ∀ g, v.ownBlock = some g → g < lo1) (hl1 : lo1 ≤ w.heap.size)
    (hs : a.eval s = v) (hx : a.eval x = u) (hn : acc.length + ts.length ≤ 1000000)
    (h : ∀ v' w', BuildP w' ok (acc ++ ts) v' → w.grownBy w' v.ownBlock → K (a.put (some dd) v') w') :
    o.wp Tryz.prog a w K Q := by
  by_cases he : ts = []
  · obtain rfl := he
    obtain rfl := hz rfl
    obtain ⟨i0, hi, hz0, hz1, hz2⟩ := info_parts Tryz.info26
    obtain ⟨vs, h1, h2⟩ := hB
    have hr := run_append_owned_none (P := Tryz.prog) (w := w) 0 24 o.type 26 i0 6 Tryz.underlying24 hi v acc.length _ h1
    have hk := h v w (by rw [List.append_nil]; exact ⟨vs, h1, h2⟩) (grown_refl _ _)
    unfold Oper.wp execOp
    simp only [ho, resolve, invoke, builtin, Sem.run_bind, Sem.run_pure, Result.andThen_ok, List.map_toArray, List.map_cons, List.map_nil, hs, hx, hr]
    show K (a.put o.dst v) w
    rw [hd]
    exact hk
  · obtain ⟨us, h1, h2⟩ := hK
    have hpos : 0 < ts.length := List.length_pos_iff.2 he
    rcases h1.2 with ⟨_, h0⟩ | ⟨g, cap, cur, rfl, hbg, hg, rest⟩
    · omega
    · refine append_core s x ho hB (ts := ts) (us := us) hs hx hpos (fun j y hy => h1.cells (g := g) rfl j y hy) (by omega) (hok _ hl1) (LiesL.move (fun g' hg' hok' => ?_) ts us h2) (fun v' w' h3 h4 => by rw [hd]; exact h v' w' h3 h4)
      have hne : some g' ≠ v.ownBlock := fun e => by have := hv g' e.symm; omega
      exact ⟨⟨hok g' hok'.1, hne⟩, rfl⟩
theorem app_finX0 {w0 w6 w7 : World} {B N lo : Nat} {l : List Tok} {d : Int} {k x : List UInt8} {n ln c : Int} {v v7 : Value} {acc ts : List Tree} (S : St w0 B l d w6) (Nn : NdX N lo k x n ln c v acc w6) (hw : w0.heap.size < N) (hwl : w0.heap.size < lo)
    (hb7 : BuildP w7 (fun g => lo ≤ g ∧ g ≠ N) ts v7) (hg7 : w6.grownBy w7 v.ownBlock) : St w0 B l d (w7.setCell ⟨N, 5, none⟩ v7) ∧ NdX N lo k x n ln c v7 ts (w7.setCell ⟨N, 5, none⟩ v7) := by
  have hlt := Nn.own
  refine ⟨(S.local hg7 (fun j e => by have := (hlt j e).1; omega)).setN hw _ _, ?_, hb7.grown (grown_setB _ _ _ _) (fun j e => by cases e; exact .inl (fun h => h.2 rfl))⟩
  exact (Nn.nd.grown hg7 (fun e => by have := (hlt N e.symm).2.1; exact this rfl)).set5 v7
theorem put_kind (w : World) (k k' x : ByteArray) (n ln c : Int) (v : Value) : (w.alloc (.cells #[.string k, .string x, .int .u64 n, .int .i64 ln, .int .i64 c, v] 26)).setCell ⟨w.heap.size, 0, none⟩ (.string k') = w.alloc (.cells #[.string k', .string x, .int .u64 n, .int .i64 ln, .int .i64 c, v] 26) := by simp [go_sem]
def itemD (n : Nat) (d : Int) (l : List Tok) : PR Tree :=
  (declaredP kGlobal ((hdT l).text == kVoid) l).bind fun t l' =>
    if (hdT l).text == kVoid || (hdT l').text == [40] then (commasP n (declaredP kParam false) l').bind fun ps l' => (deeperP d (runP n .block) l').bind fun b l' =>
      .ok (.mk kFunc t.text t.num t.line t.col (t.kids ++ ps ++ [b])) l'
    else if (hdT l').text == [91] then (passP [[91]] l').bind fun _ l' => (numberP l').bind fun m l' => (passP [[93]] l').bind fun _ l' => (passP [[59]] l').bind fun _ l' => .ok (.mk t.kind t.text t.num t.line t.col (t.kids ++ [m])) l'
    else (passP [[59]] l').bind fun _ l' => .ok t l'
theorem declared_kids {kind : List UInt8} {void : Bool} {l l' : List Tok} {t : Tree} (h : declaredP kind void l = .ok t l') : t.kids.length = 1 := by
  unfold declaredP at h
  obtain ⟨_, _, _, h⟩ := bind_inv h
  obtain ⟨_, _, _, h⟩ := bind_inv h
  injection h with h1 h2
  subst h1
  rfl

set_option maxHeartbeats 2000000 in
set_option maxRecDepth 100000 in
theorem item_does (n : Nat) (d : Int) (hn : n ≤ 900000) (he : Enters 96) (he' : Enters 94) (hdec : ∀ (void : Bool) (B : Nat) (l : List Tok) (w : World), PsAt B l d w → (void = true → (hdT l).text ≠ []) → declaredP kGlobal void l ≠ .out → Calls Tryz.prog 92 #[.pointer (some ⟨B, 0, none⟩), .string ⟨#[103, 108, 111, 98, 97, 108]⟩, .bool void] w (PPost B d w (declaredP kGlobal void l))) (hpa : Does 94 (fun p => #[p]) d (declaredP kParam false)) (hbl : Does 96 (fun p => #[p]) (d + 1) (runP n .block (d + 1))) : Does 75 (fun p => #[p]) d (itemD n d) := by
  intro B l w h hno
  obtain ⟨t, r, rfl⟩ := h.ends.ne
  have S0 := St.start h
  have hBw := S0.hB
  have HNO := Lib.hid hno
  have S0 := Lib.hid S0
  have hmf := makeFunc_run
  have hft := field_text
  have hfk := field_kind
  have HDE := Lib.hid hdec
  have HCO := Lib.hid (commas_does 94 n d (declaredP kParam false) hn he' hpa)
  have HBL := Lib.hid (deeper_does 96 d (runP n .block) he hbl)
  have HNU := Lib.hid (number_does d)
  clear he he' hpa hbl hdec
  clear h hno
  unfold zero6 at *
  go_enter Tryz.func75, Tryz.ntmps75
  cases hv0 : (t.text == kVoid)
  case false =>
    have H := Lib.hid (at_any B t r d kVoid _ S0.out.ps)
    rw [hv0] at H
    go_wp2_with fail
    refine (H.out).mono ?_
    rintro e w1 ⟨rfl, hb1⟩
    have S1 := Lib.hid (S0.out.below hb1)
    clear S0
    clear H hb1
    have hcv : false = true → (hdT (t :: r)).text ≠ [] := fun h => by cases h
    have HD2 := Lib.hid (fun (B : Nat) (l : List Tok) (w : World) (h : PsAt B l d w) (hc : false = true → (hdT l).text ≠ []) (ho : declaredP kGlobal false l ≠ .out) => HDE.out false B l w h hc ho)
    have hnoc : declaredP kGlobal false (t :: r) ≠ .out := fun e => HNO.out (by simp only [Bool.false_eq_true, if_false, if_true, reduceIte, Bool.not_false, Bool.not_true, Bool.false_or, Bool.true_or, Bool.or_false, Bool.or_true, Bool.and_true, Bool.and_false, Bool.false_and, Bool.true_and, List.nil_append, List.cons_append, List.append_nil, itemD, hv0, PR.bind, hdT_cons, e])
    have HC := Lib.hid (HDE.out false B (t :: r) _ S1.out.ps hcv hnoc)
    have HNOC := Lib.hid hnoc
    clear hnoc
    go_wp2_with fail
    refine (HC.out).mono ?_
    intro e w2 hq
    rcases hq.cases HNOC.out with ⟨t2, l2, q2, n2, c2, he2, rfl, hb2, hP2, hg2⟩ | ⟨ln, c, code, he2, rfl, hg2⟩
    rotate_left
    · refine ⟨rfl, ?_⟩
      have hbad : (itemD n d) (t :: r) = .bad ln c code := by simp only [Bool.false_eq_true, if_false, if_true, reduceIte, Bool.not_false, Bool.not_true, Bool.false_or, Bool.true_or, Bool.or_false, Bool.or_true, Bool.and_true, Bool.and_false, Bool.false_and, Bool.true_and, List.nil_append, List.cons_append, List.append_nil, itemD, hv0, PR.bind, hdT_cons, he2]
      rw [hbad]
      exact S1.out.pan ⟨rfl, hg2⟩
    have hwN : w.heap.size < w2.heap.size := (S1.out.call hP2 hg2).lt
    have N2 := Lib.hid (NdX.put t2 (hb2.mono (lo' := w.heap.size + 1) S1.out.lt))
    have S2 := Lib.hid ((S1.out.call hP2 hg2).alloc (nodO t2.kind t2.text t2.num t2.line t2.col (.slice q2 n2 c2)))
    have HE2 := Lib.hid he2
    clear hq hb2 hP2 hg2 he2 HC HNOC S1
    unfold nodeV nodO at *
    have hk1 : t2.kids.length = 1 := declared_kids HE2.out
    clear hcv HD2 HDE
    obtain ⟨t3, r3l, hlt3⟩ := S2.out.ps.ends.ne
    subst hlt3
    cases hp0 : (t3.text == [40])
    case false =>
      have H := Lib.hid (at_any B t3 r3l d [40] _ S2.out.ps)
      rw [hp0] at H
      go_wp2_with fail
      refine (H.out).mono ?_
      rintro e w3 ⟨rfl, hb3⟩
      have S3 := Lib.hid (S2.out.below hb3)
      have N3 := Lib.hid (N2.out.below hb3)
      clear S2 N2
      clear H hb3
      cases hb0 : (t3.text == [91])
      case false =>
        have H := Lib.hid (at_any B t3 r3l d [91] _ S3.out.ps)
        rw [hb0] at H
        go_wp2_with fail
        refine (H.out).mono ?_
        rintro e w4 ⟨rfl, hb4⟩
        have S4 := Lib.hid (S3.out.below hb4)
        have N4 := Lib.hid (N3.out.below hb4)
        clear S3 N3
        clear H hb4
        have H := Lib.hid (pass_lit (S := w4.heap.size) [[59]] S4.out.ps (by simp) (by simp) (by simp))
        simp only [List.map, List.length] at H
        go_wp2_with fail
        refine (H.out).mono ?_
        rintro e w5 (⟨l5, he5, rfl, hP5, hg5⟩ | ⟨ln, c, code, he5, rfl, hg5⟩)
        rotate_left
        · refine ⟨rfl, ?_⟩
          have hbad : (itemD n d) (t :: r) = .bad ln c code := by simp only [Bool.false_eq_true, if_false, if_true, reduceIte, Bool.not_false, Bool.not_true, Bool.false_or, Bool.true_or, Bool.or_false, Bool.or_true, Bool.and_true, Bool.and_false, Bool.false_and, Bool.true_and, List.nil_append, List.cons_append, List.append_nil, itemD, hv0, hp0, hb0, PR.bind, hdT_cons, HE2.out, he5]
          rw [hbad]
          exact S4.out.pan ⟨rfl, hg5⟩
        have S5 := Lib.hid (S4.out.call hP5 hg5)
        have N5 := Lib.hid (N4.out.call hg5 (by omega))
        clear S4 N4
        have HE5 := Lib.hid he5
        clear H he5 hP5 hg5
        have S9 := S5.out
        have N9 := N5.out
        have hs1 := S9.lt
        have hs2 := N9.lt
        try simp only [World.size_setCell, World.size_alloc] at hs1 hs2
        have hr := S9.res
        have r0 := hr.c0; have r1' := hr.c1; have r2 := hr.c2; have r3 := hr.c3; have r4 := hr.c4; have r5 := hr.c5
        have g0 := hr.f 0 (by omega); have g1 := hr.f 1 (by omega); have g2 := hr.f 2 (by omega); have g3 := hr.f 3 (by omega); have g4 := hr.f 4 (by omega); have g5 := hr.f 5 (by omega)
        clear hr
        have hq := N9.nd
        have qn0 := hq.c0; have qn1 := hq.c1; have qn2 := hq.c2; have qn3 := hq.c3; have qn4 := hq.c4; have qn5 := hq.c5
        clear hq
        have HS9 := Lib.hid S9
        have HN9 := Lib.hid N9
        clear S9 N9 S5 N5
        skip
        go_wp2
        refine bodyPost_ret (v := nodeV t2 (.slice q2 n2 c2)) (by simp [results, Tryz.results75, go_sem, nodeV, Tree.kind, Tree.text, Tree.num, Tree.line, Tree.col, Tree.kids, kProgram, kGlobal, kFunc, kParam, kType, kNum, kBlock, kLocal, kIf, kElse, kWhile, kReturn, kAssert, kAssume, kAssign, kNondet, kResult, kCall, kName, kIndex, kBinary, kUnary, kCast, kTrue, kFalse, kVoid, *]) rfl ?_
        have hgood : (itemD n d) (t :: r) = .ok t2 l5 := by simp only [Bool.false_eq_true, if_false, if_true, reduceIte, Bool.not_false, Bool.not_true, Bool.false_or, Bool.true_or, Bool.or_false, Bool.or_true, Bool.and_true, Bool.and_false, Bool.false_and, Bool.true_and, List.nil_append, List.cons_append, List.append_nil, itemD, hv0, hp0, hb0, PR.bind, hdT_cons, HE2.out, HE5.out]
        rw [hgood]
        exact HS9.out.fin (t := t2) (HN9.out.bd.build fun g hg => hg.1) _ _ _ _ _ _
      case true =>
        have H := Lib.hid (at_any B t3 r3l d [91] _ S3.out.ps)
        rw [hb0] at H
        go_wp2_with fail
        refine (H.out).mono ?_
        rintro e w4 ⟨rfl, hb4⟩
        have S4 := Lib.hid (S3.out.below hb4)
        have N4 := Lib.hid (N3.out.below hb4)
        clear S3 N3
        clear H hb4
        have H := Lib.hid (pass_lit (S := w4.heap.size) [[91]] S4.out.ps (by simp) (by simp) (by simp))
        simp only [List.map, List.length] at H
        go_wp2_with fail
        refine (H.out).mono ?_
        rintro e w5 (⟨l5, he5, rfl, hP5, hg5⟩ | ⟨ln, c, code, he5, rfl, hg5⟩)
        rotate_left
        · refine ⟨rfl, ?_⟩
          have hbad : (itemD n d) (t :: r) = .bad ln c code := by simp only [Bool.false_eq_true, if_false, if_true, reduceIte, Bool.not_false, Bool.not_true, Bool.false_or, Bool.true_or, Bool.or_false, Bool.or_true, Bool.and_true, Bool.and_false, Bool.false_and, Bool.true_and, List.nil_append, List.cons_append, List.append_nil, itemD, hv0, hp0, hb0, PR.bind, hdT_cons, HE2.out, he5]
          rw [hbad]
          exact S4.out.pan ⟨rfl, hg5⟩
        have S5 := Lib.hid (S4.out.call hP5 hg5)
        have N5 := Lib.hid (N4.out.call hg5 (by omega))
        clear S4 N4
        have HE5 := Lib.hid he5
        clear H he5 hP5 hg5
        have hnoc : numberP l5 ≠ .out := fun e => HNO.out (by simp only [Bool.false_eq_true, if_false, if_true, reduceIte, Bool.not_false, Bool.not_true, Bool.false_or, Bool.true_or, Bool.or_false, Bool.or_true, Bool.and_true, Bool.and_false, Bool.false_and, Bool.true_and, List.nil_append, List.cons_append, List.append_nil, itemD, hv0, hp0, hb0, PR.bind, hdT_cons, HE2.out, HE5.out, e])
        have HNOC := Lib.hid hnoc
        clear hnoc
        have S6d := Lib.hid S5.out.drew
        have N6d := Lib.hid N5.out.drew
        clear S5 N5
        go_wp2_with fail
        have hcl := N6d.out.nd.c5
        refine wp_region_T (S := fun w' => w'.cell? ⟨w2.heap.size, 5, none⟩ = some (.slice q2 n2 c2)) (tail := fun i => decide (5 ≤ i)) (by kernel_rfl) ?_
        change wpAnyT _ _ _ _ _ _ _ _ _ (World.drew _)
        refine wpAnyT_take (i := 0) (d := 39) (v := .pointer (some ⟨w2.heap.size, 5, none⟩)) rfl rfl (by kernel_rfl) (fun _ _ _ h => h) (by rfl) ?y0 hcl ?_
        case y0 => intro w' hw'; go_simp
        try simp only [Act.put, List.setIfInBounds_toArray, List.set_cons_zero, List.set_cons_succ]
        refine wpAnyT_take (i := 1) (d := 40) (v := .slice q2 n2 c2) rfl rfl (by kernel_rfl) (fun _ _ _ h => h) (by rfl) ?y1 hcl ?_
        case y1 => intro w' hw'; go_simp
        try simp only [Act.put, List.setIfInBounds_toArray, List.set_cons_zero, List.set_cons_succ]
        refine wpAnyT_take (i := 2) (d := 41) (v := .pointer (some ⟨B, 0, none⟩)) rfl rfl (by kernel_rfl) (fun _ _ _ h => h) (by rfl) ?y2 hcl ?_
        case y2 => intro w' hw'; go_simp
        try simp only [Act.put, List.setIfInBounds_toArray, List.set_cons_zero, List.set_cons_succ]
        refine wpAnyT_one (i := 3) rfl (by kernel_rfl) (by rfl) (fun K hK => ?_)
        go_simp
        have HC := HNU.out B l5 _ S6d.out.ps HNOC.out
        refine HC.mono ?_
        intro e w6a hq
        rcases hq.cases HNOC.out with ⟨t6, l6, q6, n6, c6, he6, rfl, hb6, hP6, hg6⟩ | ⟨ln, c, code, he6, rfl, hg6⟩
        rotate_left
        · refine ⟨rfl, ?_⟩
          have hbad : (itemD n d) (t :: r) = .bad ln c code := by simp only [Bool.false_eq_true, if_false, if_true, reduceIte, Bool.not_false, Bool.not_true, Bool.false_or, Bool.true_or, Bool.or_false, Bool.or_true, Bool.and_true, Bool.and_false, Bool.false_and, Bool.true_and, List.nil_append, List.cons_append, List.append_nil, itemD, hv0, hp0, hb0, PR.bind, hdT_cons, HE2.out, HE5.out, he6]
          rw [hbad]
          exact S6d.out.pan ⟨rfl, hg6⟩
        have S6 := Lib.hid (S6d.out.call hP6 hg6)
        have N6 := Lib.hid (N6d.out.call hg6 (by omega))
        have HB6 := Lib.hid hb6
        have hbl := N6d.out.own
        have c6' := N6.out.nd.c5
        have f6' := N6.out.nd.f 5 (by omega)
        have hs6 := N6.out.lt
        have hsz5 := N6d.out.lt
        have hsz6 := hg6.size
        clear hP6 hg6 hb6 HC hq S6d N6d
        unfold nodeV
        refine hK.out _ _ (fun _ => c6') ?_
        clear hK K
        try simp only [Act.put, List.setIfInBounds_toArray, List.set_cons_zero, List.set_cons_succ]
        refine wpAnyT_one (i := 4) rfl (by kernel_rfl) (by rfl) (fun K hK => ?_)
        go_simp
        refine hK.out _ _ (fun _ => by go_simp) ?_
        clear hK K
        try simp only [Act.put, List.setIfInBounds_toArray, List.set_cons_zero, List.set_cons_succ]
        refine wpAnyT_one (i := 5) rfl (by kernel_rfl) (by rfl) (fun K hK => ?_)
        refine append_atX (dd := 44) (t := t6) (u := .slice q6 n6 c6) _ _ rfl rfl N6.out.bd HB6.out (fun g hg => ⟨by omega, by omega⟩) (fun g hg => (hbl g hg).2.2) hsz6 rfl rfl rfl (by rw [hk1]; omega) (fun v7 w6 hb7 hg7 => ?_)
        refine hK.out _ _ (fun h => absurd h (by decide)) ?_
        clear hK K
        obtain ⟨qq6, nn6, cc6, rfl⟩ := hb7.shape
        have hff := app_finX S6.out N6.out hwN (Nat.lt_succ_self _) hb7 hg7
        have hs7 : w6.frozen? ⟨w2.heap.size, 5, none⟩ = false := ((N6.out.nd.grown (World.grownBy_alloc w6a _ none) (by simp)).grown hg7 (fun e => (hbl _ e.symm).2.1 rfl)).f 5 (by omega)
        have hd7 := ((N6.out.nd.grown (World.grownBy_alloc w6a _ none) (by simp)).grown hg7 (fun e => (hbl _ e.symm).2.1 rfl)).c5
        have HFF := Lib.hid hff
        clear hff hb7 hg7 S6 N6 HB6 hbl hcl c6' f6' hsz5 hsz6
        try simp only [Act.put, List.setIfInBounds_toArray, List.set_cons_zero, List.set_cons_succ]
        refine wpAnyT_one (i := 6) rfl (by kernel_rfl) (by rfl) (fun K hK => ?_)
        go_simp
        refine hK.out _ _ (fun h => absurd h (by decide)) ?_
        clear hK K
        try simp only [Act.put, List.setIfInBounds_toArray, List.set_cons_zero, List.set_cons_succ]
        refine wpAnyT_one (i := 7) rfl (by kernel_rfl) (by rfl) (fun K hK => ?_)
        go_simp
        refine hK.out _ _ (fun h => absurd h (by decide)) ?_
        clear hK K
        try simp only [Act.put, List.setIfInBounds_toArray, List.set_cons_zero, List.set_cons_succ]
        refine wpAnyT_done (by kernel_rfl) ?_ _
        clear hs7 hd7
        have S6 := Lib.hid HFF.out.1
        have N6 := Lib.hid HFF.out.2
        have HE6 := Lib.hid he6
        clear HFF he6 HNOC
        have hszn := N6.out.lt
        simp only [World.size_setCell] at hszn
        have H := Lib.hid (pass_lit (S := w6.heap.size) [[93]] S6.out.ps (by simp) (by simp) (by simp))
        simp only [List.map, List.length] at H
        go_wp2_with fail
        refine (H.out).mono ?_
        rintro e w7 (⟨l7, he7, rfl, hP7, hg7⟩ | ⟨ln, c, code, he7, rfl, hg7⟩)
        rotate_left
        · refine ⟨rfl, ?_⟩
          have hbad : (itemD n d) (t :: r) = .bad ln c code := by simp only [Bool.false_eq_true, if_false, if_true, reduceIte, Bool.not_false, Bool.not_true, Bool.false_or, Bool.true_or, Bool.or_false, Bool.or_true, Bool.and_true, Bool.and_false, Bool.false_and, Bool.true_and, List.nil_append, List.cons_append, List.append_nil, itemD, hv0, hp0, hb0, PR.bind, hdT_cons, HE2.out, HE5.out, HE6.out, he7]
          rw [hbad]
          exact S6.out.pan ⟨rfl, hg7⟩
        have S7 := Lib.hid (S6.out.call hP7 hg7)
        have N7 := Lib.hid (N6.out.call hg7 (by omega))
        clear S6 N6
        have HE7 := Lib.hid he7
        clear H he7 hP7 hg7
        have H := Lib.hid (pass_lit (S := w7.heap.size) [[59]] S7.out.ps (by simp) (by simp) (by simp))
        simp only [List.map, List.length] at H
        go_wp2_with fail
        refine (H.out).mono ?_
        rintro e w8 (⟨l8, he8, rfl, hP8, hg8⟩ | ⟨ln, c, code, he8, rfl, hg8⟩)
        rotate_left
        · refine ⟨rfl, ?_⟩
          have hbad : (itemD n d) (t :: r) = .bad ln c code := by simp only [Bool.false_eq_true, if_false, if_true, reduceIte, Bool.not_false, Bool.not_true, Bool.false_or, Bool.true_or, Bool.or_false, Bool.or_true, Bool.and_true, Bool.and_false, Bool.false_and, Bool.true_and, List.nil_append, List.cons_append, List.append_nil, itemD, hv0, hp0, hb0, PR.bind, hdT_cons, HE2.out, HE5.out, HE6.out, HE7.out, he8]
          rw [hbad]
          exact S7.out.pan ⟨rfl, hg8⟩
        have S8 := Lib.hid (S7.out.call hP8 hg8)
        have N8 := Lib.hid (N7.out.call hg8 (by omega))
        clear S7 N7
        have HE8 := Lib.hid he8
        clear H he8 hP8 hg8
        have S9 := S8.out
        have N9 := N8.out
        have hs1 := S9.lt
        have hs2 := N9.lt
        try simp only [World.size_setCell, World.size_alloc] at hs1 hs2
        have hr := S9.res
        have r0 := hr.c0; have r1' := hr.c1; have r2 := hr.c2; have r3 := hr.c3; have r4 := hr.c4; have r5 := hr.c5
        have g0 := hr.f 0 (by omega); have g1 := hr.f 1 (by omega); have g2 := hr.f 2 (by omega); have g3 := hr.f 3 (by omega); have g4 := hr.f 4 (by omega); have g5 := hr.f 5 (by omega)
        clear hr
        have hq := N9.nd
        have qn0 := hq.c0; have qn1 := hq.c1; have qn2 := hq.c2; have qn3 := hq.c3; have qn4 := hq.c4; have qn5 := hq.c5
        clear hq
        have HS9 := Lib.hid S9
        have HN9 := Lib.hid N9
        clear S9 N9 S8 N8
        skip
        go_wp2
        refine bodyPost_ret (v := nodeV (.mk t2.kind t2.text t2.num t2.line t2.col (t2.kids ++ [t6])) (.slice qq6 nn6 cc6)) (by simp [results, Tryz.results75, go_sem, nodeV, Tree.kind, Tree.text, Tree.num, Tree.line, Tree.col, Tree.kids, kProgram, kGlobal, kFunc, kParam, kType, kNum, kBlock, kLocal, kIf, kElse, kWhile, kReturn, kAssert, kAssume, kAssign, kNondet, kResult, kCall, kName, kIndex, kBinary, kUnary, kCast, kTrue, kFalse, kVoid, *]) rfl ?_
        have hgood : (itemD n d) (t :: r) = .ok (.mk t2.kind t2.text t2.num t2.line t2.col (t2.kids ++ [t6])) l8 := by simp only [Bool.false_eq_true, if_false, if_true, reduceIte, Bool.not_false, Bool.not_true, Bool.false_or, Bool.true_or, Bool.or_false, Bool.or_true, Bool.and_true, Bool.and_false, Bool.false_and, Bool.true_and, List.nil_append, List.cons_append, List.append_nil, itemD, hv0, hp0, hb0, PR.bind, hdT_cons, HE2.out, HE5.out, HE6.out, HE7.out, HE8.out]
        rw [hgood]
        exact HS9.out.fin (t := (.mk t2.kind t2.text t2.num t2.line t2.col (t2.kids ++ [t6]))) (HN9.out.bd.build fun g hg => hg.1) _ _ _ _ _ _
    case true =>
      have H := Lib.hid (at_any B t3 r3l d [40] _ S2.out.ps)
      rw [hp0] at H
      go_wp2_with fail
      refine (H.out).mono ?_
      rintro e w3 ⟨rfl, hb3⟩
      have S3 := Lib.hid (S2.out.below hb3)
      have N3 := Lib.hid (N2.out.below hb3)
      clear S2 N2
      clear H hb3
      have hk0 := N3.out.nd.c0
      have hkf := N3.out.nd.f 0 (by omega)
      have S4 := Lib.hid (S3.out.setN hwN 0 (.string ⟨kFunc.toArray⟩))
      have N4 := Lib.hid (N3.out.setK kFunc)
      clear S3 N3
      have hnoc : commasP n (declaredP kParam false) (t3 :: r3l) ≠ .out := fun e => HNO.out (by simp only [Bool.false_eq_true, if_false, if_true, reduceIte, Bool.not_false, Bool.not_true, Bool.false_or, Bool.true_or, Bool.or_false, Bool.or_true, Bool.and_true, Bool.and_false, Bool.false_and, Bool.true_and, List.nil_append, List.cons_append, List.append_nil, itemD, hv0, hp0, PR.bind, hdT_cons, HE2.out, e])
      have HNOC := Lib.hid hnoc
      clear hnoc
      have S5d := Lib.hid S4.out.drew
      have N5d := Lib.hid N4.out.drew
      clear S4 N4
      go_wp2_with fail
      have hcl := N5d.out.nd.c5
      refine wp_region_T (S := fun w' => w'.cell? ⟨w2.heap.size, 5, none⟩ = some (.slice q2 n2 c2)) (tail := fun i => decide (6 ≤ i)) (by kernel_rfl) ?_
      change wpAnyT _ _ _ _ _ _ _ _ _ (World.drew _)
      refine wpAnyT_take (i := 0) (d := 16) (v := .pointer (some ⟨w2.heap.size, 5, none⟩)) rfl rfl (by kernel_rfl) (fun _ _ _ h => h) (by rfl) ?z0 hcl ?_
      case z0 => intro w' hw'; go_simp
      try simp only [Act.put, List.setIfInBounds_toArray, List.set_cons_zero, List.set_cons_succ]
      refine wpAnyT_take (i := 1) (d := 17) (v := .slice q2 n2 c2) rfl rfl (by kernel_rfl) (fun _ _ _ h => h) (by rfl) ?z1 hcl ?_
      case z1 => intro w' hw'; go_simp
      try simp only [Act.put, List.setIfInBounds_toArray, List.set_cons_zero, List.set_cons_succ]
      refine wpAnyT_take (i := 2) (d := 18) (v := .pointer (some ⟨B, 0, none⟩)) rfl rfl (by kernel_rfl) (fun _ _ _ h => h) (by rfl) ?z2 hcl ?_
      case z2 => intro w' hw'; go_simp
      try simp only [Act.put, List.setIfInBounds_toArray, List.set_cons_zero, List.set_cons_succ]
      refine wpAnyT_take (i := 3) (d := 19) (v := .pointer (some ⟨B, 0, none⟩)) rfl rfl (by kernel_rfl) (fun _ _ _ h => h) (by rfl) ?z3 hcl ?_
      case z3 => intro w' hw'; go_simp
      try simp only [Act.put, List.setIfInBounds_toArray, List.set_cons_zero, List.set_cons_succ]
      refine wpAnyT_take (i := 4) (d := 20) (v := .func (.func 94) #[.pointer (some ⟨B, 0, none⟩)] #[]) rfl rfl (by kernel_rfl) (fun _ _ _ h => h) (by rfl) ?z4 hcl ?_
      case z4 => intro w' hw'; go_simp
      try simp only [Act.put, List.setIfInBounds_toArray, List.set_cons_zero, List.set_cons_succ]
      refine wpAnyT_one (i := 5) rfl (by kernel_rfl) (by rfl) (fun K hK => ?_)
      go_simp
      refine (HCO.out B (t3 :: r3l) _ S5d.out.ps HNOC.out).mono ?_
      intro e w5a hq
      rcases hq.cases HNOC.out with ⟨ts5, l5, q5, n5, c5, he5, rfl, hb5, hP5, hg5, hln5, hz5⟩ | ⟨ln, c, code, he5, rfl, hg5⟩
      rotate_left
      · refine ⟨rfl, ?_⟩
        have hbad : (itemD n d) (t :: r) = .bad ln c code := by simp only [Bool.false_eq_true, if_false, if_true, reduceIte, Bool.not_false, Bool.not_true, Bool.false_or, Bool.true_or, Bool.or_false, Bool.or_true, Bool.and_true, Bool.and_false, Bool.false_and, Bool.true_and, List.nil_append, List.cons_append, List.append_nil, itemD, hv0, hp0, PR.bind, hdT_cons, HE2.out, he5]
        rw [hbad]
        exact S5d.out.pan ⟨rfl, hg5⟩
      have S6 := Lib.hid (S5d.out.call hP5 hg5)
      have N6 := Lib.hid (N5d.out.call hg5 (by omega))
      have HB6 := Lib.hid hb5
      have HZ6 := Lib.hid hz5
      have hbl := N5d.out.own
      have c6' := N6.out.nd.c5
      have hs6 := N6.out.lt
      have hsz5 := N5d.out.lt
      have hsz6 := hg5.size
      have HE5 := Lib.hid he5
      clear hP5 hg5 hb5 hz5 he5 hq S5d N5d
      refine hK.out _ _ (fun _ => c6') ?_
      clear hK K
      try simp only [Act.put, List.setIfInBounds_toArray, List.set_cons_zero, List.set_cons_succ]
      refine wpAnyT_one (i := 6) rfl (by kernel_rfl) (by rfl) (fun K hK => ?_)
      refine append_rowX (dd := 22) _ _ rfl rfl N6.out.bd HB6.out HZ6.out (fun g hg => ⟨by omega, by omega⟩) (fun g hg => (hbl g hg).2.2) hsz6 rfl rfl (by rw [hk1]; omega) (fun v7 w5 hb7 hg7 => ?_)
      refine hK.out _ _ (fun h => absurd h (by decide)) ?_
      clear hK K
      obtain ⟨qq5, nn5, cc5, rfl⟩ := hb7.shape
      have hff := app_finX0 S6.out N6.out hwN (Nat.lt_succ_self _) hb7 hg7
      have hs7 : w5.frozen? ⟨w2.heap.size, 5, none⟩ = false := (N6.out.nd.grown hg7 (fun e => (hbl _ e.symm).2.1 rfl)).f 5 (by omega)
      have hd7 := (N6.out.nd.grown hg7 (fun e => (hbl _ e.symm).2.1 rfl)).c5
      have HFF := Lib.hid hff
      clear hff hb7 hg7 S6 N6 HB6 HZ6 hbl hcl c6' hsz5 hsz6
      try simp only [Act.put, List.setIfInBounds_toArray, List.set_cons_zero, List.set_cons_succ]
      refine wpAnyT_one (i := 7) rfl (by kernel_rfl) (by rfl) (fun K hK => ?_)
      go_simp
      refine hK.out _ _ (fun h => absurd h (by decide)) ?_
      clear hK K
      try simp only [Act.put, List.setIfInBounds_toArray, List.set_cons_zero, List.set_cons_succ]
      refine wpAnyT_one (i := 8) rfl (by kernel_rfl) (by rfl) (fun K hK => ?_)
      go_simp
      refine hK.out _ _ (fun h => absurd h (by decide)) ?_
      clear hK K
      try simp only [Act.put, List.setIfInBounds_toArray, List.set_cons_zero, List.set_cons_succ]
      refine wpAnyT_done (by kernel_rfl) ?_ _
      clear hs7 hd7
      have S5 := Lib.hid HFF.out.1
      have N5 := Lib.hid HFF.out.2
      clear HFF HNOC
      have hnoc : deeperP d (runP n .block) l5 ≠ .out := fun e => HNO.out (by simp only [Bool.false_eq_true, if_false, if_true, reduceIte, Bool.not_false, Bool.not_true, Bool.false_or, Bool.true_or, Bool.or_false, Bool.or_true, Bool.and_true, Bool.and_false, Bool.false_and, Bool.true_and, List.nil_append, List.cons_append, List.append_nil, itemD, hv0, hp0, PR.bind, hdT_cons, HE2.out, HE5.out, e])
      have HNOC := Lib.hid hnoc
      clear hnoc
      have S6d := Lib.hid S5.out.drew
      have N6d := Lib.hid N5.out.drew
      clear S5 N5
      go_wp2_with fail
      have hcl := N6d.out.nd.c5
      refine wp_region_T (S := fun w' => w'.cell? ⟨w2.heap.size, 5, none⟩ = some (.slice qq5 nn5 cc5)) (tail := fun i => decide (7 ≤ i)) (by kernel_rfl) ?_
      change wpAnyT _ _ _ _ _ _ _ _ _ (World.drew _)
      refine wpAnyT_take (i := 0) (d := 24) (v := .pointer (some ⟨w2.heap.size, 5, none⟩)) rfl rfl (by kernel_rfl) (fun _ _ _ h => h) (by rfl) ?y0 hcl ?_
      case y0 => intro w' hw'; go_simp
      try simp only [Act.put, List.setIfInBounds_toArray, List.set_cons_zero, List.set_cons_succ]
      refine wpAnyT_take (i := 1) (d := 25) (v := .slice qq5 nn5 cc5) rfl rfl (by kernel_rfl) (fun _ _ _ h => h) (by rfl) ?y1 hcl ?_
      case y1 => intro w' hw'; go_simp
      try simp only [Act.put, List.setIfInBounds_toArray, List.set_cons_zero, List.set_cons_succ]
      refine wpAnyT_take (i := 2) (d := 26) (v := .pointer (some ⟨B, 0, none⟩)) rfl rfl (by kernel_rfl) (fun _ _ _ h => h) (by rfl) ?y2 hcl ?_
      case y2 => intro w' hw'; go_simp
      try simp only [Act.put, List.setIfInBounds_toArray, List.set_cons_zero, List.set_cons_succ]
      refine wpAnyT_take (i := 3) (d := 27) (v := .pointer (some ⟨B, 0, none⟩)) rfl rfl (by kernel_rfl) (fun _ _ _ h => h) (by rfl) ?y3 hcl ?_
      case y3 => intro w' hw'; go_simp
      try simp only [Act.put, List.setIfInBounds_toArray, List.set_cons_zero, List.set_cons_succ]
      refine wpAnyT_take (i := 4) (d := 28) (v := .func (.func 96) #[.pointer (some ⟨B, 0, none⟩)] #[]) rfl rfl (by kernel_rfl) (fun _ _ _ h => h) (by rfl) ?y4 hcl ?_
      case y4 => intro w' hw'; go_simp
      try simp only [Act.put, List.setIfInBounds_toArray, List.set_cons_zero, List.set_cons_succ]
      refine wpAnyT_one (i := 5) rfl (by kernel_rfl) (by rfl) (fun K hK => ?_)
      go_simp
      have HC := HBL.out B l5 _ S6d.out.ps HNOC.out
      refine HC.mono ?_
      intro e w6a hq
      rcases hq.cases HNOC.out with ⟨t6, l6, q6, n6, c6, he6, rfl, hb6, hP6, hg6⟩ | ⟨ln, c, code, he6, rfl, hg6⟩
      rotate_left
      · refine ⟨rfl, ?_⟩
        have hbad : (itemD n d) (t :: r) = .bad ln c code := by simp only [Bool.false_eq_true, if_false, if_true, reduceIte, Bool.not_false, Bool.not_true, Bool.false_or, Bool.true_or, Bool.or_false, Bool.or_true, Bool.and_true, Bool.and_false, Bool.false_and, Bool.true_and, List.nil_append, List.cons_append, List.append_nil, itemD, hv0, hp0, PR.bind, hdT_cons, HE2.out, HE5.out, he6]
        rw [hbad]
        exact S6d.out.pan ⟨rfl, hg6⟩
      have S6 := Lib.hid (S6d.out.call hP6 hg6)
      have N6 := Lib.hid (N6d.out.call hg6 (by omega))
      have HB6 := Lib.hid hb6
      have hbl := N6d.out.own
      have c6' := N6.out.nd.c5
      have f6' := N6.out.nd.f 5 (by omega)
      have hs6 := N6.out.lt
      have hsz5 := N6d.out.lt
      have hsz6 := hg6.size
      clear hP6 hg6 hb6 HC hq S6d N6d
      unfold nodeV
      refine hK.out _ _ (fun _ => c6') ?_
      clear hK K
      try simp only [Act.put, List.setIfInBounds_toArray, List.set_cons_zero, List.set_cons_succ]
      refine wpAnyT_one (i := 6) rfl (by kernel_rfl) (by rfl) (fun K hK => ?_)
      go_simp
      refine hK.out _ _ (fun _ => by go_simp) ?_
      clear hK K
      try simp only [Act.put, List.setIfInBounds_toArray, List.set_cons_zero, List.set_cons_succ]
      refine wpAnyT_one (i := 7) rfl (by kernel_rfl) (by rfl) (fun K hK => ?_)
      refine append_atX (dd := 31) (t := t6) (u := .slice q6 n6 c6) _ _ rfl rfl N6.out.bd HB6.out (fun g hg => ⟨by omega, by omega⟩) (fun g hg => (hbl g hg).2.2) hsz6 rfl rfl rfl (by rw [List.length_append, hk1]; omega) (fun v7 w6 hb7 hg7 => ?_)
      refine hK.out _ _ (fun h => absurd h (by decide)) ?_
      clear hK K
      obtain ⟨qq6, nn6, cc6, rfl⟩ := hb7.shape
      have hff := app_finX S6.out N6.out hwN (Nat.lt_succ_self _) hb7 hg7
      have hs7 : w6.frozen? ⟨w2.heap.size, 5, none⟩ = false := ((N6.out.nd.grown (World.grownBy_alloc w6a _ none) (by simp)).grown hg7 (fun e => (hbl _ e.symm).2.1 rfl)).f 5 (by omega)
      have hd7 := ((N6.out.nd.grown (World.grownBy_alloc w6a _ none) (by simp)).grown hg7 (fun e => (hbl _ e.symm).2.1 rfl)).c5
      have HFF := Lib.hid hff
      clear hff hb7 hg7 S6 N6 HB6 hbl hcl c6' f6' hsz5 hsz6
      try simp only [Act.put, List.setIfInBounds_toArray, List.set_cons_zero, List.set_cons_succ]
      refine wpAnyT_one (i := 8) rfl (by kernel_rfl) (by rfl) (fun K hK => ?_)
      go_simp
      refine hK.out _ _ (fun h => absurd h (by decide)) ?_
      clear hK K
      try simp only [Act.put, List.setIfInBounds_toArray, List.set_cons_zero, List.set_cons_succ]
      refine wpAnyT_one (i := 9) rfl (by kernel_rfl) (by rfl) (fun K hK => ?_)
      go_simp
      refine hK.out _ _ (fun h => absurd h (by decide)) ?_
      clear hK K
      try simp only [Act.put, List.setIfInBounds_toArray, List.set_cons_zero, List.set_cons_succ]
      refine wpAnyT_done (by kernel_rfl) ?_ _
      clear hs7 hd7
      have S6 := Lib.hid HFF.out.1
      have N6 := Lib.hid HFF.out.2
      have HE6 := Lib.hid he6
      clear HFF he6 HNOC
      have hszn := N6.out.lt
      simp only [World.size_setCell] at hszn
      have S9 := S6.out
      have N9 := N6.out
      have hs1 := S9.lt
      have hs2 := N9.lt
      try simp only [World.size_setCell, World.size_alloc] at hs1 hs2
      have hr := S9.res
      have r0 := hr.c0; have r1' := hr.c1; have r2 := hr.c2; have r3 := hr.c3; have r4 := hr.c4; have r5 := hr.c5
      have g0 := hr.f 0 (by omega); have g1 := hr.f 1 (by omega); have g2 := hr.f 2 (by omega); have g3 := hr.f 3 (by omega); have g4 := hr.f 4 (by omega); have g5 := hr.f 5 (by omega)
      clear hr
      have hq := N9.nd
      have qn0 := hq.c0; have qn1 := hq.c1; have qn2 := hq.c2; have qn3 := hq.c3; have qn4 := hq.c4; have qn5 := hq.c5
      clear hq
      have HS9 := Lib.hid S9
      have HN9 := Lib.hid N9
      clear S9 N9 S6 N6
      unfold kFunc at qn0
      go_wp2
      refine bodyPost_ret (v := nodeV (.mk kFunc t2.text t2.num t2.line t2.col ((t2.kids ++ ts5) ++ [t6])) (.slice qq6 nn6 cc6)) (by simp [results, Tryz.results75, go_sem, nodeV, Tree.kind, Tree.text, Tree.num, Tree.line, Tree.col, Tree.kids, kProgram, kGlobal, kFunc, kParam, kType, kNum, kBlock, kLocal, kIf, kElse, kWhile, kReturn, kAssert, kAssume, kAssign, kNondet, kResult, kCall, kName, kIndex, kBinary, kUnary, kCast, kTrue, kFalse, kVoid, *]) rfl ?_
      have hgood : (itemD n d) (t :: r) = .ok (.mk kFunc t2.text t2.num t2.line t2.col ((t2.kids ++ ts5) ++ [t6])) l6 := by simp only [Bool.false_eq_true, if_false, if_true, reduceIte, Bool.not_false, Bool.not_true, Bool.false_or, Bool.true_or, Bool.or_false, Bool.or_true, Bool.and_true, Bool.and_false, Bool.false_and, Bool.true_and, List.nil_append, List.cons_append, List.append_nil, itemD, hv0, hp0, PR.bind, hdT_cons, HE2.out, HE5.out, HE6.out]
      rw [hgood]
      exact HS9.out.fin (t := (.mk kFunc t2.text t2.num t2.line t2.col ((t2.kids ++ ts5) ++ [t6]))) (HN9.out.bd.build fun g hg => hg.1) _ _ _ _ _ _
  case true =>
    have H := Lib.hid (at_any B t r d kVoid _ S0.out.ps)
    rw [hv0] at H
    go_wp2_with fail
    refine (H.out).mono ?_
    rintro e w1 ⟨rfl, hb1⟩
    have S1 := Lib.hid (S0.out.below hb1)
    clear S0
    clear H hb1
    have hcv : true = true → (hdT (t :: r)).text ≠ [] := fun _ e => by rw [show (hdT (t :: r)).text = t.text from rfl] at e; rw [e] at hv0; exact absurd hv0 (by decide)
    have HD2 := Lib.hid (fun (B : Nat) (l : List Tok) (w : World) (h : PsAt B l d w) (hc : true = true → (hdT l).text ≠ []) (ho : declaredP kGlobal true l ≠ .out) => HDE.out true B l w h hc ho)
    have hnoc : declaredP kGlobal true (t :: r) ≠ .out := fun e => HNO.out (by simp only [Bool.false_eq_true, if_false, if_true, reduceIte, Bool.not_false, Bool.not_true, Bool.false_or, Bool.true_or, Bool.or_false, Bool.or_true, Bool.and_true, Bool.and_false, Bool.false_and, Bool.true_and, List.nil_append, List.cons_append, List.append_nil, itemD, hv0, PR.bind, hdT_cons, e])
    have HC := Lib.hid (HDE.out true B (t :: r) _ S1.out.ps hcv hnoc)
    have HNOC := Lib.hid hnoc
    clear hnoc
    go_wp2_with fail
    refine (HC.out).mono ?_
    intro e w2 hq
    rcases hq.cases HNOC.out with ⟨t2, l2, q2, n2, c2, he2, rfl, hb2, hP2, hg2⟩ | ⟨ln, c, code, he2, rfl, hg2⟩
    rotate_left
    · refine ⟨rfl, ?_⟩
      have hbad : (itemD n d) (t :: r) = .bad ln c code := by simp only [Bool.false_eq_true, if_false, if_true, reduceIte, Bool.not_false, Bool.not_true, Bool.false_or, Bool.true_or, Bool.or_false, Bool.or_true, Bool.and_true, Bool.and_false, Bool.false_and, Bool.true_and, List.nil_append, List.cons_append, List.append_nil, itemD, hv0, PR.bind, hdT_cons, he2]
      rw [hbad]
      exact S1.out.pan ⟨rfl, hg2⟩
    have hwN : w.heap.size < w2.heap.size := (S1.out.call hP2 hg2).lt
    have N2 := Lib.hid (NdX.put t2 (hb2.mono (lo' := w.heap.size + 1) S1.out.lt))
    have S2 := Lib.hid ((S1.out.call hP2 hg2).alloc (nodO t2.kind t2.text t2.num t2.line t2.col (.slice q2 n2 c2)))
    have HE2 := Lib.hid he2
    clear hq hb2 hP2 hg2 he2 HC HNOC S1
    unfold nodeV nodO at *
    have hk1 : t2.kids.length = 1 := declared_kids HE2.out
    clear hcv HD2 HDE
    have hk0 := N2.out.nd.c0
    have hkf := N2.out.nd.f 0 (by omega)
    have S3 := Lib.hid (S2.out.setN hwN 0 (.string ⟨kFunc.toArray⟩))
    have N3 := Lib.hid (N2.out.setK kFunc)
    clear S2 N2
    rw [put_kind] at S3 N3
    have hnoc : commasP n (declaredP kParam false) l2 ≠ .out := fun e => HNO.out (by simp only [Bool.false_eq_true, if_false, if_true, reduceIte, Bool.not_false, Bool.not_true, Bool.false_or, Bool.true_or, Bool.or_false, Bool.or_true, Bool.and_true, Bool.and_false, Bool.false_and, Bool.true_and, List.nil_append, List.cons_append, List.append_nil, itemD, hv0, PR.bind, hdT_cons, HE2.out, e])
    have HNOC := Lib.hid hnoc
    clear hnoc
    have S4d := Lib.hid S3.out.drew
    have N4d := Lib.hid N3.out.drew
    clear S3 N3
    go_wp2_with fail
    have hcl := N4d.out.nd.c5
    refine wp_region_T (S := fun w' => w'.cell? ⟨w2.heap.size, 5, none⟩ = some (.slice q2 n2 c2)) (tail := fun i => decide (6 ≤ i)) (by kernel_rfl) ?_
    change wpAnyT _ _ _ _ _ _ _ _ _ (World.drew _)
    refine wpAnyT_take (i := 0) (d := 16) (v := .pointer (some ⟨w2.heap.size, 5, none⟩)) rfl rfl (by kernel_rfl) (fun _ _ _ h => h) (by rfl) ?z0 hcl ?_
    case z0 => intro w' hw'; go_simp
    try simp only [Act.put, List.setIfInBounds_toArray, List.set_cons_zero, List.set_cons_succ]
    refine wpAnyT_take (i := 1) (d := 17) (v := .slice q2 n2 c2) rfl rfl (by kernel_rfl) (fun _ _ _ h => h) (by rfl) ?z1 hcl ?_
    case z1 => intro w' hw'; go_simp
    try simp only [Act.put, List.setIfInBounds_toArray, List.set_cons_zero, List.set_cons_succ]
    refine wpAnyT_take (i := 2) (d := 18) (v := .pointer (some ⟨B, 0, none⟩)) rfl rfl (by kernel_rfl) (fun _ _ _ h => h) (by rfl) ?z2 hcl ?_
    case z2 => intro w' hw'; go_simp
    try simp only [Act.put, List.setIfInBounds_toArray, List.set_cons_zero, List.set_cons_succ]
    refine wpAnyT_take (i := 3) (d := 19) (v := .pointer (some ⟨B, 0, none⟩)) rfl rfl (by kernel_rfl) (fun _ _ _ h => h) (by rfl) ?z3 hcl ?_
    case z3 => intro w' hw'; go_simp
    try simp only [Act.put, List.setIfInBounds_toArray, List.set_cons_zero, List.set_cons_succ]
    refine wpAnyT_take (i := 4) (d := 20) (v := .func (.func 94) #[.pointer (some ⟨B, 0, none⟩)] #[]) rfl rfl (by kernel_rfl) (fun _ _ _ h => h) (by rfl) ?z4 hcl ?_
    case z4 => intro w' hw'; go_simp
    try simp only [Act.put, List.setIfInBounds_toArray, List.set_cons_zero, List.set_cons_succ]
    refine wpAnyT_one (i := 5) rfl (by kernel_rfl) (by rfl) (fun K hK => ?_)
    go_simp
    refine (HCO.out B l2 _ S4d.out.ps HNOC.out).mono ?_
    intro e w4a hq
    rcases hq.cases HNOC.out with ⟨ts4, l4, q4, n4, c4, he4, rfl, hb4, hP4, hg4, hln4, hz4⟩ | ⟨ln, c, code, he4, rfl, hg4⟩
    rotate_left
    · refine ⟨rfl, ?_⟩
      have hbad : (itemD n d) (t :: r) = .bad ln c code := by simp only [Bool.false_eq_true, if_false, if_true, reduceIte, Bool.not_false, Bool.not_true, Bool.false_or, Bool.true_or, Bool.or_false, Bool.or_true, Bool.and_true, Bool.and_false, Bool.false_and, Bool.true_and, List.nil_append, List.cons_append, List.append_nil, itemD, hv0, PR.bind, hdT_cons, HE2.out, he4]
      rw [hbad]
      exact S4d.out.pan ⟨rfl, hg4⟩
    have S6 := Lib.hid (S4d.out.call hP4 hg4)
    have N6 := Lib.hid (N4d.out.call hg4 (by omega))
    have HB6 := Lib.hid hb4
    have HZ6 := Lib.hid hz4
    have hbl := N4d.out.own
    have c6' := N6.out.nd.c5
    have hs6 := N6.out.lt
    have hsz5 := N4d.out.lt
    have hsz6 := hg4.size
    have HE4 := Lib.hid he4
    clear hP4 hg4 hb4 hz4 he4 hq S4d N4d
    refine hK.out _ _ (fun _ => c6') ?_
    clear hK K
    try simp only [Act.put, List.setIfInBounds_toArray, List.set_cons_zero, List.set_cons_succ]
    refine wpAnyT_one (i := 6) rfl (by kernel_rfl) (by rfl) (fun K hK => ?_)
    refine append_rowX (dd := 22) _ _ rfl rfl N6.out.bd HB6.out HZ6.out (fun g hg => ⟨by omega, by omega⟩) (fun g hg => (hbl g hg).2.2) hsz6 rfl rfl (by rw [hk1]; omega) (fun v7 w4 hb7 hg7 => ?_)
    refine hK.out _ _ (fun h => absurd h (by decide)) ?_
    clear hK K
    obtain ⟨qq4, nn4, cc4, rfl⟩ := hb7.shape
    have hff := app_finX0 S6.out N6.out hwN (Nat.lt_succ_self _) hb7 hg7
    have hs7 : w4.frozen? ⟨w2.heap.size, 5, none⟩ = false := (N6.out.nd.grown hg7 (fun e => (hbl _ e.symm).2.1 rfl)).f 5 (by omega)
    have hd7 := (N6.out.nd.grown hg7 (fun e => (hbl _ e.symm).2.1 rfl)).c5
    have HFF := Lib.hid hff
    clear hff hb7 hg7 S6 N6 HB6 HZ6 hbl hcl c6' hsz5 hsz6
    try simp only [Act.put, List.setIfInBounds_toArray, List.set_cons_zero, List.set_cons_succ]
    refine wpAnyT_one (i := 7) rfl (by kernel_rfl) (by rfl) (fun K hK => ?_)
    go_simp
    refine hK.out _ _ (fun h => absurd h (by decide)) ?_
    clear hK K
    try simp only [Act.put, List.setIfInBounds_toArray, List.set_cons_zero, List.set_cons_succ]
    refine wpAnyT_one (i := 8) rfl (by kernel_rfl) (by rfl) (fun K hK => ?_)
    go_simp
    refine hK.out _ _ (fun h => absurd h (by decide)) ?_
    clear hK K
    try simp only [Act.put, List.setIfInBounds_toArray, List.set_cons_zero, List.set_cons_succ]
    refine wpAnyT_done (by kernel_rfl) ?_ _
    clear hs7 hd7
    have S4 := Lib.hid HFF.out.1
    have N4 := Lib.hid HFF.out.2
    clear HFF HNOC
    have hnoc : deeperP d (runP n .block) l4 ≠ .out := fun e => HNO.out (by simp only [Bool.false_eq_true, if_false, if_true, reduceIte, Bool.not_false, Bool.not_true, Bool.false_or, Bool.true_or, Bool.or_false, Bool.or_true, Bool.and_true, Bool.and_false, Bool.false_and, Bool.true_and, List.nil_append, List.cons_append, List.append_nil, itemD, hv0, PR.bind, hdT_cons, HE2.out, HE4.out, e])
    have HNOC := Lib.hid hnoc
    clear hnoc
    have S5d := Lib.hid S4.out.drew
    have N5d := Lib.hid N4.out.drew
    clear S4 N4
    go_wp2_with fail
    have hcl := N5d.out.nd.c5
    refine wp_region_T (S := fun w' => w'.cell? ⟨w2.heap.size, 5, none⟩ = some (.slice qq4 nn4 cc4)) (tail := fun i => decide (7 ≤ i)) (by kernel_rfl) ?_
    change wpAnyT _ _ _ _ _ _ _ _ _ (World.drew _)
    refine wpAnyT_take (i := 0) (d := 24) (v := .pointer (some ⟨w2.heap.size, 5, none⟩)) rfl rfl (by kernel_rfl) (fun _ _ _ h => h) (by rfl) ?y0 hcl ?_
    case y0 => intro w' hw'; go_simp
    try simp only [Act.put, List.setIfInBounds_toArray, List.set_cons_zero, List.set_cons_succ]
    refine wpAnyT_take (i := 1) (d := 25) (v := .slice qq4 nn4 cc4) rfl rfl (by kernel_rfl) (fun _ _ _ h => h) (by rfl) ?y1 hcl ?_
    case y1 => intro w' hw'; go_simp
    try simp only [Act.put, List.setIfInBounds_toArray, List.set_cons_zero, List.set_cons_succ]
    refine wpAnyT_take (i := 2) (d := 26) (v := .pointer (some ⟨B, 0, none⟩)) rfl rfl (by kernel_rfl) (fun _ _ _ h => h) (by rfl) ?y2 hcl ?_
    case y2 => intro w' hw'; go_simp
    try simp only [Act.put, List.setIfInBounds_toArray, List.set_cons_zero, List.set_cons_succ]
    refine wpAnyT_take (i := 3) (d := 27) (v := .pointer (some ⟨B, 0, none⟩)) rfl rfl (by kernel_rfl) (fun _ _ _ h => h) (by rfl) ?y3 hcl ?_
    case y3 => intro w' hw'; go_simp
    try simp only [Act.put, List.setIfInBounds_toArray, List.set_cons_zero, List.set_cons_succ]
    refine wpAnyT_take (i := 4) (d := 28) (v := .func (.func 96) #[.pointer (some ⟨B, 0, none⟩)] #[]) rfl rfl (by kernel_rfl) (fun _ _ _ h => h) (by rfl) ?y4 hcl ?_
    case y4 => intro w' hw'; go_simp
    try simp only [Act.put, List.setIfInBounds_toArray, List.set_cons_zero, List.set_cons_succ]
    refine wpAnyT_one (i := 5) rfl (by kernel_rfl) (by rfl) (fun K hK => ?_)
    go_simp
    have HC := HBL.out B l4 _ S5d.out.ps HNOC.out
    refine HC.mono ?_
    intro e w5a hq
    rcases hq.cases HNOC.out with ⟨t5, l5, q5, n5, c5, he5, rfl, hb6, hP6, hg6⟩ | ⟨ln, c, code, he5, rfl, hg6⟩
    rotate_left
    · refine ⟨rfl, ?_⟩
      have hbad : (itemD n d) (t :: r) = .bad ln c code := by simp only [Bool.false_eq_true, if_false, if_true, reduceIte, Bool.not_false, Bool.not_true, Bool.false_or, Bool.true_or, Bool.or_false, Bool.or_true, Bool.and_true, Bool.and_false, Bool.false_and, Bool.true_and, List.nil_append, List.cons_append, List.append_nil, itemD, hv0, PR.bind, hdT_cons, HE2.out, HE4.out, he5]
      rw [hbad]
      exact S5d.out.pan ⟨rfl, hg6⟩
    have S6 := Lib.hid (S5d.out.call hP6 hg6)
    have N6 := Lib.hid (N5d.out.call hg6 (by omega))
    have HB6 := Lib.hid hb6
    have hbl := N5d.out.own
    have c6' := N6.out.nd.c5
    have f6' := N6.out.nd.f 5 (by omega)
    have hs6 := N6.out.lt
    have hsz5 := N5d.out.lt
    have hsz6 := hg6.size
    clear hP6 hg6 hb6 HC hq S5d N5d
    unfold nodeV
    refine hK.out _ _ (fun _ => c6') ?_
    clear hK K
    try simp only [Act.put, List.setIfInBounds_toArray, List.set_cons_zero, List.set_cons_succ]
    refine wpAnyT_one (i := 6) rfl (by kernel_rfl) (by rfl) (fun K hK => ?_)
    go_simp
    refine hK.out _ _ (fun _ => by go_simp) ?_
    clear hK K
    try simp only [Act.put, List.setIfInBounds_toArray, List.set_cons_zero, List.set_cons_succ]
    refine wpAnyT_one (i := 7) rfl (by kernel_rfl) (by rfl) (fun K hK => ?_)
    refine append_atX (dd := 31) (t := t5) (u := .slice q5 n5 c5) _ _ rfl rfl N6.out.bd HB6.out (fun g hg => ⟨by omega, by omega⟩) (fun g hg => (hbl g hg).2.2) hsz6 rfl rfl rfl (by rw [List.length_append, hk1]; omega) (fun v7 w5 hb7 hg7 => ?_)
    refine hK.out _ _ (fun h => absurd h (by decide)) ?_
    clear hK K
    obtain ⟨qq5, nn5, cc5, rfl⟩ := hb7.shape
    have hff := app_finX S6.out N6.out hwN (Nat.lt_succ_self _) hb7 hg7
    have hs7 : w5.frozen? ⟨w2.heap.size, 5, none⟩ = false := ((N6.out.nd.grown (World.grownBy_alloc w5a _ none) (by simp)).grown hg7 (fun e => (hbl _ e.symm).2.1 rfl)).f 5 (by omega)
    have hd7 := ((N6.out.nd.grown (World.grownBy_alloc w5a _ none) (by simp)).grown hg7 (fun e => (hbl _ e.symm).2.1 rfl)).c5
    have HFF := Lib.hid hff
    clear hff hb7 hg7 S6 N6 HB6 hbl hcl c6' f6' hsz5 hsz6
    try simp only [Act.put, List.setIfInBounds_toArray, List.set_cons_zero, List.set_cons_succ]
    refine wpAnyT_one (i := 8) rfl (by kernel_rfl) (by rfl) (fun K hK => ?_)
    go_simp
    refine hK.out _ _ (fun h => absurd h (by decide)) ?_
    clear hK K
    try simp only [Act.put, List.setIfInBounds_toArray, List.set_cons_zero, List.set_cons_succ]
    refine wpAnyT_one (i := 9) rfl (by kernel_rfl) (by rfl) (fun K hK => ?_)
    go_simp
    refine hK.out _ _ (fun h => absurd h (by decide)) ?_
    clear hK K
    try simp only [Act.put, List.setIfInBounds_toArray, List.set_cons_zero, List.set_cons_succ]
    refine wpAnyT_done (by kernel_rfl) ?_ _
    clear hs7 hd7
    have S5 := Lib.hid HFF.out.1
    have N5 := Lib.hid HFF.out.2
    have HE5 := Lib.hid he5
    clear HFF he5 HNOC
    have hszn := N5.out.lt
    simp only [World.size_setCell] at hszn
    have S9 := S5.out
    have N9 := N5.out
    have hs1 := S9.lt
    have hs2 := N9.lt
    try simp only [World.size_setCell, World.size_alloc] at hs1 hs2
    have hr := S9.res
    have r0 := hr.c0; have r1' := hr.c1; have r2 := hr.c2; have r3 := hr.c3; have r4 := hr.c4; have r5 := hr.c5
    have g0 := hr.f 0 (by omega); have g1 := hr.f 1 (by omega); have g2 := hr.f 2 (by omega); have g3 := hr.f 3 (by omega); have g4 := hr.f 4 (by omega); have g5 := hr.f 5 (by omega)
    clear hr
    have hq := N9.nd
    have qn0 := hq.c0; have qn1 := hq.c1; have qn2 := hq.c2; have qn3 := hq.c3; have qn4 := hq.c4; have qn5 := hq.c5
    clear hq
    have HS9 := Lib.hid S9
    have HN9 := Lib.hid N9
    clear S9 N9 S5 N5
    unfold kFunc at qn0
    go_wp2
    refine bodyPost_ret (v := nodeV (.mk kFunc t2.text t2.num t2.line t2.col ((t2.kids ++ ts4) ++ [t5])) (.slice qq5 nn5 cc5)) (by simp [results, Tryz.results75, go_sem, nodeV, Tree.kind, Tree.text, Tree.num, Tree.line, Tree.col, Tree.kids, kProgram, kGlobal, kFunc, kParam, kType, kNum, kBlock, kLocal, kIf, kElse, kWhile, kReturn, kAssert, kAssume, kAssign, kNondet, kResult, kCall, kName, kIndex, kBinary, kUnary, kCast, kTrue, kFalse, kVoid, *]) rfl ?_
    have hgood : (itemD n d) (t :: r) = .ok (.mk kFunc t2.text t2.num t2.line t2.col ((t2.kids ++ ts4) ++ [t5])) l5 := by simp only [Bool.false_eq_true, if_false, if_true, reduceIte, Bool.not_false, Bool.not_true, Bool.false_or, Bool.true_or, Bool.or_false, Bool.or_true, Bool.and_true, Bool.and_false, Bool.false_and, Bool.true_and, List.nil_append, List.cons_append, List.append_nil, itemD, hv0, PR.bind, hdT_cons, HE2.out, HE4.out, HE5.out]
    rw [hgood]
    exact HS9.out.fin (t := (.mk kFunc t2.text t2.num t2.line t2.col ((t2.kids ++ ts4) ++ [t5]))) (HN9.out.bd.build fun g hg => hg.1) _ _ _ _ _ _
end Go.Proofs.YtnalgnklgmoepaaGreatDoor
namespace Go.Proofs.YtnalgnklgmoepaaGreatDoor
open Go Go.RowKit

def ProgRel (n : Nat) (R : PR (List Tree)) (w : World) (B N : Nat) (ln c : Int) (k : Nat) (wr : World) : Prop :=
  ∃ acc l v, St w B l 0 wr ∧ Nd N kProgram [] 0 ln c v acc wr ∧ manyP (fun u => u.kind == 3) (itemP n) k acc l = R ∧ acc.length + k ≤ n
set_option maxHeartbeats 4000000 in
set_option maxRecDepth 100000 in
theorem program_does (n : Nat) (hn : n ≤ 900000) (hit : Does 75 (fun p => #[p]) 0 (itemP n)) : Does 48 (fun p => #[p]) 0 (programP n) := by
  intro B l w h hno
  obtain ⟨t, r, rfl⟩ := h.ends.ne
  have S0 := St.start h
  have H := Lib.hid (peek_any B t r 0 _ S0.ps)
  have HN := Lib.hid (node_any t ⟨#[112, 114, 111, 103, 114, 97, 109]⟩ ⟨#[]⟩)
  have HS := Lib.hid S0
  have hno3 : manyP (fun u => u.kind == 3) (itemP n) n [] (t :: r) ≠ .out := bind_out hno
  have HNO3 := Lib.hid hno3
  have HIT := Lib.hid hit
  have hfk := field_kind
  clear h S0 hno hit hno3
  unfold zero6 at *
  go_enter Tryz.func48, Tryz.ntmps48
  go_wp2_with fail
  refine (H.out).mono ?_
  rintro e w1 ⟨rfl, hb1⟩
  have S1 := Lib.hid (HS.out.below hb1)
  clear H HS hb1
  go_wp2_with fail
  refine (HN.out _).mono ?_
  rintro e w2 ⟨rfl, hb2⟩
  have S3 := Lib.hid ((S1.out.below hb2).alloc (nodO kProgram [] 0 t.line t.col (.slice none 0 0)))
  have N3 := Lib.hid (Nd.new kProgram [] 0 t.line t.col w2)
  have hwN : w.heap.size < w2.heap.size := (S1.out.below hb2).lt
  have hBw := S3.out.hB
  clear S1 hb2 HN
  unfold nodO kProgram at *
  go_wp2_with fail
  go_loopg [] n (fun k wr => ProgRel n (manyP (fun u => u.kind == 3) (itemP n) n [] (t :: r)) w B w2.heap.size t.line t.col k wr)
  case atStart => exact ⟨[], t :: r, _, S3.out, N3.out, rfl, by simp⟩
  case round =>
    obtain ⟨acc, l1, v, S, N, hm, hlen⟩ := hrel
    obtain ⟨t1, r1, rfl⟩ := S.ps.ends.ne
    obtain ⟨q, vn, vc, rfl⟩ := N.bd.shape
    have HA := Lib.hid (peek_any B t1 r1 0 wr S.ps)
    have HS := Lib.hid S
    have HN := Lib.hid N
    have HM := Lib.hid hm
    clear S N hm S3 N3
    cases gk with
    | zero => exact absurd HM.out.symm HNO3.out
    | succ m =>
    by_cases he : t1.kind = 3
    · have heb : (t1.kind == 3) = true := by simpa using he
      have heb' : (t1.kind != 3) = false := by simpa using he
      have hpm : manyP (fun u => u.kind == 3) (itemP n) (m + 1) acc (t1 :: r1) = .ok acc (t1 :: r1) := by
        rw [manyP]
        simp only [hdT_cons, heb, if_true]
      have HPM := Lib.hid hpm
      clear hpm he
      go_wp2_with fail
      refine (HA.out).mono ?_
      rintro e w4 ⟨rfl, hb4⟩
      unfold tokW tokV
      have S9 := HS.out.below hb4
      have N9 := HN.out.below hb4
      have hs1 := S9.lt
      have hs2 := N9.lt
      have hr := S9.res
      have r0 := hr.c0; have r1' := hr.c1; have r2 := hr.c2; have r3 := hr.c3; have r4 := hr.c4; have r5 := hr.c5
      have g0 := hr.f 0 (by omega); have g1 := hr.f 1 (by omega); have g2 := hr.f 2 (by omega); have g3 := hr.f 3 (by omega); have g4 := hr.f 4 (by omega); have g5 := hr.f 5 (by omega)
      clear hr
      have hq := N9.nd
      have qn0 := hq.c0; have qn1 := hq.c1; have qn2 := hq.c2; have qn3 := hq.c3; have qn4 := hq.c4; have qn5 := hq.c5
      clear hq
      have HS9 := Lib.hid S9
      have HN9 := Lib.hid N9
      clear S9 N9 hb4 HS HN HA
      unfold kProgram at qn0
      go_wp2
      refine bodyPost_ret (v := nodeV (.mk kProgram [] 0 t.line t.col acc) (.slice q vn vc)) (by simp [results, Tryz.results48, go_sem, nodeV, Tree.kind, Tree.text, Tree.num, Tree.line, Tree.col, Tree.kids, kProgram, kGlobal, kFunc, kParam, kType, kNum, kBlock, kLocal, kIf, kElse, kWhile, kReturn, kAssert, kAssume, kAssign, kNondet, kResult, kCall, kName, kIndex, kBinary, kUnary, kCast, kTrue, kFalse, kVoid, *]) rfl ?_
      have : programP n (t :: r) = .ok (.mk kProgram [] 0 t.line t.col acc) (t1 :: r1) := bind_ok (HM.out.symm.trans HPM.out)
      rw [this]
      exact HS9.out.fin (HN9.out.bd.mono (by omega)) _ _ _ _ _ _
    · have heb : (t1.kind == 3) = false := by simpa using he
      have heb' : (t1.kind != 3) = true := by simpa using he
      have hpm : manyP (fun u => u.kind == 3) (itemP n) (m + 1) acc (t1 :: r1) = (itemP n (t1 :: r1)).bind fun t l => manyP (fun u => u.kind == 3) (itemP n) m (acc ++ [t]) l := by
        rw [manyP]
        simp only [hdT_cons, heb, Bool.false_eq_true, if_false]
      have hno4 : itemP n (t1 :: r1) ≠ .out := fun e => HNO3.out (by rw [← HM.out, hpm, e]; rfl)
      have HPM := Lib.hid hpm
      have HNOC := Lib.hid hno4
      clear hpm hno4 he
      go_wp2_with fail
      refine (HA.out).mono ?_
      rintro e w5 ⟨rfl, hb5⟩
      have S5 := Lib.hid (HS.out.below hb5).drew
      have N5 := Lib.hid (HN.out.below hb5).drew
      clear hb5 HS HN HA
      unfold tokW tokV
      go_wp2_with fail
      have hcl := N5.out.nd.c5
      refine wp_region_T (S := fun w' => w'.cell? ⟨w2.heap.size, 5, none⟩ = some (.slice q vn vc)) (tail := fun i => decide (5 ≤ i)) (by kernel_rfl) ?_
      change wpAnyT _ _ _ _ _ _ _ _ _ (World.drew _)
      refine wpAnyT_take (i := 0) (d := 11) (v := .pointer (some ⟨w2.heap.size, 5, none⟩)) rfl rfl (by kernel_rfl) (fun _ _ _ h => h) (by rfl) ?y0 hcl ?_
      case y0 => intro w' hw'; go_simp
      try simp only [Act.put, List.setIfInBounds_toArray, List.set_cons_zero, List.set_cons_succ]
      refine wpAnyT_take (i := 1) (d := 12) (v := .slice q vn vc) rfl rfl (by kernel_rfl) (fun _ _ _ h => h) (by rfl) ?y1 hcl ?_
      case y1 => intro w' hw'; go_simp
      try simp only [Act.put, List.setIfInBounds_toArray, List.set_cons_zero, List.set_cons_succ]
      refine wpAnyT_take (i := 2) (d := 13) (v := .pointer (some ⟨B, 0, none⟩)) rfl rfl (by kernel_rfl) (fun _ _ _ h => h) (by rfl) ?y2 hcl ?_
      case y2 => intro w' hw'; go_simp
      try simp only [Act.put, List.setIfInBounds_toArray, List.set_cons_zero, List.set_cons_succ]
      refine wpAnyT_one (i := 3) rfl (by kernel_rfl) (by rfl) (fun K hK => ?_)
      go_simp
      have HC := HIT.out B (t1 :: r1) _ S5.out.ps HNOC.out
      refine HC.mono ?_
      intro e w6 hq
      rcases hq.cases HNOC.out with ⟨t6, l6, q6, n6, c6, he6, rfl, hb6, hP6, hg6⟩ | ⟨ln, c, code, he6, rfl, hg6⟩
      · have S6 := Lib.hid (S5.out.call hP6 hg6)
        have N6 := Lib.hid (N5.out.call hg6 (by omega))
        have HB6 := Lib.hid hb6
        have hbl := N5.out.bd.lt
        have c6' := N6.out.nd.c5
        have f6' := N6.out.nd.f 5 (by omega)
        have hs6 := N6.out.lt
        have hsz5 := N5.out.lt
        have hsz6 := hg6.size
        clear hP6 hg6 hb6 HC hq S5 N5
        unfold nodeV
        refine hK.out _ _ (fun _ => c6') ?_
        clear hK K
        try simp only [Act.put, List.setIfInBounds_toArray, List.set_cons_zero, List.set_cons_succ]
        refine wpAnyT_one (i := 4) rfl (by kernel_rfl) (by rfl) (fun K hK => ?_)
        go_simp
        refine hK.out _ _ (fun _ => by go_simp) ?_
        clear hK K
        try simp only [Act.put, List.setIfInBounds_toArray, List.set_cons_zero, List.set_cons_succ]
        refine wpAnyT_one (i := 5) rfl (by kernel_rfl) (by rfl) (fun K hK => ?_)
        refine append_at (dd := 16) (t := t6) (u := .slice q6 n6 c6) _ _ rfl rfl N6.out.bd HB6.out (by omega) (fun g hg => (hbl g hg).2) hsz6 rfl rfl rfl (by omega) (fun v7 w7 hb7 hg7 => ?_)
        refine hK.out _ _ (fun h => absurd h (by decide)) ?_
        clear hK K
        obtain ⟨q7, n7, c7, rfl⟩ := hb7.shape
        have hff := app_fin S6.out N6.out hwN hb7 hg7
        have hs7 : w7.frozen? ⟨w2.heap.size, 5, none⟩ = false := ((N6.out.nd.grown (World.grownBy_alloc w6 _ none) (by simp)).grown hg7 (fun e => by have := (hbl _ e.symm).1; omega)).f 5 (by omega)
        have hd7 := ((N6.out.nd.grown (World.grownBy_alloc w6 _ none) (by simp)).grown hg7 (fun e => by have := (hbl _ e.symm).1; omega)).c5
        have HFF := Lib.hid hff
        clear hff hb7 hg7 S6 N6 HB6 hbl hcl c6' f6' hsz5 hsz6
        try simp only [Act.put, List.setIfInBounds_toArray, List.set_cons_zero, List.set_cons_succ]
        refine wpAnyT_one (i := 6) rfl (by kernel_rfl) (by rfl) (fun K hK => ?_)
        go_simp
        refine hK.out _ _ (fun h => absurd h (by decide)) ?_
        clear hK K
        try simp only [Act.put, List.setIfInBounds_toArray, List.set_cons_zero, List.set_cons_succ]
        refine wpAnyT_one (i := 7) rfl (by kernel_rfl) (by rfl) (fun K hK => ?_)
        go_simp
        refine hK.out _ _ (fun h => absurd h (by decide)) ?_
        clear hK K
        try simp only [Act.put, List.setIfInBounds_toArray, List.set_cons_zero, List.set_cons_succ]
        refine wpAnyT_done (by kernel_rfl) ?_ _
        clear hs7 hd7
        go_wp2
        go_roundg m
        case measure => omega
        case rel => exact ⟨acc ++ [t6], l6, _, HFF.out.1, HFF.out.2, by rw [← HM.out, HPM.out, he6]; rfl, by simp; omega⟩
      · refine ⟨rfl, ?_⟩
        have hbad : programP n (t :: r) = .bad ln c code := bind_bad (HM.out.symm.trans (HPM.out.trans (bind_bad he6)))
        rw [hbad]
        exact S5.out.pan ⟨rfl, hg6⟩
end Go.Proofs.YtnalgnklgmoepaaGreatDoor
