/- The contract of target. The contract of commas. The contracts of atCall, call and local. -/
import Derived.Test.YtnalgnklgmoepaaGreatDoorMbae
set_option linter.all false
namespace Go.Proofs.YtnalgnklgmoepaaGreatDoor
open Go Go.RowKit

theorem Nd.setK {N : Nat} {k x : List UInt8} {n ln c : Int} {v : Value} {ts : List Tree} {w : World} (h : Nd N k x n ln c v ts w) (k' : List UInt8) : Nd N k' x n ln c v ts (w.setCell ⟨N, 0, none⟩ (.string ⟨k'.toArray⟩)) := by
  have h0 := h.nd.c0; have h1 := h.nd.c1; have h2 := h.nd.c2; have h3 := h.nd.c3; have h4 := h.nd.c4; have h5 := h.nd.c5; have hf := h.nd.f
  refine ⟨?_, h.bd.grown (grown_setB _ _ _ _) (fun j e => by cases e; exact .inl (Nat.lt_succ_self _))⟩
  constructor
  case f => intro k hk; have := hf k hk; simp [go_sem, *]
  all_goals simp [go_sem, *]
/-- A row of one node. -/
theorem Build.lit1 {w : World} {lo lo1 : Nat} {t : Tree} {u : Value} (h : Build w lo1 t.kids u) (hl : lo ≤ lo1) (hw : lo1 ≤ w.heap.size) : Build (w.alloc (.cells (nodeC t u).toArray 26)) lo [t] (.slice (some ⟨w.heap.size, 0, none⟩) 1 1) := by
  refine ⟨[u], ?_, ?_, trivial⟩
  · simpa [rowC] using World.ownsRow_lit (base := lo) (e := 26) (size := 6) w (nodeC t u).toArray 1 (by omega) (by decide) (by simp [nodeC])
  · exact Lies.move (fun g hg hok => ⟨⟨Nat.le_trans hl hok, by simp [Value.ownBlock]; omega⟩, heap_alloc_old w _ hg⟩) t u h.lies
/-- A row of two nodes. -/
theorem Build.lit2 {w : World} {lo lo1 lo2 : Nat} {t s : Tree} {u v : Value} (h : Build w lo1 t.kids u) (h' : Build w lo2 s.kids v) (hl : lo ≤ lo1) (hl' : lo ≤ lo2) (hw : lo1 ≤ w.heap.size) :
    Build (w.alloc (.cells (nodeC t u ++ nodeC s v).toArray 26)) lo [t, s] (.slice (some ⟨w.heap.size, 0, none⟩) 2 2) := by
  refine ⟨[u, v], ?_, ?_, ?_, trivial⟩
  · simpa [rowC] using World.ownsRow_lit (base := lo) (e := 26) (size := 6) w (nodeC t u ++ nodeC s v).toArray 2 (by omega) (by decide) (by simp [nodeC])
  · exact Lies.move (fun g hg hok => ⟨⟨Nat.le_trans hl hok, by simp [Value.ownBlock]; omega⟩, heap_alloc_old w _ hg⟩) t u h.lies
  · exact Lies.move (fun g hg hok => ⟨⟨Nat.le_trans hl' hok, by simp [Value.ownBlock]; omega⟩, heap_alloc_old w _ hg⟩) s v h'.lies
theorem LNode.alloc {b : Nat} {k x : List UInt8} {n ln c : Int} {v : Value} {w : World} (h : LNode b k x n ln c v w) (o : Obj) : LNode b k x n ln c v (w.alloc o) := h.below ((Below.refl _ _).alloc (Nat.le_refl _) o)
/-- Behind 'n.Kids = []api.Node{..}', of one node. -/
theorem kid_fin {w0 w1 : World} {B N lo1 : Nat} {l : List Tok} {d : Int} {k x : List UInt8} {n ln c : Int} {v u : Value} {t : Tree} (S : St w0 B l d w1) (Nn : LNode N k x n ln c v w1) (hw : w0.heap.size < N) (hb : Build w1 lo1 t.kids u) (hl : N + 1 ≤ lo1) (hs : lo1 ≤ w1.heap.size) :
    St w0 B l d ((w1.setCell ⟨N, 5, none⟩ (.slice (some ⟨w1.heap.size, 0, none⟩) 1 1)).alloc (.cells (nodeC t u).toArray 26)) ∧
      Nd N k x n ln c (.slice (some ⟨w1.heap.size, 0, none⟩) 1 1) [t] ((w1.setCell ⟨N, 5, none⟩ (.slice (some ⟨w1.heap.size, 0, none⟩) 1 1)).alloc (.cells (nodeC t u).toArray 26)) := by
  refine ⟨(S.setN hw _ _).alloc _, (Nn.set5 _).alloc _, ?_⟩
  have h := (hb.grown (grown_setB w1 N 5 (.slice (some ⟨w1.heap.size, 0, none⟩) 1 1)) (fun j e => by cases e; exact .inl (by omega))).lit1 hl (by simpa using hs)
  simpa using h

set_option maxHeartbeats 2000000 in
set_option maxRecDepth 100000 in
theorem target_does (rec : NT → Int → List Tok → PR Tree) (d : Int) (he : Enters 135) (hex : Does 135 (fun p => #[p]) (d + 1) (exprP rec (d + 1))) : Does 138 (fun p => #[p]) d (targetP rec d) := by
  intro B l w h hno
  obtain ⟨t, r, rfl⟩ := h.ends.ne
  have S0 := St.start h
  have hBw := S0.hB
  have HNO := Lib.hid hno
  have S0 := Lib.hid S0
  have hmf := makeFunc_run
  have hft := field_text
  have hfk := field_kind
  have HEX := Lib.hid (deeper_does 135 d (rec (.binary 0)) he hex)
  clear he hex
  clear h hno
  unfold zero6 at *
  go_enter Tryz.func138, Tryz.ntmps138
  cases hf0 : (nameB t)
  case false =>
    have H := Lib.hid (atName_any B t r d _ S0.out.ps)
    rw [hf0] at H
    go_wp2_with fail
    refine (H.out).mono ?_
    rintro e w1 ⟨rfl, hb1⟩
    have S1 := Lib.hid (S0.out.below hb1)
    clear S0
    clear H hb1
    have H := Lib.hid (take_no B t r d _ S1.out.ps)
    go_wp2_with fail
    refine (H.out).mono ?_
    rintro e w2 ⟨rfl, hg2⟩
    refine ⟨rfl, ?_⟩
    have hbad : (targetP rec d) (t :: r) = .bad t.line t.col 30 := by simp only [Bool.false_eq_true, if_false, if_true, reduceIte, Bool.not_false, Bool.not_true, Bool.false_or, Bool.true_or, Bool.or_false, Bool.or_true, Bool.and_true, Bool.and_false, Bool.false_and, Bool.true_and, List.nil_append, List.cons_append, List.append_nil, targetP, takeP, hf0, PR.bind, hdT_cons, takeP]
    rw [hbad]
    exact S1.out.pan ⟨rfl, hg2⟩
  case true =>
    have H := Lib.hid (atName_any B t r d _ S0.out.ps)
    rw [hf0] at H
    go_wp2_with fail
    refine (H.out).mono ?_
    rintro e w1 ⟨rfl, hb1⟩
    have S1 := Lib.hid (S0.out.below hb1)
    clear S0
    clear H hb1
    have hte : t.text ≠ [] := kind_text S1.out.ps.ends (by simp [nameB] at hf0; omega)
    have H := Lib.hid (take_yes B t r d _ S1.out.ps hte)
    go_wp2_with fail
    refine (H.out).mono ?_
    rintro e w2 ⟨rfl, hP2, hg2⟩
    have S2 := Lib.hid (S1.out.call hP2 hg2)
    clear S1
    clear H hP2 hg2
    unfold tokW tokV at *
    have hwT : w.heap.size < w2.heap.size := S2.out.lt
    have L3 := Lib.hid (LTok.newO t w2)
    have S3 := Lib.hid (S2.out.alloc (tokO t))
    clear S2
    unfold tokO at *
    have l1 := L3.out.c1
    have l0 := L3.out.c0
    have l2' := L3.out.c2
    have l3' := L3.out.c3
    have l4' := L3.out.c4
    have H := Lib.hid (node_any t ⟨#[110, 97, 109, 101]⟩ ⟨t.text.toArray⟩)
    unfold tokW tokV at *
    go_wp2_with fail
    refine (H.out _).mono ?_
    rintro e w4 ⟨rfl, hb4⟩
    have S4 := Lib.hid (S3.out.below hb4)
    have L4 := Lib.hid (L3.out.below hb4)
    clear S3 L3
    clear H hb4
    have hwN : w.heap.size < w4.heap.size := S4.out.lt
    have N5 := Lib.hid (Nd.new kName t.text 0 t.line t.col w4)
    have S5 := Lib.hid (S4.out.alloc (nodO kName t.text 0 t.line t.col (.slice none 0 0)))
    have L5 := Lib.hid (L4.out.below ((Below.refl _ _).alloc (Nat.le_refl _) (nodO kName t.text 0 t.line t.col (.slice none 0 0))))
    clear S4 L4
    unfold nodO at *
    clear l0 l1 l2' l3' l4'
    obtain ⟨t1, r1, hlt1⟩ := S5.out.ps.ends.ne
    subst hlt1
    cases hf1 : (t1.text == [91])
    case false =>
      have H := Lib.hid (at_any B t1 r1 d [91] _ S5.out.ps)
      rw [hf1] at H
      go_wp2_with fail
      refine (H.out).mono ?_
      rintro e w6 ⟨rfl, hb6⟩
      have S6 := Lib.hid (S5.out.below hb6)
      have N6 := Lib.hid (N5.out.below hb6)
      have L6 := Lib.hid (L5.out.below hb6)
      clear S5 N5 L5
      clear H hb6
      have S9 := S6.out
      have N9 := N6.out
      have hs1 := S9.lt
      have hs2 := N9.lt
      try simp only [World.size_setCell, World.size_alloc] at hs1 hs2
      have hr := S9.res
      have r0 := hr.c0; have r1' := hr.c1; have r2 := hr.c2; have r3 := hr.c3; have r4 := hr.c4; have r5 := hr.c5
      have g0 := hr.f 0 (by omega); have g1 := hr.f 1 (by omega); have g2 := hr.f 2 (by omega); have g3 := hr.f 3 (by omega); have g4 := hr.f 4 (by omega); have g5 := hr.f 5 (by omega)
      clear hr
      have hq := N9.nd
      have q0 := hq.c0; have q1 := hq.c1; have q2 := hq.c2; have q3 := hq.c3; have q4 := hq.c4; have q5 := hq.c5
      clear hq
      have HS9 := Lib.hid S9
      have HN9 := Lib.hid N9
      clear S9 N9 S6 N6
      unfold kName at q0
      go_wp2
      refine bodyPost_ret (v := nodeV (.mk kName t.text 0 t.line t.col []) (.slice none 0 0)) (by simp [results, Tryz.results138, go_sem, nodeV, Tree.kind, Tree.text, Tree.num, Tree.line, Tree.col, Tree.kids, kProgram, kGlobal, kFunc, kParam, kType, kNum, kBlock, kLocal, kIf, kElse, kWhile, kReturn, kAssert, kAssume, kAssign, kNondet, kResult, kCall, kName, kIndex, kBinary, kUnary, kCast, kTrue, kFalse, kVoid, *]) rfl ?_
      have hgood : (targetP rec d) (t :: t1 :: r1) = .ok (.mk kName t.text 0 t.line t.col []) (t1 :: r1) := by simp only [Bool.false_eq_true, if_false, if_true, reduceIte, Bool.not_false, Bool.not_true, Bool.false_or, Bool.true_or, Bool.or_false, Bool.or_true, Bool.and_true, Bool.and_false, Bool.false_and, Bool.true_and, List.nil_append, List.cons_append, List.append_nil, targetP, takeP, hf0, hf1, PR.bind, hdT_cons]
      rw [hgood]
      exact HS9.out.fin (HN9.out.bd.mono (by omega)) _ _ _ _ _ _
    case true =>
      have H := Lib.hid (at_any B t1 r1 d [91] _ S5.out.ps)
      rw [hf1] at H
      go_wp2_with fail
      refine (H.out).mono ?_
      rintro e w6 ⟨rfl, hb6⟩
      have S6 := Lib.hid (S5.out.below hb6)
      have N6 := Lib.hid (N5.out.below hb6)
      have L6 := Lib.hid (L5.out.below hb6)
      clear S5 N5 L5
      clear H hb6
      have H := Lib.hid (pass_lit (S := w6.heap.size) [[91]] S6.out.ps (by simp) (by simp) (by simp))
      simp only [List.map, List.length] at H
      go_wp2_with fail
      refine (H.out).mono ?_
      rintro e w7 (⟨l7, he7, rfl, hP7, hg7⟩ | ⟨ln, c, code, he7, rfl, hg7⟩)
      rotate_left
      · refine ⟨rfl, ?_⟩
        have hbad : (targetP rec d) (t :: t1 :: r1) = .bad ln c code := by simp only [Bool.false_eq_true, if_false, if_true, reduceIte, Bool.not_false, Bool.not_true, Bool.false_or, Bool.true_or, Bool.or_false, Bool.or_true, Bool.and_true, Bool.and_false, Bool.false_and, Bool.true_and, List.nil_append, List.cons_append, List.append_nil, targetP, takeP, hf0, hf1, PR.bind, hdT_cons, he7]
        rw [hbad]
        exact S6.out.pan ⟨rfl, hg7⟩
      have S7 := Lib.hid (S6.out.call hP7 hg7)
      have N7 := Lib.hid (N6.out.call hg7 (by omega))
      have L7 := Lib.hid (L6.out.grown hg7 (by simp; omega))
      clear S6 N6 L6
      have HE7 := Lib.hid he7
      clear H he7 hP7 hg7
      have hk0 := N7.out.nd.c0
      have hkf := N7.out.nd.f 0 (by omega)
      have S8 := Lib.hid (S7.out.setN hwN 0 (.string ⟨kIndex.toArray⟩))
      have N8 := Lib.hid (N7.out.setK kIndex)
      clear S7 N7
      clear L7
      have hnoc : deeperP d (rec (.binary 0)) l7 ≠ .out := fun e => HNO.out (by simp only [Bool.false_eq_true, if_false, if_true, reduceIte, Bool.not_false, Bool.not_true, Bool.false_or, Bool.true_or, Bool.or_false, Bool.or_true, Bool.and_true, Bool.and_false, Bool.false_and, Bool.true_and, List.nil_append, List.cons_append, List.append_nil, targetP, takeP, hf0, hf1, PR.bind, hdT_cons, HE7.out, e])
      have HC := Lib.hid (HEX.out B l7 _ S8.out.ps hnoc)
      have HNOC := Lib.hid hnoc
      clear hnoc
      go_wp2_with fail
      refine (HC.out).mono ?_
      intro e w9 hq
      rcases hq.cases HNOC.out with ⟨t9, l9, q9, n9, c9, he9, rfl, hb9, hP9, hg9⟩ | ⟨ln, c, code, he9, rfl, hg9⟩
      rotate_left
      · refine ⟨rfl, ?_⟩
        have hbad : (targetP rec d) (t :: t1 :: r1) = .bad ln c code := by simp only [Bool.false_eq_true, if_false, if_true, reduceIte, Bool.not_false, Bool.not_true, Bool.false_or, Bool.true_or, Bool.or_false, Bool.or_true, Bool.and_true, Bool.and_false, Bool.false_and, Bool.true_and, List.nil_append, List.cons_append, List.append_nil, targetP, takeP, hf0, hf1, PR.bind, hdT_cons, HE7.out, he9]
        rw [hbad]
        exact S8.out.pan ⟨rfl, hg9⟩
      have hff := kid_fin (S8.out.call hP9 hg9) (N8.out.call hg9 (by omega)).nd hwN hb9 (Nat.succ_le_of_lt N8.out.lt) hg9.size
      have hNn := (N8.out.call hg9 (by omega)).nd
      have hf5 := hNn.f 5 (by omega)
      have hd5 := hNn.c5
      have hsN := hNn.lt
      have HFF := Lib.hid hff
      have HE9 := Lib.hid he9
      clear hff hNn hq hb9 hP9 hg9 he9 HC HNOC S8 N8
      unfold nodeV
      have S9 := Lib.hid HFF.out.1
      have N9 := Lib.hid HFF.out.2
      clear HFF
      have H := Lib.hid (pass_lit (S := w9.heap.size + 1) [[93]] S9.out.ps (by simp) (by simp) (by simp))
      simp only [List.map, List.length] at H
      go_wp2_with fail
      refine (H.out).mono ?_
      rintro e w10 (⟨l10, he10, rfl, hP10, hg10⟩ | ⟨ln, c, code, he10, rfl, hg10⟩)
      rotate_left
      · refine ⟨rfl, ?_⟩
        have hbad : (targetP rec d) (t :: t1 :: r1) = .bad ln c code := by simp only [Bool.false_eq_true, if_false, if_true, reduceIte, Bool.not_false, Bool.not_true, Bool.false_or, Bool.true_or, Bool.or_false, Bool.or_true, Bool.and_true, Bool.and_false, Bool.false_and, Bool.true_and, List.nil_append, List.cons_append, List.append_nil, targetP, takeP, hf0, hf1, PR.bind, hdT_cons, HE7.out, HE9.out, he10]
        rw [hbad]
        exact S9.out.pan ⟨rfl, hg10⟩
      have S10 := Lib.hid (S9.out.call hP10 hg10)
      have N10 := Lib.hid (N9.out.call hg10 (by omega))
      clear S9 N9
      have HE10 := Lib.hid he10
      clear H he10 hP10 hg10
      have S9 := S10.out
      have N9 := N10.out
      have hs1 := S9.lt
      have hs2 := N9.lt
      try simp only [World.size_setCell, World.size_alloc] at hs1 hs2
      have hr := S9.res
      have r0 := hr.c0; have r1' := hr.c1; have r2 := hr.c2; have r3 := hr.c3; have r4 := hr.c4; have r5 := hr.c5
      have g0 := hr.f 0 (by omega); have g1 := hr.f 1 (by omega); have g2 := hr.f 2 (by omega); have g3 := hr.f 3 (by omega); have g4 := hr.f 4 (by omega); have g5 := hr.f 5 (by omega)
      clear hr
      have hq := N9.nd
      have q0 := hq.c0; have q1 := hq.c1; have q2 := hq.c2; have q3 := hq.c3; have q4 := hq.c4; have q5 := hq.c5
      clear hq
      have HS9 := Lib.hid S9
      have HN9 := Lib.hid N9
      clear S9 N9 S10 N10
      unfold kIndex at q0
      go_wp2
      refine bodyPost_ret (v := nodeV (.mk kIndex t.text 0 t.line t.col [t9]) (.slice (some ⟨w9.heap.size, 0, none⟩) 1 1)) (by simp [results, Tryz.results138, go_sem, nodeV, Tree.kind, Tree.text, Tree.num, Tree.line, Tree.col, Tree.kids, kProgram, kGlobal, kFunc, kParam, kType, kNum, kBlock, kLocal, kIf, kElse, kWhile, kReturn, kAssert, kAssume, kAssign, kNondet, kResult, kCall, kName, kIndex, kBinary, kUnary, kCast, kTrue, kFalse, kVoid, *]) rfl ?_
      have hgood : (targetP rec d) (t :: t1 :: r1) = .ok (.mk kIndex t.text 0 t.line t.col [t9]) l10 := by simp only [Bool.false_eq_true, if_false, if_true, reduceIte, Bool.not_false, Bool.not_true, Bool.false_or, Bool.true_or, Bool.or_false, Bool.or_true, Bool.and_true, Bool.and_false, Bool.false_and, Bool.true_and, List.nil_append, List.cons_append, List.append_nil, targetP, takeP, hf0, hf1, PR.bind, hdT_cons, HE7.out, HE9.out, HE10.out]
      rw [hgood]
      exact HS9.out.fin (HN9.out.bd.mono (by omega)) _ _ _ _ _ _
end Go.Proofs.YtnalgnklgmoepaaGreatDoor
namespace Go.Proofs.YtnalgnklgmoepaaGreatDoor
open Go Go.RowKit

def CPost (B : Nat) (d : Int) (w : World) (p : PR (List Tree)) (e : Ending) (w' : World) : Prop :=
  match p with
  | .ok ts l => ∃ v, e = .returned v ∧ Build w' w.heap.size ts v ∧ PsAt B l d w' ∧ w.grownBy w' (some B) ∧ ts.length ≤ 900001 ∧ (ts = [] → v = .slice none 0 0)
  | .bad ln c code => Pan B ln c code w e w'
  | .out => True
theorem CPost.cases {B : Nat} {d : Int} {w : World} {p : PR (List Tree)} {e : Ending} {w' : World} (h : CPost B d w p e w') (ho : p ≠ .out) :
    (∃ ts l q n c, p = .ok ts l ∧ e = .returned (.slice q n c) ∧ Build w' w.heap.size ts (.slice q n c) ∧ PsAt B l d w' ∧ w.grownBy w' (some B) ∧ ts.length ≤ 900001 ∧ (ts = [] → Value.slice q n c = .slice none 0 0)) ∨
    ∃ ln c code, p = .bad ln c code ∧ e = .panicked [{ v := faultV ln c code, recovered := false }] ∧ w.grownBy w' (some B) := by
  cases p with
  | ok ts l =>
    obtain ⟨v, rfl, hb, hP, hg, hn, hz⟩ := h
    obtain ⟨q, n, c, rfl⟩ := hb.shape
    exact .inl ⟨ts, l, q, n, c, rfl, rfl, hb, hP, hg, hn, hz⟩
  | bad ln c code => exact .inr ⟨ln, c, code, rfl, h.1, h.2⟩
  | out => exact absurd rfl ho
/-- The node more, in a plain region. -/
theorem wpList_append_node {ops : Array Oper} {rest : List Oper} {o : Oper} {a : Act} {Q : Exit → Act → World → Prop} {w : World} {lo lo1 S dd : Nat} {acc : List Tree} {t : Tree} {v u : Value} (hgd : o.guard = none) (s x : Operand)
    (ho : o.op = .call { callee := .builtin .append, args := #[s, x], argTypes := #[24, 24] }) (hd : o.dst = some dd) (hB : Build w lo acc v) (hK : Build w lo1 t.kids u) (hlo : lo ≤ lo1) (hv : ∀ g, v.ownBlock = some g → g < lo1) (hl1 : lo1 ≤ w.heap.size)
    (hs : a.eval s = v) (hS : w.heap.size = S) (hx : a.eval x = .slice (some ⟨S, 0, none⟩) 1 1) (hn : acc.length < 1000000)
    (h : ∀ v' w', Build w' lo (acc ++ [t]) v' → (w.alloc (.cells (nodeC t u).toArray 26)).grownBy w' v.ownBlock → wpList Tryz.prog ops Q rest (a.put (some dd) v') w') :
    wpList Tryz.prog ops Q (o :: rest) a (w.alloc (.cells (nodeC t u).toArray 26)) :=
  wpList_plain hgd fun _ hK' => append_at s x ho hd hB hK hlo hv hl1 hs hS hx hn fun v' w' h1 h2 => hK' _ _ (h v' w' h1 h2)
/-- Behind an append to a row of one's own. -/
theorem app_own {w0 w6 w7 : World} {B : Nat} {l : List Tok} {d : Int} {v : Value} {acc : List Tree} {o : Obj} (hP : PsAt B l d w6) (hg : w0.grownBy w6 (some B)) (hB : B < w0.heap.size) (hb : Build w6 w0.heap.size acc v) (hg7 : (w6.alloc o).grownBy w7 v.ownBlock) :
    PsAt B l d w7 ∧ w0.grownBy w7 (some B) := by
  have hlt := hb.lt
  have h1 := hg.size
  refine ⟨(hP.below ((Below.refl _ _).alloc (Nat.le_refl _) o)).grown hg7 (fun j e => by have := (hlt j e).1; omega), ?_⟩
  have hga := grown_alloc hg o
  exact ⟨hg7.os.trans hga.os, hg7.tape.trans hga.tape, hg7.output.trans hga.output, Nat.le_trans hga.size hg7.size, fun j hj hne => (hg7.block j (by simp; omega) (fun e => by have := (hlt j e.symm).1; omega)).trans (hga.block j hj hne)⟩
def CommaRel (p : List Tok → PR Tree) (n : Nat) (R : PR (List Tree)) (w : World) (B : Nat) (d : Int) (k : Nat) (v : Value) (wr : World) : Prop :=
  ∃ acc l, PsAt B l d wr ∧ w.grownBy wr (some B) ∧ Build wr w.heap.size acc v ∧ acc ≠ [] ∧ manyP (fun u => !(u.text == [44])) (fun l => (passP [[44]] l).bind fun _ l => p l) k acc l = R ∧ acc.length + k ≤ n + 1

set_option maxHeartbeats 4000000 in
set_option maxRecDepth 100000 in
theorem commas_does (f : Nat) (n : Nat) (d : Int) (p : List Tok → PR Tree) (hn : n ≤ 900000) (he : Enters f) (hp : Does f (fun p => #[p]) d p) :
    ∀ (B : Nat) (l : List Tok) (w : World), PsAt B l d w → commasP n p l ≠ .out → Calls Tryz.prog 93 #[.pointer (some ⟨B, 0, none⟩), .func (.func f) #[.pointer (some ⟨B, 0, none⟩)] #[]] w (CPost B d w (commasP n p l)) := by
  intro B l w h hno
  have H := Lib.hid (pass_lit (S := w.heap.size) [[40]] h (by simp) (by simp) rfl)
  simp only [List.map, List.length] at H
  have HP := Lib.hid hp
  have HNO := Lib.hid hno
  have hBw := h.lt
  unfold Enters at he
  clear h hno hp
  go_enter Tryz.func93, Tryz.ntmps93
  go_wp2_with fail
  refine (H.out).mono ?_
  rintro e w1 (⟨l1, he1, rfl, hP1, hg1⟩ | ⟨ln, c, code, he1, rfl, hg1⟩)
  rotate_left
  · refine ⟨rfl, ?_⟩
    have hbad : commasP n p l = .bad ln c code := by simp only [commasP, PR.bind, he1]
    rw [hbad]
    exact ⟨rfl, hg1⟩
  have HE1 := Lib.hid he1
  obtain ⟨t1, r1, rfl⟩ := hP1.ends.ne
  have HA := Lib.hid (at_any B t1 r1 d [41] w1 hP1)
  have HP1 := Lib.hid hP1
  clear he1 H hP1
  cases hf : (t1.text == [41])
  case true =>
    rw [hf] at HA
    go_wp2_with fail
    refine (HA.out).mono ?_
    rintro e w2 ⟨rfl, hb2⟩
    have H := Lib.hid (pass_lit (S := w2.heap.size) [[41]] (HP1.out.below hb2) (by simp) (by simp) rfl)
    simp only [List.map, List.length] at H
    have hg2 := grown_trans hg1 (below_grown hb2 (some B))
    clear HA hb2 HP1 hg1
    go_wp2_with fail
    refine (H.out).mono ?_
    rintro e w3 (⟨l3, he3, rfl, hP3, hg3⟩ | ⟨ln, c, code, he3, rfl, hg3⟩)
    rotate_left
    · refine ⟨rfl, ?_⟩
      have hbad : commasP n p l = .bad ln c code := by simp only [commasP, PR.bind, HE1.out, hdT_cons, hf, if_true, he3]
      rw [hbad]
      exact ⟨rfl, grown_trans hg2 hg3⟩
    have HE3 := Lib.hid he3
    have HP3 := Lib.hid hP3
    clear he3 hP3 H
    go_wp2
    go_ret
    have hgood : commasP n p l = .ok [] l3 := by simp only [commasP, PR.bind, HE1.out, hdT_cons, hf, if_true, HE3.out]
    rw [hgood]
    exact ⟨_, rfl, Build.nil _ _, HP3.out, grown_trans hg2 hg3, by simp, fun _ => rfl⟩
  case false =>
    rw [hf] at HA
    have hno1 : p (t1 :: r1) ≠ .out := fun e => HNO.out (by simp only [commasP, PR.bind, HE1.out, hdT_cons, hf, if_false, Bool.false_eq_true, e])
    have HNO1 := Lib.hid hno1
    clear hno1
    go_wp2_with fail
    refine (HA.out).mono ?_
    rintro e w2 ⟨rfl, hb2⟩
    have HC := Lib.hid (HP.out B (t1 :: r1) w2 (HP1.out.below hb2) HNO1.out)
    have hg2 := grown_trans hg1 (below_grown hb2 (some B))
    clear HA hb2 HP1 hg1
    go_wp2_with fail
    refine (HC.out).mono ?_
    intro e w3 hq
    rcases hq.cases HNO1.out with ⟨t3, l3, q3, n3, c3, he3, rfl, hb3, hP3, hg3⟩ | ⟨ln, c, code, he3, rfl, hg3⟩
    rotate_left
    · refine ⟨rfl, ?_⟩
      have hbad : commasP n p l = .bad ln c code := by simp only [commasP, PR.bind, HE1.out, hdT_cons, hf, if_false, Bool.false_eq_true, he3]
      rw [hbad]
      exact ⟨rfl, grown_trans hg2 hg3⟩
    have HE3 := Lib.hid he3
    have HB3 := Lib.hid hb3
    have HP3 := Lib.hid hP3
    have hg4 := grown_trans hg2 hg3
    have hs2 := hg2.size
    have hs3 := hg3.size
    clear he3 hb3 hP3 hq HC hg2 hg3
    unfold nodeV
    go_wp2_with (at_builtin; refine wpList_append_node (dd := 16) (t := t3) (u := .slice q3 n3 c3) (acc := []) (lo := w.heap.size) rfl _ _ rfl rfl (Build.nil _ _) HB3.out (by omega) (fun g hg => by cases hg) (by omega) rfl rfl rfl (by simp) ?_)
    intro v4 w4 hb4 hg5
    obtain ⟨hP4, hg6⟩ := app_own HP3.out hg4 hBw (Build.nil _ _) hg5
    have HP4 := Lib.hid hP4
    have HB4 := Lib.hid hb4
    have hcm : ∀ x, manyP (fun u => !(u.text == [44])) (fun l => (passP [[44]] l).bind fun _ l => p l) n [t3] l3 = x → commasP n p l = x.bind fun ts l => (passP [[41]] l).bind fun _ l => .ok ts l := fun x hx => by
      unfold commasP
      rw [bind_ok HE1.out]
      simp only [hdT_cons, hf, if_false, Bool.false_eq_true]
      rw [bind_ok HE3.out, hx]
    have hno4 : manyP (fun u => !(u.text == [44])) (fun l => (passP [[44]] l).bind fun _ l => p l) n [t3] l3 ≠ .out := fun e => HNO.out (hcm _ e)
    have HNO4 := Lib.hid hno4
    have HCM := Lib.hid hcm
    obtain ⟨q4, n4, c4, rfl⟩ := hb4.shape
    clear hP4 hb4 hno4 hcm HB3 HP3 hg4 hg5
    go_wp2_with fail
    go_loopg [5] n (fun k v wr => CommaRel p n (manyP (fun u => !(u.text == [44])) (fun l => (passP [[44]] l).bind fun _ l => p l) n [t3] l3) w B d k v wr)
    case atStart => exact ⟨[t3], l3, HP4.out, hg6, by simpa using HB4.out, by simp, rfl, by simp; omega⟩
    case round =>
      obtain ⟨acc, l5, hP, hg, hb, hne, hm, hlen⟩ := hrel
      obtain ⟨t5, r5, rfl⟩ := hP.ends.ne
      obtain ⟨q5, n5, c5, rfl⟩ := hb.shape
      have HA := Lib.hid (at_any B t5 r5 d [44] wr hP)
      have HPP := Lib.hid hP
      have HB := Lib.hid hb
      have HM := Lib.hid hm
      clear hP hb hm HP4 HB4 hg6
      cases gk with
      | zero => exact absurd HM.out.symm HNO4.out
      | succ m =>
      cases hf5 : (t5.text == [44])
      case false =>
        rw [hf5] at HA
        have hpm : manyP (fun u => !(u.text == [44])) (fun l => (passP [[44]] l).bind fun _ l => p l) (m + 1) acc (t5 :: r5) = .ok acc (t5 :: r5) := by
          rw [manyP]
          simp only [hdT_cons, hf5, Bool.not_false, if_true]
        have HPM := Lib.hid hpm
        clear hpm
        go_wp2_with fail
        refine (HA.out).mono ?_
        rintro e w6 ⟨rfl, hb6⟩
        have H := Lib.hid (pass_lit (S := w6.heap.size) [[41]] (HPP.out.below hb6) (by simp) (by simp) rfl)
        simp only [List.map, List.length] at H
        have hgg := grown_trans hg (below_grown hb6 (some B))
        have HB6 := Lib.hid (HB.out.below hb6)
        clear HA hb6 HPP hg HB
        go_wp2_with fail
        refine (H.out).mono ?_
        rintro e w7 (⟨l7, he7, rfl, hP7, hg7⟩ | ⟨ln, c, code, he7, rfl, hg7⟩)
        rotate_left
        · refine ⟨rfl, ?_⟩
          rw [HCM.out _ (HM.out.symm.trans HPM.out)]
          simp only [PR.bind, he7]
          exact ⟨rfl, grown_trans hgg hg7⟩
        have HE7 := Lib.hid he7
        have HP7 := Lib.hid hP7
        clear he7 hP7 H
        go_wp2
        go_ret
        rw [HCM.out _ (HM.out.symm.trans HPM.out)]
        simp only [PR.bind, HE7.out]
        exact ⟨_, rfl, HB6.out.grown hg7 (fun j e => by cases e; exact .inl hBw), HP7.out, grown_trans hgg hg7, by omega, fun e => absurd e hne⟩
      case true =>
        rw [hf5] at HA
        have hpm : manyP (fun u => !(u.text == [44])) (fun l => (passP [[44]] l).bind fun _ l => p l) (m + 1) acc (t5 :: r5) = ((passP [[44]] (t5 :: r5)).bind fun _ l => p l).bind fun t l => manyP (fun u => !(u.text == [44])) (fun l => (passP [[44]] l).bind fun _ l => p l) m (acc ++ [t]) l := by
          rw [manyP]
          simp only [hdT_cons, hf5, Bool.not_true, Bool.false_eq_true, if_false]
        have HPM := Lib.hid (HM.out.symm.trans hpm)
        clear hpm
        go_wp2_with fail
        refine (HA.out).mono ?_
        rintro e w6 ⟨rfl, hb6⟩
        have H := Lib.hid (pass_lit (S := w6.heap.size) [[44]] (HPP.out.below hb6) (by simp) (by simp) rfl)
        simp only [List.map, List.length] at H
        have hgg := grown_trans hg (below_grown hb6 (some B))
        have HB6 := Lib.hid (HB.out.below hb6)
        clear HA hb6 HPP hg HB
        go_wp2_with fail
        refine (H.out).mono ?_
        rintro e w7 (⟨l7, he7, rfl, hP7, hg7⟩ | ⟨ln, c, code, he7, rfl, hg7⟩)
        rotate_left
        · refine ⟨rfl, ?_⟩
          rw [HCM.out _ HPM.out]
          simp only [PR.bind, he7]
          exact ⟨rfl, grown_trans hgg hg7⟩
        have HE7 := Lib.hid he7
        have hno7 : p l7 ≠ .out := fun e => HNO4.out (by rw [HPM.out]; simp only [PR.bind, HE7.out, e])
        have HC := Lib.hid (HP.out B l7 w7 hP7 hno7)
        have HNO7 := Lib.hid hno7
        have hg8 := grown_trans hgg hg7
        have HB7 := Lib.hid (HB6.out.grown hg7 (fun j e => by cases e; exact .inl hBw))
        clear he7 hP7 H hno7 hgg hg7 HB6
        go_wp2_with fail
        refine (HC.out).mono ?_
        intro e w8 hq
        rcases hq.cases HNO7.out with ⟨t8, l8, q8, n8, c8, he8, rfl, hb8, hP8, hg9⟩ | ⟨ln, c, code, he8, rfl, hg9⟩
        rotate_left
        · refine ⟨rfl, ?_⟩
          rw [HCM.out _ HPM.out]
          simp only [PR.bind, HE7.out, he8]
          exact ⟨rfl, grown_trans hg8 hg9⟩
        have HE8 := Lib.hid he8
        have HB8 := Lib.hid hb8
        have HP8 := Lib.hid hP8
        have HBA := Lib.hid (HB7.out.grown hg9 (fun j e => by cases e; exact .inl hBw))
        have hga := grown_trans hg8 hg9
        have hs8 := hg8.size
        have hs9 := hg9.size
        have hbl := HB7.out.lt
        clear he8 hb8 hP8 hq HC hg8 hg9 HB7
        unfold nodeV
        go_wp2_with (at_builtin; refine wpList_append_node (dd := 26) (t := t8) (u := .slice q8 n8 c8) (acc := acc) (lo := w.heap.size) rfl _ _ rfl rfl HBA.out HB8.out (by omega) (fun g hg => (hbl g hg).2) (by omega) rfl rfl rfl (by omega) ?_)
        intro v9 w9 hb9 hg10
        obtain ⟨hP9, hg11⟩ := app_own HP8.out hga hBw HBA.out hg10
        have HP9 := Lib.hid hP9
        have HB9 := Lib.hid hb9
        obtain ⟨q9, n9, c9, rfl⟩ := hb9.shape
        clear hP9 hb9 hg10 HBA HB8 HP8 hga hbl
        go_wp2
        go_roundg m
        case measure => omega
        case rel => exact ⟨acc ++ [t8], l8, HP9.out, hg11, HB9.out, by simp, by rw [HPM.out]; simp only [PR.bind, HE7.out, HE8.out], by simp; omega⟩
end Go.Proofs.YtnalgnklgmoepaaGreatDoor
namespace Go.Proofs.YtnalgnklgmoepaaGreatDoor
open Go Go.RowKit

theorem PsAt.row {B : Nat} {l : List Tok} {d : Int} {w : World} (h : PsAt B l d w) : ∃ T o c, w.cell? ⟨B, 0, none⟩ = some (.slice (some ⟨T, o * 5, none⟩) l.length c) ∧ (∀ k (h : k < l.length), TokAt T (o + k) l[k] w) ∧ T < B ∧ l.length ≤ c := by
  obtain ⟨lo, T, o, c, h⟩ := h
  exact ⟨T, o, c, h.c0, h.row, h.hT, h.hc⟩
set_option maxHeartbeats 2000000 in
set_option maxRecDepth 100000 in
theorem atCall_any (B : Nat) (l : List Tok) (d : Int) (w : World) (h : PsAt B l d w) :
    Calls Tryz.prog 136 #[.pointer (some ⟨B, 0, none⟩)] w fun e w' => e = .returned (.bool (atCallB l)) ∧ Below w.heap.size w w' := by
  obtain ⟨t, r, rfl⟩ := h.ends.ne
  have H := Lib.hid (atName_any B t r d w h)
  cases hn : nameB t
  case false =>
    have hb : atCallB (t :: r) = false := by cases r <;> simp [atCallB, hn]
    rw [hn] at H
    rw [hb]
    go_enter Tryz.func136, Tryz.ntmps136
    go_wp2_with fail
    refine (H.out).mono ?_
    rintro e w1 ⟨rfl, hb1⟩
    go_wp2
    go_ret
    exact ⟨rfl, hb1⟩
  case true =>
    have hte : t.text ≠ [] := kind_text h.ends (by simp [nameB] at hn; omega)
    obtain ⟨u, r', rfl⟩ := (h.ends.tail hte).ne
    have hb : atCallB (t :: u :: r') = (u.text == [40]) := by simp [atCallB, hn]
    rw [hn] at H
    rw [hb]
    have HP := Lib.hid h
    clear h
    go_enter Tryz.func136, Tryz.ntmps136
    go_wp2_with fail
    refine (H.out).mono ?_
    rintro e w1 ⟨rfl, hb1⟩
    obtain ⟨T, o, c, h0, hrow, hT, hc⟩ := (HP.out.below hb1).row
    have hlt := (HP.out.below hb1).lt
    have hTl : T < w1.heap.size := by omega
    have h1 := (hrow 1 (by simp)).ft
    simp only [List.length_cons, List.getElem_cons_succ, List.getElem_cons_zero] at h0 h1 hc
    have e5 : (o + 1) * 5 + 1 = o * 5 + 6 := by omega
    rw [e5] at h1
    clear hrow HP H
    go_wp2
    go_ret
    exact ⟨rfl, hb1⟩
/-- A variable that holds a node that was handed back. -/
structure Hd (N lo : Nat) (k x : List UInt8) (n ln c : Int) (v : Value) (ts : List Tree) (w : World) : Prop where
  nd : LNode N k x n ln c v w
  bd : Build w lo ts v
theorem Hd.lt {N lo : Nat} {k x : List UInt8} {n ln c : Int} {v : Value} {ts : List Tree} {w : World} (h : Hd N lo k x n ln c v ts w) : N < w.heap.size := h.nd.lt
theorem Hd.call {N lo B : Nat} {k x : List UInt8} {n ln c : Int} {v : Value} {ts : List Tree} {w w' : World} (h : Hd N lo k x n ln c v ts w) (hg : w.grownBy w' (some B)) (hB : B < N ∧ B < lo) : Hd N lo k x n ln c v ts w' :=
  ⟨h.nd.grown hg (by simp; omega), h.bd.grown hg (fun j e => by cases e; exact .inl hB.2)⟩
theorem Hd.below {N lo : Nat} {k x : List UInt8} {n ln c : Int} {v : Value} {ts : List Tree} {w w' : World} (h : Hd N lo k x n ln c v ts w) (hb : Below w.heap.size w w') : Hd N lo k x n ln c v ts w' := ⟨h.nd.below hb, h.bd.below hb⟩
theorem Hd.put (t : Tree) {lo : Nat} {v : Value} {w : World} (h : Build w lo t.kids v) : Hd w.heap.size lo t.kind t.text t.num t.line t.col v t.kids (w.alloc (nodO t.kind t.text t.num t.line t.col v)) := ⟨LNode.new _ _ _ _ _ _ w, h.alloc _⟩
theorem Nd.setV {N : Nat} {k x : List UInt8} {n ln c : Int} {v u : Value} {ts : List Tree} {w : World} (h : LNode N k x n ln c v w) (hb : Build w (N + 1) ts u) : Nd N k x n ln c u ts (w.setCell ⟨N, 5, none⟩ u) :=
  ⟨h.set5 u, hb.grown (grown_setB _ _ _ _) (fun j e => by cases e; exact .inl (Nat.lt_succ_self _))⟩

set_option maxHeartbeats 2000000 in
set_option maxRecDepth 100000 in
theorem call_does (rec : NT → Int → List Tok → PR Tree) (n : Nat) (d : Int) (hn : n ≤ 900000) (he : Enters 146) (hex : Does 146 (fun p => #[p]) d (argP rec d)) : Does 137 (fun p => #[p]) d (callP rec n d) := by
  intro B l w h hno
  obtain ⟨t, r, rfl⟩ := h.ends.ne
  have S0 := St.start h
  have hBw := S0.hB
  have HNO := Lib.hid hno
  have S0 := Lib.hid S0
  have hmf := makeFunc_run
  have hft := field_text
  have hfk := field_kind
  have HEX := Lib.hid (commas_does 146 n d (argP rec d) hn he hex)
  clear he hex hn
  clear h hno
  unfold zero6 at *
  go_enter Tryz.func137, Tryz.ntmps137
  cases hf0 : (nameB t)
  case false =>
    have H := Lib.hid (atName_any B t r d _ S0.out.ps)
    rw [hf0] at H
    go_wp2_with fail
    refine (H.out).mono ?_
    rintro e w1 ⟨rfl, hb1⟩
    have S1 := Lib.hid (S0.out.below hb1)
    clear S0
    clear H hb1
    have H := Lib.hid (take_no B t r d _ S1.out.ps)
    go_wp2_with fail
    refine (H.out).mono ?_
    rintro e w2 ⟨rfl, hg2⟩
    refine ⟨rfl, ?_⟩
    have hbad : (callP rec n d) (t :: r) = .bad t.line t.col 30 := by simp only [Bool.false_eq_true, if_false, if_true, reduceIte, Bool.not_false, Bool.not_true, Bool.false_or, Bool.true_or, Bool.or_false, Bool.or_true, Bool.and_true, Bool.and_false, Bool.false_and, Bool.true_and, List.nil_append, List.cons_append, List.append_nil, callP, takeP, hf0, PR.bind, hdT_cons, takeP]
    rw [hbad]
    exact S1.out.pan ⟨rfl, hg2⟩
  case true =>
    have H := Lib.hid (atName_any B t r d _ S0.out.ps)
    rw [hf0] at H
    go_wp2_with fail
    refine (H.out).mono ?_
    rintro e w1 ⟨rfl, hb1⟩
    have S1 := Lib.hid (S0.out.below hb1)
    clear S0
    clear H hb1
    have hte : t.text ≠ [] := kind_text S1.out.ps.ends (by simp [nameB] at hf0; omega)
    have H := Lib.hid (take_yes B t r d _ S1.out.ps hte)
    go_wp2_with fail
    refine (H.out).mono ?_
    rintro e w2 ⟨rfl, hP2, hg2⟩
    have S2 := Lib.hid (S1.out.call hP2 hg2)
    clear S1
    clear H hP2 hg2
    unfold tokW tokV at *
    have hwT : w.heap.size < w2.heap.size := S2.out.lt
    have L3 := Lib.hid (LTok.newO t w2)
    have S3 := Lib.hid (S2.out.alloc (tokO t))
    clear S2
    unfold tokO at *
    have l1 := L3.out.c1
    have l0 := L3.out.c0
    have l2' := L3.out.c2
    have l3' := L3.out.c3
    have l4' := L3.out.c4
    have H := Lib.hid (node_any t ⟨#[99, 97, 108, 108]⟩ ⟨t.text.toArray⟩)
    unfold tokW tokV at *
    go_wp2_with fail
    refine (H.out _).mono ?_
    rintro e w4 ⟨rfl, hb4⟩
    have S4 := Lib.hid (S3.out.below hb4)
    have L4 := Lib.hid (L3.out.below hb4)
    clear S3 L3
    clear H hb4
    have hwN : w.heap.size < w4.heap.size := S4.out.lt
    have N5 := Lib.hid (Nd.new kCall t.text 0 t.line t.col w4)
    have S5 := Lib.hid (S4.out.alloc (nodO kCall t.text 0 t.line t.col (.slice none 0 0)))
    have L5 := Lib.hid (L4.out.below ((Below.refl _ _).alloc (Nat.le_refl _) (nodO kCall t.text 0 t.line t.col (.slice none 0 0))))
    clear S4 L4
    unfold nodO at *
    clear l0 l1 l2' l3' l4'
    have hnoc : commasP n (argP rec d) r ≠ .out := fun e => HNO.out (by simp only [Bool.false_eq_true, if_false, if_true, reduceIte, Bool.not_false, Bool.not_true, Bool.false_or, Bool.true_or, Bool.or_false, Bool.or_true, Bool.and_true, Bool.and_false, Bool.false_and, Bool.true_and, List.nil_append, List.cons_append, List.append_nil, callP, takeP, hf0, PR.bind, hdT_cons, e])
    have HC := Lib.hid (HEX.out B r _ S5.out.ps hnoc)
    have HNOC := Lib.hid hnoc
    clear hnoc
    go_wp2_with fail
    refine (HC.out).mono ?_
    intro e w6 hq
    rcases hq.cases HNOC.out with ⟨ts6, l6, q6, n6, c6, he6, rfl, hb6, hP6, hg6, _, _⟩ | ⟨ln, c, code, he6, rfl, hg6⟩
    rotate_left
    · refine ⟨rfl, ?_⟩
      have hbad : (callP rec n d) (t :: r) = .bad ln c code := by simp only [Bool.false_eq_true, if_false, if_true, reduceIte, Bool.not_false, Bool.not_true, Bool.false_or, Bool.true_or, Bool.or_false, Bool.or_true, Bool.and_true, Bool.and_false, Bool.false_and, Bool.true_and, List.nil_append, List.cons_append, List.append_nil, callP, takeP, hf0, PR.bind, hdT_cons, he6]
      rw [hbad]
      exact S5.out.pan ⟨rfl, hg6⟩
    have hNn := (N5.out.call hg6 (by omega)).nd
    have hf5 := hNn.f 5 (by omega)
    have hd5 := hNn.c5
    have hsN := hNn.lt
    have S6 := Lib.hid ((S5.out.call hP6 hg6).setN hwN 5 (.slice q6 n6 c6))
    have N6 := Lib.hid (Nd.setV hNn (hb6.mono (Nat.succ_le_of_lt N5.out.lt)))
    have HE6 := Lib.hid he6
    clear hNn hq hb6 hP6 hg6 he6 HC HNOC S5 N5
    clear L5
    have S9 := S6.out
    have N9 := N6.out
    have hs1 := S9.lt
    have hs2 := N9.lt
    try simp only [World.size_setCell, World.size_alloc] at hs1 hs2
    have hr := S9.res
    have r0 := hr.c0; have r1' := hr.c1; have r2 := hr.c2; have r3 := hr.c3; have r4 := hr.c4; have r5 := hr.c5
    have g0 := hr.f 0 (by omega); have g1 := hr.f 1 (by omega); have g2 := hr.f 2 (by omega); have g3 := hr.f 3 (by omega); have g4 := hr.f 4 (by omega); have g5 := hr.f 5 (by omega)
    clear hr
    have hq := N9.nd
    have qn0 := hq.c0; have qn1 := hq.c1; have qn2 := hq.c2; have qn3 := hq.c3; have qn4 := hq.c4; have qn5 := hq.c5
    clear hq
    have HS9 := Lib.hid S9
    have HN9 := Lib.hid N9
    clear S9 N9 S6 N6
    unfold kCall at qn0
    go_wp2
    refine bodyPost_ret (v := nodeV (.mk kCall t.text 0 t.line t.col ts6) (.slice q6 n6 c6)) (by simp [results, Tryz.results137, go_sem, nodeV, Tree.kind, Tree.text, Tree.num, Tree.line, Tree.col, Tree.kids, kProgram, kGlobal, kFunc, kParam, kType, kNum, kBlock, kLocal, kIf, kElse, kWhile, kReturn, kAssert, kAssume, kAssign, kNondet, kResult, kCall, kName, kIndex, kBinary, kUnary, kCast, kTrue, kFalse, kVoid, *]) rfl ?_
    have hgood : (callP rec n d) (t :: r) = .ok (.mk kCall t.text 0 t.line t.col ts6) l6 := by simp only [Bool.false_eq_true, if_false, if_true, reduceIte, Bool.not_false, Bool.not_true, Bool.false_or, Bool.true_or, Bool.or_false, Bool.or_true, Bool.and_true, Bool.and_false, Bool.false_and, Bool.true_and, List.nil_append, List.cons_append, List.append_nil, callP, takeP, hf0, PR.bind, hdT_cons, HE6.out]
    rw [hgood]
    exact HS9.out.fin (HN9.out.bd.mono (by omega)) _ _ _ _ _ _
set_option maxHeartbeats 2000000 in
set_option maxRecDepth 100000 in
theorem local_does (d : Int) (hex : Does 92 (fun p => #[p, .string ⟨#[108, 111, 99, 97, 108]⟩, .bool false]) d (declaredP kLocal false)) : Does 123 (fun p => #[p]) d (localP) := by
  intro B l w h hno
  obtain ⟨t, r, rfl⟩ := h.ends.ne
  have S0 := St.start h
  have hBw := S0.hB
  have HNO := Lib.hid hno
  have S0 := Lib.hid S0
  have hmf := makeFunc_run
  have hft := field_text
  have hfk := field_kind
  have HEX := Lib.hid hex
  clear hex
  clear h hno
  unfold zero6 at *
  go_enter Tryz.func123, Tryz.ntmps123
  have hnoc : declaredP kLocal false (t :: r) ≠ .out := fun e => HNO.out (by simp only [Bool.false_eq_true, if_false, if_true, reduceIte, Bool.not_false, Bool.not_true, Bool.false_or, Bool.true_or, Bool.or_false, Bool.or_true, Bool.and_true, Bool.and_false, Bool.false_and, Bool.true_and, List.nil_append, List.cons_append, List.append_nil, localP, PR.bind, hdT_cons, e])
  have HC := Lib.hid (HEX.out B (t :: r) _ S0.out.ps hnoc)
  have HNOC := Lib.hid hnoc
  clear hnoc
  go_wp2_with fail
  refine (HC.out).mono ?_
  intro e w1 hq
  rcases hq.cases HNOC.out with ⟨t1, l1, q1, n1, c1, he1, rfl, hb1, hP1, hg1⟩ | ⟨ln, c, code, he1, rfl, hg1⟩
  rotate_left
  · refine ⟨rfl, ?_⟩
    have hbad : (localP) (t :: r) = .bad ln c code := by simp only [Bool.false_eq_true, if_false, if_true, reduceIte, Bool.not_false, Bool.not_true, Bool.false_or, Bool.true_or, Bool.or_false, Bool.or_true, Bool.and_true, Bool.and_false, Bool.false_and, Bool.true_and, List.nil_append, List.cons_append, List.append_nil, localP, PR.bind, hdT_cons, he1]
    rw [hbad]
    exact S0.out.pan ⟨rfl, hg1⟩
  have hwN : w.heap.size < w1.heap.size := (S0.out.call hP1 hg1).lt
  have N1 := Lib.hid (Hd.put t1 (hb1.mono (lo' := w.heap.size + 1) S0.out.lt))
  have S1 := Lib.hid ((S0.out.call hP1 hg1).alloc (nodO t1.kind t1.text t1.num t1.line t1.col (.slice q1 n1 c1)))
  have HE1 := Lib.hid he1
  clear hq hb1 hP1 hg1 he1 HC HNOC S0
  unfold nodeV nodO at *
  have H := Lib.hid (pass_lit (S := w1.heap.size + 1) [[59]] S1.out.ps (by simp) (by simp) (by simp))
  simp only [List.map, List.length] at H
  go_wp2_with fail
  refine (H.out).mono ?_
  rintro e w2 (⟨l2, he2, rfl, hP2, hg2⟩ | ⟨ln, c, code, he2, rfl, hg2⟩)
  rotate_left
  · refine ⟨rfl, ?_⟩
    have hbad : (localP) (t :: r) = .bad ln c code := by simp only [Bool.false_eq_true, if_false, if_true, reduceIte, Bool.not_false, Bool.not_true, Bool.false_or, Bool.true_or, Bool.or_false, Bool.or_true, Bool.and_true, Bool.and_false, Bool.false_and, Bool.true_and, List.nil_append, List.cons_append, List.append_nil, localP, PR.bind, hdT_cons, HE1.out, he2]
    rw [hbad]
    exact S1.out.pan ⟨rfl, hg2⟩
  have S2 := Lib.hid (S1.out.call hP2 hg2)
  have N2 := Lib.hid (N1.out.call hg2 (by omega))
  clear S1 N1
  have HE2 := Lib.hid he2
  clear H he2 hP2 hg2
  have S9 := S2.out
  have N9 := N2.out
  have hs1 := S9.lt
  have hs2 := N9.lt
  try simp only [World.size_setCell, World.size_alloc] at hs1 hs2
  have hr := S9.res
  have r0 := hr.c0; have r1' := hr.c1; have r2 := hr.c2; have r3 := hr.c3; have r4 := hr.c4; have r5 := hr.c5
  have g0 := hr.f 0 (by omega); have g1 := hr.f 1 (by omega); have g2 := hr.f 2 (by omega); have g3 := hr.f 3 (by omega); have g4 := hr.f 4 (by omega); have g5 := hr.f 5 (by omega)
  clear hr
  have hq := N9.nd
  have qn0 := hq.c0; have qn1 := hq.c1; have qn2 := hq.c2; have qn3 := hq.c3; have qn4 := hq.c4; have qn5 := hq.c5
  clear hq
  have HS9 := Lib.hid S9
  have HN9 := Lib.hid N9
  clear S9 N9 S2 N2
  skip
  go_wp2
  refine bodyPost_ret (v := nodeV t1 (.slice q1 n1 c1)) (by simp [results, Tryz.results123, go_sem, nodeV, Tree.kind, Tree.text, Tree.num, Tree.line, Tree.col, Tree.kids, kProgram, kGlobal, kFunc, kParam, kType, kNum, kBlock, kLocal, kIf, kElse, kWhile, kReturn, kAssert, kAssume, kAssign, kNondet, kResult, kCall, kName, kIndex, kBinary, kUnary, kCast, kTrue, kFalse, kVoid, *]) rfl ?_
  have hgood : (localP) (t :: r) = .ok t1 l2 := by simp only [Bool.false_eq_true, if_false, if_true, reduceIte, Bool.not_false, Bool.not_true, Bool.false_or, Bool.true_or, Bool.or_false, Bool.or_true, Bool.and_true, Bool.and_false, Bool.false_and, Bool.true_and, List.nil_append, List.cons_append, List.append_nil, localP, PR.bind, hdT_cons, HE1.out, HE2.out]
  rw [hgood]
  exact HS9.out.fin (HN9.out.bd.mono (by omega)) _ _ _ _ _ _
end Go.Proofs.YtnalgnklgmoepaaGreatDoor
