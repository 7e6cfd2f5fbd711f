/- Tokens that are alike but for places are read alike (plain). -/
import Derived.Test.YtnalgnklgmoepaaGreatDoorMbar
import Derived.Test.YtnalgnklgmoepaaGreatDoorMLu
set_option linter.all false
namespace Go.Proofs.YtnalgnklgmoepaaGreatDoor
open Go Go.RowKit

theorem same_refl_list {ks : List Tree} (h : ∀ t ∈ ks, sameT t t = true) : sameL ks ks = true := by
  induction ks with
  | nil => simp [sameL]
  | cons t r ih => simp [sameL, h t (by simp), ih (fun u hu => h u (by simp [hu]))]
theorem sameT_mk {k x k' x' : List UInt8} {n l c n' l' c' : Int} {ks ks' : List Tree} (h1 : k = k') (h2 : x = x') (h3 : n = n') (h4 : sameL ks ks' = true) : sameT (.mk k x n l c ks) (.mk k' x' n' l' c' ks') = true := by
  subst h1 h2 h3
  simp [sameT, Tree.kind, Tree.text, Tree.num, Tree.kids, h4]
theorem sameT_parts {a b : Tree} (h : sameT a b = true) : a.kind = b.kind ∧ a.text = b.text ∧ a.num = b.num ∧ sameL a.kids b.kids = true := by
  cases a
  simp only [sameT, Bool.and_eq_true, beq_iff_eq] at h
  exact ⟨h.1, h.2.1, h.2.2.1, h.2.2.2⟩
theorem sameL_nil : sameL [] [] = true := by simp [sameL]
theorem sameL_one {t u : Tree} (h : sameT t u = true) : sameL [t] [u] = true := by simp [sameL, h]
theorem sameL_two {t u t' u' : Tree} (h : sameT t u = true) (h' : sameT t' u' = true) : sameL [t, t'] [u, u'] = true := by simp [sameL, h, h']
theorem sameL_app : ∀ {a b a' b' : List Tree}, sameL a b = true → sameL a' b' = true → sameL (a ++ a') (b ++ b') = true
  | [], b, a', b', h, h' => by
    cases b with
    | nil => exact h'
    | cons u r => simp [sameL] at h
  | t :: r, b, a', b', h, h' => by
    cases b with
    | nil => simp [sameL] at h
    | cons u s =>
      simp only [sameL, Bool.and_eq_true, List.cons_append] at h ⊢
      exact ⟨h.1, sameL_app h.2 h'⟩

/-- Alike but for places. -/
def Al (l l' : List Tok) : Prop := l.map Tok.bare = l'.map Tok.bare
def TokE (t t' : Tok) : Prop := t.bare = t'.bare
def TreeE (a b : Tree) : Prop := sameT a b = true
def ListE (a b : List Tree) : Prop := sameL a b = true
theorem TokE.kind {t t' : Tok} (h : TokE t t') : t.kind = t'.kind := congrArg Bare.kind h
theorem TokE.text {t t' : Tok} (h : TokE t t') : t.text = t'.text := congrArg Bare.text h
theorem TokE.num {t t' : Tok} (h : TokE t t') : t.num = t'.num := congrArg Bare.num h
theorem Al.hd {l l' : List Tok} (h : Al l l') : TokE (hdT l) (hdT l') := by
  unfold Al at h
  cases l with
  | nil =>
    cases l' with
    | nil => rfl
    | cons t r => simp at h
  | cons t r =>
    cases l' with
    | nil => simp at h
    | cons t' r' =>
      simp only [List.map_cons, List.cons.injEq] at h
      exact h.1
def RelP {α : Type} (S : α → α → Prop) : PR α → PR α → Prop
  | .ok a l, .ok b l' => S a b ∧ Al l l'
  | .bad _ _ c, .bad _ _ c' => c = c'
  | .out, .out => True
  | _, _ => False
section
variable {α β : Type} {S : α → α → Prop} {T : β → β → Prop}
theorem RelP.ok {a b : α} {l l' : List Tok} (h : S a b) (h' : Al l l') : RelP S (.ok a l) (.ok b l') := ⟨h, h'⟩
theorem RelP.bind {p p' : PR α} {f f' : α → List Tok → PR β} (h : RelP S p p') (hf : ∀ a b l l', S a b → Al l l' → RelP T (f a l) (f' b l')) : RelP T (p.bind f) (p'.bind f') := by
  cases p with
  | ok a l =>
    cases p' with
    | ok b l' => exact hf a b l l' h.1 h.2
    | bad _ _ _ => exact h.elim
    | out => exact h.elim
  | bad x y c =>
    cases p' with
    | ok b l' => exact h.elim
    | bad _ _ _ => exact h
    | out => exact h.elim
  | out =>
    cases p' with
    | ok b l' => exact h.elim
    | bad _ _ _ => exact h.elim
    | out => trivial
theorem RelP.ite {b b' : Bool} {p q p' q' : PR α} (hb : b = b') (h1 : RelP S p p') (h2 : RelP S q q') : RelP S (if b = true then p else q) (if b' = true then p' else q') := by
  subst hb
  cases b
  · exact h2
  · exact h1
end
theorem rel_fail (code : Int) (l l' : List Tok) : RelP TreeE (failP code l) (failP code l') := rfl
theorem rel_take {may may' : Bool} {l l' : List Tok} (hm : may = may') (h : Al l l') : RelP TokE (takeP may l) (takeP may' l') := by
  subst hm
  unfold Al at h
  cases l with
  | nil =>
    cases l' with
    | nil => rfl
    | cons t r => simp at h
  | cons t r =>
    cases l' with
    | nil => simp at h
    | cons t' r' =>
      simp only [List.map_cons, List.cons.injEq] at h
      cases may
      · rfl
      · exact ⟨h.1, h.2⟩
def UnitE (_ _ : Unit) : Prop := True
theorem Al.text {l l' : List Tok} (h : Al l l') (x : List UInt8) : ((hdT l).text == x) = ((hdT l').text == x) := by rw [h.hd.text]
theorem Al.kind {l l' : List Tok} (h : Al l l') (x : Int) : ((hdT l).kind == x) = ((hdT l').kind == x) := by rw [h.hd.kind]
theorem Al.name {l l' : List Tok} (h : Al l l') : nameB (hdT l) = nameB (hdT l') := by unfold nameB; rw [h.hd.kind, h.hd.text]
theorem Al.type {l l' : List Tok} (h : Al l l') : typeB (hdT l).text = typeB (hdT l').text := by rw [h.hd.text]
theorem rel_pass : ∀ (xs : List (List UInt8)) {l l' : List Tok}, Al l l' → RelP UnitE (passP xs l) (passP xs l')
  | [], _, _, h => ⟨trivial, h⟩
  | x :: xs, _, _, h => (rel_take (h.text x) h).bind fun _ _ _ _ _ h' => rel_pass xs h'
theorem rel_deeper {d : Int} {p p' : Int → List Tok → PR Tree} {l l' : List Tok} (h : RelP TreeE (p (d + 1) l) (p' (d + 1) l')) : RelP TreeE (deeperP d p l) (deeperP d p' l') := by
  unfold deeperP
  by_cases hd : d = 60
  · rw [if_pos hd, if_pos hd]; exact rel_fail _ _ _
  · rw [if_neg hd, if_neg hd]; exact h
theorem rel_many {stop : Tok → Bool} {p p' : List Tok → PR Tree} (hs : ∀ {t t'}, TokE t t' → stop t = stop t') (hp : ∀ {l l'}, Al l l' → RelP TreeE (p l) (p' l')) : ∀ (n : Nat) {acc acc' : List Tree} {l l' : List Tok}, ListE acc acc' → Al l l' → RelP ListE (manyP stop p n acc l) (manyP stop p' n acc' l')
  | 0, _, _, _, _, _, _ => trivial
  | n + 1, acc, acc', l, l', ha, h => by
    rw [manyP, manyP]
    exact RelP.ite (hs h.hd) (RelP.ok ha h) ((hp h).bind fun _ _ _ _ ht h' => rel_many hs hp n (sameL_app ha (sameL_one ht)) h')
theorem rel_declared {kind : List UInt8} {void void' : Bool} (hv : void = void') {l l' : List Tok} (h : Al l l') : RelP TreeE (declaredP kind void l) (declaredP kind void' l') :=
  (rel_take (by rw [hv, h.type]) h).bind fun _ _ _ _ ht h1 => (rel_take h1.name h1).bind fun _ _ _ _ hu h2 => RelP.ok (sameT_mk rfl hu.text rfl (sameL_one (sameT_mk rfl ht.text rfl sameL_nil))) h2
theorem rel_number {l l' : List Tok} (h : Al l l') : RelP TreeE (numberP l) (numberP l') := (rel_take (h.kind 1) h).bind fun _ _ _ _ ht h1 => RelP.ok (sameT_mk rfl rfl ht.num sameL_nil) h1
theorem rel_commas {n : Nat} {p p' : List Tok → PR Tree} (hp : ∀ {l l'}, Al l l' → RelP TreeE (p l) (p' l')) {l l' : List Tok} (h : Al l l') : RelP ListE (commasP n p l) (commasP n p' l') := by
  unfold commasP
  refine (rel_pass [[40]] h).bind fun _ _ l1 l1' _ h1 => ?_
  refine RelP.ite (h1.text [41]) ((rel_pass [[41]] h1).bind fun _ _ _ _ _ h2 => RelP.ok sameL_nil h2) ?_
  refine (hp h1).bind fun _ _ _ _ ht h2 => ?_
  refine (rel_many (fun ht => by rw [ht.text]) (fun hl => (rel_pass [[44]] hl).bind fun _ _ _ _ _ h3 => hp h3) n (sameL_one ht) h2).bind fun _ _ _ _ hts h3 => ?_
  exact (rel_pass [[41]] h3).bind fun _ _ _ _ _ h4 => RelP.ok hts h4
section
variable {rec : NT → Int → List Tok → PR Tree} {n : Nat}
def RecE (rec : NT → Int → List Tok → PR Tree) : Prop := ∀ x d {l l' : List Tok}, Al l l' → RelP TreeE (rec x d l) (rec x d l')
theorem rel_target (H : RecE rec) (d : Int) {l l' : List Tok} (h : Al l l') : RelP TreeE (targetP rec d l) (targetP rec d l') := by
  unfold targetP
  refine (rel_take h.name h).bind fun _ _ _ _ ht h1 => ?_
  refine RelP.ite (h1.text [91]) ((rel_pass [[91]] h1).bind fun _ _ _ _ _ h2 => (rel_deeper (H (.binary 0) (d + 1) h2)).bind fun _ _ _ _ he h3 => (rel_pass [[93]] h3).bind fun _ _ _ _ _ h4 => RelP.ok (sameT_mk rfl ht.text rfl (sameL_one he)) h4) ?_
  exact RelP.ok (sameT_mk rfl ht.text rfl sameL_nil) h1
theorem rel_paren (H : RecE rec) (d : Int) {l l' : List Tok} (h : Al l l') : RelP TreeE (parenP rec d l) (parenP rec d l') := by
  unfold parenP
  refine (rel_take (h.text [40]) h).bind fun _ _ _ _ ht h1 => ?_
  refine RelP.ite h1.type ((rel_take rfl h1).bind fun _ _ _ _ hu h2 => (rel_pass [[41]] h2).bind fun _ _ _ _ _ h3 => (rel_deeper (H .operand (d + 1) h3)).bind fun _ _ _ _ he h4 => RelP.ok (sameT_mk rfl hu.text rfl (sameL_one he)) h4) ?_
  exact (rel_deeper (H (.binary 0) (d + 1) h1)).bind fun _ _ _ _ he h2 => (rel_pass [[41]] h2).bind fun _ _ _ _ _ h3 => RelP.ok he h3
theorem rel_operand (H : RecE rec) (d : Int) {l l' : List Tok} (h : Al l l') : RelP TreeE (operandP rec d l) (operandP rec d l') := by
  unfold operandP
  refine RelP.ite (h.kind 1) (rel_number h) ?_
  refine RelP.ite (by rw [h.hd.text]) ((rel_take rfl h).bind fun _ _ _ _ hu h1 => RelP.ok (sameT_mk hu.text rfl rfl sameL_nil) h1) ?_
  refine RelP.ite (by rw [h.hd.text]) ((rel_take rfl h).bind fun _ _ _ _ hu h1 => (rel_deeper (H .operand (d + 1) h1)).bind fun _ _ _ _ he h2 => RelP.ok (sameT_mk rfl hu.text rfl (sameL_one he)) h2) ?_
  exact RelP.ite (h.text [40]) (rel_paren H d h) (rel_target H d h)
theorem rel_binLoop (H : RecE rec) (k d : Int) : ∀ (m : Nat) {left left' : Tree} {l l' : List Tok}, TreeE left left' → Al l l' → RelP TreeE (binLoop rec k d m left l) (binLoop rec k d m left' l')
  | 0, _, _, _, _, _, _ => trivial
  | m + 1, left, left', l, l', hl, h => by
    rw [binLoop, binLoop, h.hd.text]
    by_cases hk : levelI (hdT l').text < k
    · rw [if_pos hk, if_pos hk]; exact RelP.ok hl h
    · rw [if_neg hk, if_neg hk]
      exact (rel_take rfl h).bind fun _ _ _ _ ht h1 => (H _ d h1).bind fun _ _ _ _ hr h2 => rel_binLoop H k d m (sameT_mk rfl ht.text rfl (sameL_two hl hr)) h2
theorem rel_binary (H : RecE rec) (k d : Int) {l l' : List Tok} (h : Al l l') : RelP TreeE (binaryP rec n k d l) (binaryP rec n k d l') := by
  unfold binaryP
  exact (H .operand d h).bind fun _ _ _ _ he h1 => rel_binLoop H k d n he h1
theorem rel_expr (H : RecE rec) (d : Int) {l l' : List Tok} (h : Al l l') : RelP TreeE (exprP rec d l) (exprP rec d l') := H (.binary 0) d h
theorem rel_call (H : RecE rec) (d : Int) {l l' : List Tok} (h : Al l l') : RelP TreeE (callP rec n d l) (callP rec n d l') := by
  unfold callP
  exact (rel_take h.name h).bind fun _ _ _ _ ht h1 => (rel_commas (fun hl => rel_deeper (H (.binary 0) (d + 1) hl)) h1).bind fun _ _ _ _ hts h2 => RelP.ok (sameT_mk rfl ht.text rfl hts) h2
theorem Al.call {l l' : List Tok} (h : Al l l') : atCallB l = atCallB l' := by
  unfold Al at h
  match l, l', h with
  | [], [], _ => rfl
  | [], _ :: _, h => simp at h
  | _ :: _, [], h => simp at h
  | [t], [t'], _ => rfl
  | [t], _ :: _ :: _, h => simp at h
  | _ :: _ :: _, [t], h => simp at h
  | t :: u :: r, t' :: u' :: r', h =>
    simp only [List.map_cons, List.cons.injEq] at h
    have h1 : TokE t t' := h.1
    have h2 : TokE u u' := h.2.1
    show (nameB t && u.text == [40]) = (nameB t' && u'.text == [40])
    unfold nameB
    rw [h1.kind, h1.text, h2.text]
theorem rel_action (H : RecE rec) (d : Int) {l l' : List Tok} (h : Al l l') : RelP TreeE (actionP rec n d l) (actionP rec n d l') := by
  unfold actionP
  refine RelP.ite h.call ((rel_call H d h).bind fun _ _ _ _ ht h1 => (rel_pass [[59]] h1).bind fun _ _ _ _ _ h2 => RelP.ok ht h2) ?_
  refine (rel_target H d h).bind fun _ _ _ _ hx h1 => (rel_pass [[61]] h1).bind fun _ _ _ _ _ h2 => ?_
  refine RelP.ite (h2.text kNondet) ((rel_pass [kNondet, [40], [41]] h2).bind fun _ _ _ _ _ h3 => (rel_pass [[59]] h3).bind fun _ _ _ _ _ h4 => RelP.ok (sameT_mk rfl rfl rfl (sameL_one hx)) h4) ?_
  refine RelP.ite h2.call ((rel_call H d h2).bind fun _ _ _ _ hy h3 => (rel_pass [[59]] h3).bind fun _ _ _ _ _ h4 => RelP.ok (sameT_mk rfl rfl rfl (sameL_two hx hy)) h4) ?_
  exact (rel_expr H d h2).bind fun _ _ _ _ hy h3 => (rel_pass [[59]] h3).bind fun _ _ _ _ _ h4 => RelP.ok (sameT_mk rfl rfl rfl (sameL_two hx hy)) h4
theorem rel_claim (H : RecE rec) (d : Int) {l l' : List Tok} (h : Al l l') : RelP TreeE (claimP rec d l) (claimP rec d l') := by
  unfold claimP
  exact (rel_take rfl h).bind fun _ _ _ _ ht h1 => (rel_pass [[40]] h1).bind fun _ _ _ _ _ h2 => (rel_expr H d h2).bind fun _ _ _ _ he h3 => (rel_pass [[41], [59]] h3).bind fun _ _ _ _ _ h4 => RelP.ok (sameT_mk ht.text rfl rfl (sameL_one he)) h4
theorem rel_leave (H : RecE rec) (d : Int) {l l' : List Tok} (h : Al l l') : RelP TreeE (leaveP rec d l) (leaveP rec d l') := by
  unfold leaveP
  refine (rel_pass [kReturn] h).bind fun _ _ _ _ _ h1 => ?_
  refine RelP.ite (h1.text [59]) ((rel_pass [[59]] h1).bind fun _ _ _ _ _ h2 => RelP.ok (sameT_mk rfl rfl rfl sameL_nil) h2) ?_
  exact (rel_expr H d h1).bind fun _ _ _ _ he h2 => (rel_pass [[59]] h2).bind fun _ _ _ _ _ h3 => RelP.ok (sameT_mk rfl rfl rfl (sameL_one he)) h3
theorem rel_guarded (H : RecE rec) (word : List UInt8) (d : Int) {l l' : List Tok} (h : Al l l') : RelP TreeE (guardedP rec word d l) (guardedP rec word d l') := by
  unfold guardedP
  exact (rel_pass [word, [40]] h).bind fun _ _ _ _ _ h1 => (rel_expr H d h1).bind fun _ _ _ _ he h2 => (rel_pass [[41]] h2).bind fun _ _ _ _ _ h3 => (rel_deeper (H .block (d + 1) h3)).bind fun _ _ _ _ hb h4 => RelP.ok (sameT_mk rfl rfl rfl (sameL_two he hb)) h4
theorem rel_choice (H : RecE rec) (d : Int) {l l' : List Tok} (h : Al l l') : RelP TreeE (choiceP rec d l) (choiceP rec d l') := by
  unfold choiceP
  refine (rel_guarded H kIf d h).bind fun t t' _ _ ht h1 => ?_
  refine RelP.ite (h1.text kElse) ((rel_pass [kElse] h1).bind fun _ _ _ _ _ h2 => (rel_deeper (H .block (d + 1) h2)).bind fun _ _ _ _ hb h3 => RelP.ok ?_ h3) (RelP.ok ht h1)
  obtain ⟨e1, e2, e3, e4⟩ := sameT_parts ht
  exact sameT_mk e1 e2 e3 (sameL_app e4 (sameL_one hb))
theorem rel_local {l l' : List Tok} (h : Al l l') : RelP TreeE (localP l) (localP l') := (rel_declared rfl h).bind fun _ _ _ _ ht h1 => (rel_pass [[59]] h1).bind fun _ _ _ _ _ h2 => RelP.ok ht h2
theorem rel_stmt (H : RecE rec) (d : Int) {l l' : List Tok} (h : Al l l') : RelP TreeE (stmtP rec n d l) (stmtP rec n d l') := by
  unfold stmtP
  refine RelP.ite (h.text kIf) (rel_choice H d h) ?_
  refine RelP.ite (h.text kWhile) (rel_guarded H kWhile d h) ?_
  refine RelP.ite (h.text kReturn) (rel_leave H d h) ?_
  refine RelP.ite (by rw [h.hd.text]) (rel_claim H d h) ?_
  exact RelP.ite h.type (rel_local h) (rel_action H d h)
theorem rel_block (H : RecE rec) (d : Int) {l l' : List Tok} (h : Al l l') : RelP TreeE (blockP rec n d l) (blockP rec n d l') := by
  unfold blockP
  refine (rel_pass [[123]] h).bind fun _ _ _ _ _ h1 => ?_
  exact (rel_many (fun ht => by rw [ht.text]) (fun hl => rel_stmt H d hl) n sameL_nil h1).bind fun _ _ _ _ hts h2 => (rel_pass [[125]] h2).bind fun _ _ _ _ _ h3 => RelP.ok (sameT_mk rfl rfl rfl hts) h3
end
theorem rel_run : ∀ n, RecE (runP n)
  | 0 => fun _ _ _ _ _ => trivial
  | n + 1 => fun x d l l' h => by
    cases x with
    | block => exact rel_block (rel_run n) d h
    | binary k => exact rel_binary (rel_run n) k d h
    | operand => exact rel_operand (rel_run n) d h
theorem rel_item (n : Nat) {l l' : List Tok} (h : Al l l') : RelP TreeE (itemP n l) (itemP n l') := by
  unfold itemP
  refine (rel_declared (h.text kVoid) h).bind fun t t' l1 l1' ht h1 => ?_
  obtain ⟨e1, e2, e3, e4⟩ := sameT_parts ht
  refine RelP.ite (by rw [h.hd.text, h1.hd.text]) ((rel_commas (fun hl => rel_declared rfl hl) h1).bind fun _ _ _ _ hps h2 => (rel_deeper (rel_run n .block (0 + 1) h2)).bind fun _ _ _ _ hb h3 => RelP.ok (sameT_mk rfl e2 e3 (sameL_app (sameL_app e4 hps) (sameL_one hb))) h3) ?_
  refine RelP.ite (h1.text [91]) ((rel_pass [[91]] h1).bind fun _ _ _ _ _ h2 => (rel_number h2).bind fun _ _ _ _ hm h3 => (rel_pass [[93]] h3).bind fun _ _ _ _ _ h4 => (rel_pass [[59]] h4).bind fun _ _ _ _ _ h5 => RelP.ok (sameT_mk e1 e2 e3 (sameL_app e4 (sameL_one hm))) h5) ?_
  exact (rel_pass [[59]] h1).bind fun _ _ _ _ _ h2 => RelP.ok ht h2
theorem rel_program (n : Nat) {l l' : List Tok} (h : Al l l') : RelP TreeE (programP n l) (programP n l') := by
  unfold programP
  exact (rel_many (fun ht => by rw [ht.kind]) (fun hl => rel_item n hl) n sameL_nil h).bind fun _ _ _ _ hts h1 => RelP.ok (sameT_mk rfl rfl rfl hts) h1
end Go.Proofs.YtnalgnklgmoepaaGreatDoor
