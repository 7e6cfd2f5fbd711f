/- What is shown of a statement, of a block and of a program is read again (plain). -/
import Derived.Test.YtnalgnklgmoepaaGreatDoorMWj
set_option linter.all false
namespace Go.Proofs.YtnalgnklgmoepaaGreatDoor
open Go Go.RowKit

theorem atCall_T (t : Tok) (l : List Tok) : atCallB (t :: l) = (nameB t && ((hdT l).text == [40])) := by
  cases l with
  | nil => simp [atCallB, hdT, tok0]
  | cons u r => rfl
theorem at_no (w : List UInt8) (l : List Tok) (h : nameB (T w) = false) : atCallB (T w :: l) = false := by rw [atCall_T, h]; rfl
theorem at_next (w : List UInt8) (l : List Tok) (h : (hdT l).text ≠ [40]) : atCallB (T w :: l) = false := by
  rw [atCall_T, show ((hdT l).text == [40]) = false by simpa using h, Bool.and_false]
theorem at_false : ∀ (n : Nat) (t : Tree) (ws : List (List UInt8)) (l : List Tok), runW n .expr t = some ws → (hdT l).text ≠ [40] → atCallB (TS ws ++ l) = false := by
  intro n
  induction n with
  | zero => intro t ws l h; simp [runW] at h
  | succ n ih =>
    intro t ws l h hl
    obtain ⟨k, x, m, ln, co, ks⟩ := t
    rw [runW] at h
    simp only [stepW] at h
    rw [exprW_mk] at h
    split at h
    · split at h
      · obtain ⟨hb, h1⟩ := ifW_some h
        obtain ⟨wa, r1, h2, h3, rfl⟩ := catW_some h1
        obtain ⟨u, wb, h4, h5, rfl⟩ := catW_some h3
        injection h4 with h4
        subst h4
        simp only [Bool.and_eq_true, decide_eq_true_eq] at hb
        rw [show TS (wa ++ ([x] ++ wb)) ++ l = TS wa ++ (T x :: (TS wb ++ l)) by simp [TS]]
        unfold operandW at h2
        split at h2
        · obtain ⟨u, v, h6, _, rfl⟩ := catW_some h2
          injection h6 with h6
          subst h6
          exact at_no [40] _ (by decide)
        · exact ih _ _ _ h2 (op_ne hb.1 [40] (by decide))
      · cases h
    split at h
    · split at h
      · obtain ⟨hb, h1⟩ := ifW_some h
        obtain ⟨u, v, h2, _, rfl⟩ := catW_some h1
        injection h2 with h2
        subst h2
        simp only [Bool.and_eq_true] at hb
        rcases unary_in hb.1 with e | e | e <;> (rw [e]; exact at_no _ _ (by decide))
      · cases h
    split at h
    · split at h
      · obtain ⟨_, h1⟩ := ifW_some h
        obtain ⟨u, v, h2, _, rfl⟩ := catW_some h1
        injection h2 with h2
        subst h2
        exact at_no [40] _ (by decide)
      · cases h
    split at h
    · rename_i hk
      obtain ⟨_, h1⟩ := ifW_some h
      injection h1 with h1
      subst h1
      simp only [Bool.or_eq_true, beq_iff_eq] at hk
      rcases hk with rfl | rfl <;> exact at_no _ _ (by decide)
    split at h
    · rw [numberW_mk] at h
      obtain ⟨_, h1⟩ := ifW_some h
      injection h1 with h1
      subst h1
      refine at_no _ _ ?_
      unfold nameB T
      rw [dec_kind]
      rfl
    · rw [targetW_mk] at h
      split at h
      · split at h
        · obtain ⟨hb, h1⟩ := ifW_some h
          obtain ⟨u, v, h2, _, rfl⟩ := catW_some h1
          injection h2 with h2
          subst h2
          exact at_next x _ (show ([91] : List UInt8) ≠ [40] by decide)
        · cases h
      · obtain ⟨hb, h1⟩ := ifW_some h
        injection h1 with h1
        subst h1
        exact at_next x l hl
theorem type_facts {x : List UInt8} (h : typeB x = true) : (x == kIf) = false ∧ (x == kWhile) = false ∧ (x == kReturn) = false ∧ (x == kAssert) = false ∧ (x == kAssume) = false ∧ x ≠ kElse ∧ x ≠ [125] ∧ firstK x = 0 ∧ (x == kVoid) = false := by
  have hall : ∀ y ∈ typesL, (y == kIf) = false ∧ (y == kWhile) = false ∧ (y == kReturn) = false ∧ (y == kAssert) = false ∧ (y == kAssume) = false ∧ y ≠ kElse ∧ y ≠ [125] ∧ firstK y = 0 ∧ (y == kVoid) = false := by decide
  exact hall x (type_in h)
theorem name_facts {x : List UInt8} (h : isNameL x = true) : (x == kIf) = false ∧ (x == kWhile) = false ∧ (x == kReturn) = false ∧ (x == kAssert) = false ∧ (x == kAssume) = false ∧ x ≠ kElse ∧ x ≠ [125] := by
  refine ⟨?_, ?_, ?_, ?_, ?_, name_ne h (by decide), name_ne h (by decide)⟩ <;> (rw [beq_eq_false_iff_ne]; exact name_ne h (by decide))
section
variable {D : Prop} {m : Nat}
def Same (t : Tree) : Tree → Prop := fun t' => sameT t t' = true
def SameL (ts : List Tree) : List Tree → Prop := fun ts' => sameL ts ts' = true
/-- Arguments, behind the first. -/
theorem rest_rs {f : Tree → Ws} {p : List Tok → PR Tree} {l : List Tok} : ∀ (j : Nat) (ks acc0 acc : List Tree) (ws : List (List UInt8)), restW f ks = some ws → sameL acc0 acc = true →
    (∀ k ∈ ks, ∀ (w : List (List UInt8)) (l : List Tok), f k = some w → levelI (hdT l).text = -1 → (hdT l).text ≠ [91] → Rs D (Same k) (p (TS w ++ l)) l) →
    Rs D (SameL (acc0 ++ ks)) (manyP (fun u => !(u.text == [44])) (fun l => (passP [[44]] l).bind fun _ l => p l) j acc (TS ws ++ (T [41] :: l))) (T [41] :: l)
  | 0, _, _, _, _, _, _, _ => Rs.out
  | j + 1, [], acc0, acc, ws, h, ha, _ => by
    injection h with h
    subst h
    rw [manyP, TS_nil, if_pos (by rw [hdT_T, T_text]; decide), List.append_nil]
    exact Rs.ok ha
  | j + 1, k :: ks, acc0, acc, ws, h, ha, hp => by
    obtain ⟨u, v, h1, h2, rfl⟩ := catW_some (show catW (some [[44]]) (catW (f k) (restW f ks)) = some ws from h)
    injection h1 with h1
    subst h1
    obtain ⟨wk, wr, h3, h4, rfl⟩ := catW_some h2
    rw [show TS ([[44]] ++ (wk ++ wr)) ++ (T [41] :: l) = T [44] :: (TS wk ++ (TS wr ++ (T [41] :: l))) by simp [TS]]
    rw [manyP, if_neg (by rw [hdT_T, T_text]; decide)]
    have hl : levelI (hdT (TS wr ++ (T [41] :: l))).text = -1 ∧ (hdT (TS wr ++ (T [41] :: l))).text ≠ [91] := by
      cases ks with
      | nil =>
        injection h4 with h4
        subst h4
        exact ⟨by rw [TS_nil, hd_T]; decide, by rw [TS_nil, hd_T]; decide⟩
      | cons k2 ks2 =>
        obtain ⟨u, v, h5, _, rfl⟩ := catW_some (show catW (some [[44]]) (catW (f k2) (restW f ks2)) = some wr from h4)
        injection h5 with h5
        subst h5
        exact ⟨show levelI [44] = -1 by decide, show ([44] : List UInt8) ≠ [91] by decide⟩
    refine Rs.bind (l := TS wr ++ (T [41] :: l)) (S := Same k) ?_ fun k' hk' => ?_
    · show Rs D (Same k) ((passP [[44]] (T [44] :: (TS wk ++ (TS wr ++ (T [41] :: l))))).bind fun _ l => p l) _
      rw [pass_T]
      exact hp k (by simp) wk _ h3 hl.1 hl.2
    have := rest_rs (l := l) j ks (acc0 ++ [k]) (acc ++ [k']) wr h4 (sameL_app ha (sameL_one hk')) (fun k2 hk2 => hp k2 (by simp [hk2]))
    rw [List.append_assoc] at this
    exact this
theorem com_rs {f : Tree → Ws} {p : List Tok → PR Tree} {l : List Tok} (j : Nat) (ks : List Tree) (ws : List (List UInt8)) (h : commasW f ks = some ws)
    (hh : ∀ k ∈ ks, ∀ (w : List (List UInt8)), f k = some w → ∃ v r, w = v :: r ∧ v ≠ [41])
    (hp : ∀ k ∈ ks, ∀ (w : List (List UInt8)) (l : List Tok), f k = some w → levelI (hdT l).text = -1 → (hdT l).text ≠ [91] → Rs D (Same k) (p (TS w ++ l)) l) :
    Rs D (SameL ks) (commasP j p (T [40] :: (TS ws ++ (T [41] :: l)))) l := by
  cases ks with
  | nil =>
    injection h with h
    subst h
    simp only [commasP, pass_T, PR.bind, TS_nil, hdT_T, T_text, beq_self_eq_true, if_true, reduceIte]
    exact Rs.ok sameL_nil
  | cons k ks =>
    obtain ⟨wk, wr, h3, h4, rfl⟩ := catW_some (show catW (f k) (restW f ks) = some ws from h)
    obtain ⟨v, r, rfl, hv⟩ := hh k (by simp) wk h3
    have hvb : (v == [41]) = false := by simpa using hv
    have hl : levelI (hdT (TS wr ++ (T [41] :: l))).text = -1 ∧ (hdT (TS wr ++ (T [41] :: l))).text ≠ [91] := by
      cases ks with
      | nil =>
        injection h4 with h4
        subst h4
        exact ⟨by rw [TS_nil, hd_T]; decide, by rw [TS_nil, hd_T]; decide⟩
      | cons k2 ks2 =>
        obtain ⟨u, v, h5, _, rfl⟩ := catW_some (show catW (some [[44]]) (catW (f k2) (restW f ks2)) = some wr from h4)
        injection h5 with h5
        subst h5
        exact ⟨show levelI [44] = -1 by decide, show ([44] : List UInt8) ≠ [91] by decide⟩
    have h1 := hp k (by simp) (v :: r) _ h3 hl.1 hl.2
    rw [TS_app, TS_cons]
    rw [TS_cons] at h1
    simp only [commasP, pass_T, PR.bind, hdT_T, T_text, hvb, Bool.false_eq_true, if_false, reduceIte]
    refine Rs.bind h1 fun k' hk' => ?_
    refine Rs.bind (rest_rs j ks [k] [k'] wr h4 (sameL_one hk') (fun k2 hk2 => hp k2 (by simp [hk2]))) fun ts hts => ?_
    simp only [pass_T, PR.bind]
    exact Rs.ok hts
theorem call_rs (H : PM D m) (n : Nat) (t : Tree) (ws : List (List UInt8)) (d : Int) (l : List Tok) (h : callW (runW n) t = some ws) (hd : 60 ≤ d + 2 * (deepT t : Int) → D) (hn : Neat t) (j : Nat) :
    Rs D (Same t) (callP (runP m) j d (TS ws ++ l)) l ∧ atCallB (TS ws ++ l) = true ∧ ∃ x r, ws = x :: r ∧ isNameL x = true := by
  obtain ⟨k, x, nm, ln, co, ks⟩ := t
  rw [callW_mk] at h
  obtain ⟨hb, h1⟩ := ifW_some h
  simp only [Bool.and_eq_true, beq_iff_eq] at hb
  obtain ⟨rfl, hx, rfl⟩ := hb
  obtain ⟨u, v, h2, h3, rfl⟩ := catW_some h1
  injection h2 with h2
  subst h2
  obtain ⟨wc, v2, h4, h5, rfl⟩ := catW_some h3
  injection h5 with h5
  subst h5
  rw [show TS ([x, [40]] ++ (wc ++ [[41]])) ++ l = T x :: T [40] :: (TS wc ++ (T [41] :: l)) by simp [TS]]
  refine ⟨?_, by rw [atCall_T, name_kind hx]; rfl, x, _, rfl, hx⟩
  simp only [callP, takeP, hdT_T, name_kind hx, if_true, reduceIte, PR.bind]
  refine Rs.bind (com_rs j ks wc h4 (fun k _ w hw => ?_) (fun k hk w l' hw h6 h7 => ?_)) fun ts hts => Rs.ok (sameT_mk rfl rfl rfl hts)
  · obtain ⟨v, r, rfl, hv⟩ := head_expr n k w hw
    exact ⟨v, r, rfl, hv.paren⟩
  · have hkd := kid_deep hk kCall x 0 ln co
    exact rs_deeper (fun h8 => hd (by omega)) (H.a n k w (d + 1) l' hw (fun h8 => hd (by omega)) (NeatL.mem hn.2.2.2.2.2 k hk) h6 h7)
theorem grd_rs (H : PM D m) (n : Nat) (k x : List UInt8) (nm ln co : Int) (ks : List Tree) (ws : List (List UInt8)) (d : Int) (l : List Tok) (h : guardedW (runW n) (.mk k x nm ln co ks) = some ws) (hd : 60 ≤ d + 2 * (deepT (.mk k x nm ln co ks) : Int) → D) (hn : NeatL ks) :
    ∃ e b r, ks = e :: b :: r ∧ Rs D (Same (.mk k [] 0 0 0 [e, b])) (guardedP (runP m) k d (TS ws ++ l)) l ∧ ∃ v, ws = k :: v := by
  rw [guardedW_mk] at h
  split at h
  · rename_i e b r
    obtain ⟨u, v, h2, h3, rfl⟩ := catW_some h
    injection h2 with h2
    subst h2
    obtain ⟨we, v2, h4, h5, rfl⟩ := catW_some h3
    obtain ⟨v3, wb, h6, h7, rfl⟩ := catW_some h5
    injection h6 with h6
    subst h6
    have hke := kid_deep (t := e) (ks := e :: b :: r) (by simp) k x nm ln co
    have hkb := kid_deep (t := b) (ks := e :: b :: r) (by simp) k x nm ln co
    refine ⟨e, b, r, rfl, ?_, _, rfl⟩
    rw [show TS ([k, [40]] ++ (we ++ ([[41]] ++ wb))) ++ l = T k :: T [40] :: (TS we ++ (T [41] :: (TS wb ++ l))) by simp [TS]]
    simp only [guardedP, pass_T2, PR.bind, exprP]
    refine Rs.bind (H.a n e we d _ h4 (fun h8 => hd (by omega)) hn.1 (show levelI [41] = -1 by decide) (show ([41] : List UInt8) ≠ [91] by decide)) fun e' he' => ?_
    simp only [pass_T, PR.bind]
    exact Rs.bind (rs_deeper (fun h8 => hd (by omega)) (H.f n b wb (d + 1) l h7 (fun h8 => hd (by omega)) hn.2.1)) fun b' hb' => Rs.ok (sameT_mk rfl rfl rfl (sameL_two he' hb'))
  · cases h
theorem decl_rs (kind : List UInt8) (void : Bool) (k x : List UInt8) (nm ln co : Int) (ks : List Tree) (ws : List (List UInt8)) (l : List Tok) (h : declaredW void (.mk k x nm ln co ks) = some ws) (hx : isNameL x = true) :
    ∃ u r tx, ks = u :: r ∧ ws = [tx, x] ∧ (typeB tx = true ∨ void = true ∧ tx = kVoid) ∧ declaredP kind void (TS ws ++ l) = .ok (.mk kind x 0 0 0 [.mk kType tx 0 0 0 []]) l ∧ sameT u (.mk kType tx 0 0 0 []) = true := by
  rw [declaredW_mk] at h
  split at h
  · rename_i u r
    obtain ⟨hb, h1⟩ := ifW_some h
    injection h1 with h1
    subst h1
    obtain ⟨uk, ux, um, uln, uco, uks⟩ := u
    simp only [Tree.kind, Tree.num, Tree.kids, Tree.text, Bool.and_eq_true, Bool.or_eq_true, beq_iff_eq, List.length_eq_zero_iff] at hb
    obtain ⟨⟨rfl, rfl, rfl⟩, ht⟩ := hb
    refine ⟨_, _, ux, rfl, rfl, ht, ?_, sameT_mk rfl rfl rfl sameL_nil⟩
    have hv : (void || typeB ux) = true := by rcases ht with h | h <;> simp [h]
    show declaredP kind void (T ux :: T x :: l) = _
    simp only [declaredP, takeP, hdT_T, T_text, hv, name_kind hx, if_true, reduceIte, PR.bind]
    try rfl
  · cases h
theorem stmt_rs (H : PM D m) (n : Nat) (t : Tree) (ws : List (List UInt8)) (d : Int) (l : List Tok) (h : stmtW (runW n) t = some ws) (hd : 60 ≤ d + 2 * (deepT t : Int) → D) (hn : Neat t) (hl : (hdT l).text ≠ kElse) (j : Nat) :
    Rs D (Same t) (stmtP (runP m) j d (TS ws ++ l)) l ∧ ∃ w r, ws = w :: r ∧ w ≠ kElse ∧ w ≠ [125] := by
  obtain ⟨k, x, nm, ln, co, ks⟩ := t
  rw [stmtW_mk] at h
  split at h
  · -- if
    rename_i hk
    obtain rfl : k = kIf := by simpa using hk
    rw [choiceW_mk] at h
    obtain ⟨hb, h1⟩ := ifW_some h
    simp only [Bool.and_eq_true, beq_iff_eq] at hb
    obtain ⟨rfl, rfl⟩ := hb
    have hlb : ((hdT l).text == kElse) = false := by simpa using hl
    split at h1
    · obtain ⟨e, b, r, hks, hg, v, rfl⟩ := grd_rs (l := l) H n kIf [] 0 ln co _ ws d h1 hd hn.2.2.2.2.2
      injection hks with h2 h3
      injection h3 with h3 h4
      subst h2 h3 h4
      refine ⟨?_, _, _, rfl, by decide, by decide⟩
      rw [TS_cons] at hg ⊢
      simp only [stmtP, hdT_T, T_text, choiceP, show (kIf == kIf) = true by decide, if_true, reduceIte]
      refine Rs.bind hg fun t' ht' => ?_
      rw [hlb, if_neg (by simp)]
      exact Rs.ok (by obtain ⟨e1, e2, e3, e4⟩ := sameT_parts ht'; cases t'; exact sameT_mk e1 e2 e3 e4)
    · rename_i e0 b0 c0
      obtain ⟨wg, v1, h2, h3, rfl⟩ := catW_some h1
      obtain ⟨u, wc, h4, h5, rfl⟩ := catW_some h3
      injection h4 with h4
      subst h4
      obtain ⟨e, b, r, hks, hg, v, rfl⟩ := grd_rs (l := T kElse :: (TS wc ++ l)) H n kIf [] 0 ln co _ wg d h2 hd hn.2.2.2.2.2
      injection hks with h6 h7
      injection h7 with h7 h8
      subst h6 h7 h8
      refine ⟨?_, _, _, rfl, by decide, by decide⟩
      rw [show TS (kIf :: v ++ ([kElse] ++ wc)) ++ l = TS (kIf :: v) ++ (T kElse :: (TS wc ++ l)) by simp [TS]]
      rw [TS_cons] at hg ⊢
      simp only [stmtP, hdT_T, T_text, choiceP, show (kIf == kIf) = true by decide, if_true, reduceIte]
      refine Rs.bind hg fun t' ht' => ?_
      simp only [hdT_T, T_text, show (kElse == kElse) = true by decide, if_true, reduceIte, pass_T, PR.bind]
      have hkc := kid_deep (t := c0) (ks := [e0, b0, c0]) (by simp) kIf [] 0 ln co
      refine Rs.bind (rs_deeper (fun h8 => hd (by omega)) (H.f n c0 wc (d + 1) l h5 (fun h8 => hd (by omega)) hn.2.2.2.2.2.2.2.1)) fun c' hc' => ?_
      obtain ⟨e1, e2, e3, e4⟩ := sameT_parts ht'
      exact Rs.ok (sameT_mk e1 e2 e3 (sameL_app (a := [e0, b0]) (a' := [c0]) e4 (sameL_one hc')))
    · cases h1
  split at h
  · -- while
    rename_i _ hk
    obtain rfl : k = kWhile := by simpa using hk
    obtain ⟨hb, h1⟩ := ifW_some h
    simp only [Bool.and_eq_true, beq_iff_eq] at hb
    obtain ⟨⟨rfl, rfl⟩, h2⟩ := hb
    obtain ⟨e, b, r, rfl, hg, v, rfl⟩ := grd_rs (l := l) H n kWhile [] 0 ln co ks ws d h1 hd hn.2.2.2.2.2
    obtain rfl : r = [] := by simpa using h2
    refine ⟨?_, _, _, rfl, by decide, by decide⟩
    rw [TS_cons] at hg ⊢
    simp only [stmtP, hdT_T, T_text, show (kWhile == kIf) = false by decide, show (kWhile == kWhile) = true by decide, Bool.false_eq_true, if_true, if_false, reduceIte]
    rcases hg with hg | ⟨t', e1, ht'⟩ | hg
    · exact .inl hg
    · refine .inr (.inl ⟨t', e1, ?_⟩)
      obtain ⟨e1, e2, e3, e4⟩ := sameT_parts ht'
      cases t'
      exact sameT_mk e1 e2 e3 e4
    · exact .inr (.inr hg)
  split at h
  · -- local
    rename_i _ _ hk
    obtain rfl : k = kLocal := by simpa using hk
    obtain ⟨hb, h1⟩ := ifW_some h
    simp only [Bool.and_eq_true, beq_iff_eq] at hb
    obtain ⟨⟨hx, rfl⟩, h2⟩ := hb
    obtain ⟨wd, u, h3, h4, rfl⟩ := catW_some (show catW (declaredW false _) (some [[59]]) = some ws from h1)
    injection h4 with h4
    subst h4
    obtain ⟨u, r, tx, rfl, rfl, ht, hp, hs⟩ := decl_rs (l := T [59] :: l) kLocal false kLocal x 0 ln co ks wd h3 hx
    obtain rfl : r = [] := by simpa using h2
    have ht' : typeB tx = true := by rcases ht with h | ⟨h, _⟩; exact h; cases h
    obtain ⟨f1, f2, f3, f4, f5, f6, f7, _⟩ := type_facts ht'
    refine ⟨?_, _, _, rfl, f6, f7⟩
    rw [show TS ([tx, x] ++ [[59]]) ++ l = TS [tx, x] ++ (T [59] :: l) by simp [TS]]
    rw [TS_cons] at hp ⊢
    simp only [stmtP, hdT_T, T_text, f1, f2, f3, f4, f5, ht', Bool.false_eq_true, if_true, if_false, reduceIte, Bool.or_self, localP, hp, PR.bind, pass_T]
    exact Rs.ok (sameT_mk rfl rfl rfl (sameL_one hs))
  split at h
  · -- call
    obtain ⟨wd, u, h3, h4, rfl⟩ := catW_some (show catW (callW (runW n) _) (some [[59]]) = some ws from h)
    injection h4 with h4
    subst h4
    obtain ⟨hc, hat, y, r, rfl, hy⟩ := call_rs (l := T [59] :: l) H n _ wd d h3 hd hn j
    obtain ⟨f1, f2, f3, f4, f5, f6, f7⟩ := name_facts hy
    refine ⟨?_, _, _, rfl, f6, f7⟩
    rw [show TS (y :: r ++ [[59]]) ++ l = TS (y :: r) ++ (T [59] :: l) by simp [TS]]
    rw [TS_cons] at hc hat ⊢
    simp only [stmtP, hdT_T, T_text, f1, f2, f3, f4, f5, name_type hy, Bool.false_eq_true, if_true, if_false, reduceIte, Bool.or_self, actionP, hat]
    refine Rs.bind hc fun t' ht' => ?_
    simp only [pass_T, PR.bind]
    exact Rs.ok ht'
  split at h
  · -- return
    rename_i _ _ _ _ hk
    obtain rfl : k = kReturn := by simpa using hk
    obtain ⟨hb, h1⟩ := ifW_some h
    simp only [Bool.and_eq_true, beq_iff_eq, decide_eq_true_eq] at hb
    obtain ⟨⟨rfl, rfl⟩, h2⟩ := hb
    obtain ⟨wd, u, h3, h4, rfl⟩ := catW_some (show catW (catW (some [kReturn]) (commasW (runW n .expr) ks)) (some [[59]]) = some ws from h1)
    injection h4 with h4
    subst h4
    obtain ⟨u, wc, h5, h6, rfl⟩ := catW_some h3
    injection h5 with h5
    subst h5
    refine ⟨?_, _, _, rfl, by decide, by decide⟩
    rw [show TS ([kReturn] ++ wc ++ [[59]]) ++ l = T kReturn :: (TS wc ++ (T [59] :: l)) by simp [TS]]
    simp only [stmtP, hdT_T, T_text, show (kReturn == kIf) = false by decide, show (kReturn == kWhile) = false by decide, show (kReturn == kReturn) = true by decide, Bool.false_eq_true, if_true, if_false, reduceIte, leaveP, pass_T, PR.bind]
    rcases ks with _ | ⟨e, _ | ⟨e2, r⟩⟩
    · injection h6 with h6
      subst h6
      simp only [TS_nil, hdT_T, T_text, beq_self_eq_true, if_true, reduceIte, pass_T, PR.bind]
      exact Rs.ok (sameT_mk rfl rfl rfl sameL_nil)
    · obtain ⟨we, v, h7, h8, rfl⟩ := catW_some (show catW (runW n .expr e) (some []) = some wc from h6)
      injection h8 with h8
      subst h8
      rw [List.append_nil]
      obtain ⟨w, r, rfl, hw⟩ := head_expr n e we h7
      have hke := kid_deep (t := e) (ks := [e]) (by simp) kReturn [] 0 ln co
      have hg := H.a n e (w :: r) d (T [59] :: l) h7 (fun h8 => hd (by omega)) hn.2.2.2.2.2.1 (show levelI [59] = -1 by decide) (show ([59] : List UInt8) ≠ [91] by decide)
      have hwb : (w == [59]) = false := by simpa using hw.semi
      rw [TS_cons] at hg ⊢
      simp only [hdT_T, T_text, hwb, Bool.false_eq_true, if_false, reduceIte, exprP]
      refine Rs.bind hg fun e' he' => ?_
      simp only [pass_T, PR.bind]
      exact Rs.ok (sameT_mk rfl rfl rfl (sameL_one he'))
    · simp at h2
  split at h
  · -- assert, assume
    rename_i _ _ _ _ _ hk
    split at h
    · rename_i e
      obtain ⟨hb, h1⟩ := ifW_some h
      simp only [Bool.and_eq_true, beq_iff_eq] at hb
      obtain ⟨rfl, rfl⟩ := hb
      obtain ⟨wd, u, h3, h4, rfl⟩ := catW_some (show catW (catW (some [k, [40]]) (catW (runW n .expr e) (some [[41]]))) (some [[59]]) = some ws from h1)
      injection h4 with h4
      subst h4
      obtain ⟨u, wc, h5, h6, rfl⟩ := catW_some h3
      injection h5 with h5
      subst h5
      obtain ⟨we, u, h7, h8, rfl⟩ := catW_some h6
      injection h8 with h8
      subst h8
      have hke := kid_deep (t := e) (ks := [e]) (by simp) k [] 0 ln co
      have hf : (k == kIf) = false ∧ (k == kWhile) = false ∧ (k == kReturn) = false ∧ k ≠ kElse ∧ k ≠ [125] := by
        simp only [Bool.or_eq_true, beq_iff_eq] at hk
        rcases hk with rfl | rfl <;> decide
      obtain ⟨f1, f2, f3, f4, f5⟩ := hf
      refine ⟨?_, _, _, rfl, f4, f5⟩
      rw [show TS ([k, [40]] ++ (we ++ [[41]]) ++ [[59]]) ++ l = T k :: T [40] :: (TS we ++ (T [41] :: T [59] :: l)) by simp [TS]]
      simp only [stmtP, hdT_T, T_text, f1, f2, f3, hk, Bool.false_eq_true, if_true, if_false, reduceIte, claimP, takeP, pass_T, PR.bind, exprP]
      refine Rs.bind (H.a n e we d _ h7 (fun h8 => hd (by omega)) hn.2.2.2.2.2.1 (show levelI [41] = -1 by decide) (show ([41] : List UInt8) ≠ [91] by decide)) fun e' he' => ?_
      simp only [pass_T2, PR.bind]
      exact Rs.ok (sameT_mk rfl rfl rfl (sameL_one he'))
    · cases h
  · -- a gift
    obtain ⟨wd, u, h3, h4, rfl⟩ := catW_some (show catW (giftW (runW n) _) (some [[59]]) = some ws from h)
    injection h4 with h4
    subst h4
    rw [giftW_mk] at h3
    obtain ⟨hb, h5⟩ := ifW_some h3
    simp only [Bool.and_eq_true, beq_iff_eq] at hb
    obtain ⟨rfl, rfl⟩ := hb
    -- the target's first word is a name, and no call
    have htg : ∀ (y : Tree) (wt : List (List UInt8)) (l : List Tok), targetW (runW n) y = some wt → ∃ z r, wt = z :: r ∧ isNameL z = true ∧ atCallB (TS wt ++ (T [61] :: l)) = false := by
      intro y wt l hy
      obtain ⟨k1, x1, m1, l1, c1, ks1⟩ := y
      rw [targetW_mk] at hy
      split at hy
      · split at hy
        · obtain ⟨hb, h1⟩ := ifW_some hy
          obtain ⟨u, v, h2, _, rfl⟩ := catW_some h1
          injection h2 with h2
          subst h2
          simp only [Bool.and_eq_true] at hb
          exact ⟨x1, _, rfl, hb.1, at_next x1 _ (show ([91] : List UInt8) ≠ [40] by decide)⟩
        · cases hy
      · obtain ⟨hb, h1⟩ := ifW_some hy
        injection h1 with h1
        subst h1
        simp only [Bool.and_eq_true] at hb
        exact ⟨x1, _, rfl, hb.1.2.1, at_next x1 _ (show ([61] : List UInt8) ≠ [40] by decide)⟩
    split at h5
    · rename_i y
      obtain ⟨hk, h6⟩ := ifW_some h5
      obtain rfl : k = kNondet := by simpa using hk
      obtain ⟨wt, u, h7, h8, rfl⟩ := catW_some h6
      injection h8 with h8
      subst h8
      obtain ⟨z, r, rfl, hz, hat⟩ := htg y wt (T kNondet :: T [40] :: T [41] :: T [59] :: l) h7
      obtain ⟨f1, f2, f3, f4, f5, f6, f7⟩ := name_facts hz
      have hky := kid_deep (t := y) (ks := [y]) (by simp) kNondet [] 0 ln co
      have hg := tgt_rs H n y (z :: r) d (T [61] :: T kNondet :: T [40] :: T [41] :: T [59] :: l) h7 (fun h8 => hd (by omega)) hn.2.2.2.2.2.1 (show ([61] : List UInt8) ≠ [91] by decide)
      refine ⟨?_, _, _, rfl, f6, f7⟩
      rw [show TS (z :: r ++ [[61], kNondet, [40], [41]] ++ [[59]]) ++ l = TS (z :: r) ++ (T [61] :: T kNondet :: T [40] :: T [41] :: T [59] :: l) by simp [TS]]
      rw [TS_cons] at hg hat ⊢
      simp only [stmtP, hdT_T, T_text, f1, f2, f3, f4, f5, name_type hz, Bool.false_eq_true, if_true, if_false, reduceIte, Bool.or_self, actionP, hat]
      refine Rs.bind hg fun y' hy' => ?_
      simp only [pass_T, PR.bind, hdT_T, T_text, beq_self_eq_true, if_true, reduceIte]
      rw [show passP [kNondet, [40], [41]] (T kNondet :: T [40] :: T [41] :: T [59] :: l) = .ok () (T [59] :: l) by simp [passP, takeP, hdT, T, PR.bind]]
      simp only [pass_T, PR.bind]
      exact Rs.ok (sameT_mk rfl rfl rfl (sameL_one hy'))
    · rename_i y z0
      have hky := kid_deep (t := y) (ks := [y, z0]) (by simp) k [] 0 ln co
      have hkz := kid_deep (t := z0) (ks := [y, z0]) (by simp) k [] 0 ln co
      split at h5
      · rename_i hk
        obtain rfl : k = kAssign := by simpa using hk
        obtain ⟨wt, u, h7, h8, rfl⟩ := catW_some h5
        obtain ⟨u, we, h9, h10, rfl⟩ := catW_some h8
        injection h9 with h9
        subst h9
        obtain ⟨w, re, rfl, hw⟩ := head_expr n z0 we h10
        obtain ⟨z, r, rfl, hz, hat⟩ := htg y wt (TS (w :: re) ++ (T [59] :: l)) h7
        obtain ⟨f1, f2, f3, f4, f5, f6, f7⟩ := name_facts hz
        have hg := tgt_rs H n y (z :: r) d (T [61] :: (TS (w :: re) ++ (T [59] :: l))) h7 (fun h8 => hd (by omega)) hn.2.2.2.2.2.1 (show ([61] : List UInt8) ≠ [91] by decide)
        have he := H.a n z0 (w :: re) d (T [59] :: l) h10 (fun h8 => hd (by omega)) hn.2.2.2.2.2.2.1 (show levelI [59] = -1 by decide) (show ([59] : List UInt8) ≠ [91] by decide)
        have hat2 := at_false n z0 (w :: re) (T [59] :: l) h10 (show ([59] : List UInt8) ≠ [40] by decide)
        have hwb : (w == kNondet) = false := by simpa using hw.nondet
        refine ⟨?_, _, _, rfl, f6, f7⟩
        rw [show TS (z :: r ++ ([[61]] ++ (w :: re)) ++ [[59]]) ++ l = TS (z :: r) ++ (T [61] :: (TS (w :: re) ++ (T [59] :: l))) by simp [TS]]
        rw [TS_cons z] at hg hat ⊢
        simp only [stmtP, hdT_T, T_text, f1, f2, f3, f4, f5, name_type hz, Bool.false_eq_true, if_true, if_false, reduceIte, Bool.or_self, actionP, hat]
        refine Rs.bind hg fun y' hy' => ?_
        rw [TS_cons] at he hat2 ⊢
        simp only [pass_T, PR.bind, hdT_T, T_text, hwb, hat2, Bool.false_eq_true, if_false, reduceIte, exprP]
        refine Rs.bind he fun e' he' => ?_
        simp only [pass_T, PR.bind]
        exact Rs.ok (sameT_mk rfl rfl rfl (sameL_two hy' he'))
      · obtain ⟨hk, h6⟩ := ifW_some h5
        obtain rfl : k = kResult := by simpa using hk
        obtain ⟨wt, u, h7, h8, rfl⟩ := catW_some h6
        obtain ⟨u, we, h9, h10, rfl⟩ := catW_some h8
        injection h9 with h9
        subst h9
        obtain ⟨hc, hat2, w, re, rfl, hw⟩ := call_rs (l := T [59] :: l) H n z0 we d h10 (fun h8 => hd (by omega)) hn.2.2.2.2.2.2.1 j
        obtain ⟨z, r, rfl, hz, hat⟩ := htg y wt (TS (w :: re) ++ (T [59] :: l)) h7
        obtain ⟨f1, f2, f3, f4, f5, f6, f7⟩ := name_facts hz
        have hg := tgt_rs H n y (z :: r) d (T [61] :: (TS (w :: re) ++ (T [59] :: l))) h7 (fun h8 => hd (by omega)) hn.2.2.2.2.2.1 (show ([61] : List UInt8) ≠ [91] by decide)
        have hwb : (w == kNondet) = false := by simpa using name_ne hw (w := kNondet) (by decide)
        refine ⟨?_, _, _, rfl, f6, f7⟩
        rw [show TS (z :: r ++ ([[61]] ++ (w :: re)) ++ [[59]]) ++ l = TS (z :: r) ++ (T [61] :: (TS (w :: re) ++ (T [59] :: l))) by simp [TS]]
        rw [TS_cons z] at hg hat ⊢
        simp only [stmtP, hdT_T, T_text, f1, f2, f3, f4, f5, name_type hz, Bool.false_eq_true, if_true, if_false, reduceIte, Bool.or_self, actionP, hat]
        refine Rs.bind hg fun y' hy' => ?_
        rw [TS_cons] at hc hat2 ⊢
        simp only [pass_T, PR.bind, hdT_T, T_text, hwb, hat2, Bool.false_eq_true, if_true, if_false, reduceIte]
        refine Rs.bind hc fun e' he' => ?_
        simp only [pass_T, PR.bind]
        exact Rs.ok (sameT_mk rfl rfl rfl (sameL_two hy' he'))
    · cases h5
/-- One behind the other, up to a word that none begins with. -/
theorem many_rs {f : Tree → Ws} {p : List Tok → PR Tree} {stop : Tok → Bool} {l : List Tok} (hs : stop (hdT l) = true) (hle : (hdT l).text ≠ kElse) : ∀ (j : Nat) (ks acc0 acc : List Tree) (ws : List (List UInt8)), manyW f ks = some ws → sameL acc0 acc = true →
    (∀ k ∈ ks, ∀ (w : List (List UInt8)) (l : List Tok), f k = some w → (hdT l).text ≠ kElse → Rs D (Same k) (p (TS w ++ l)) l ∧ ∃ v r, w = v :: r ∧ v ≠ kElse ∧ stop (T v) = false) →
    Rs D (SameL (acc0 ++ ks)) (manyP stop p j acc (TS ws ++ l)) l
  | 0, _, _, _, _, _, _, _ => Rs.out
  | j + 1, [], acc0, acc, ws, h, ha, _ => by
    injection h with h
    subst h
    rw [manyP, TS_nil, if_pos hs, List.append_nil]
    exact Rs.ok ha
  | j + 1, k :: ks, acc0, acc, ws, h, ha, hp => by
    obtain ⟨wk, wr, h3, h4, rfl⟩ := catW_some (show catW (f k) (manyW f ks) = some ws from h)
    have hl : (hdT (TS wr ++ l)).text ≠ kElse := by
      cases ks with
      | nil =>
        injection h4 with h4
        subst h4
        exact hle
      | cons k2 ks2 =>
        obtain ⟨w2, v2, h5, _, rfl⟩ := catW_some (show catW (f k2) (manyW f ks2) = some wr from h4)
        obtain ⟨_, v, r, rfl, hv, _⟩ := hp k2 (by simp) w2 l h5 hle
        exact hv
    obtain ⟨h5, v, r, rfl, hv, hst⟩ := hp k (by simp) wk (TS wr ++ l) h3 hl
    rw [TS_app, manyP, if_neg (by rw [TS_cons, hdT_T, hst]; simp)]
    refine Rs.bind h5 fun k' hk' => ?_
    have := many_rs (l := l) hs hle j ks (acc0 ++ [k]) (acc ++ [k']) wr h4 (sameL_app ha (sameL_one hk')) (fun k2 hk2 => hp k2 (by simp [hk2]))
    rw [List.append_assoc] at this
    exact this
theorem f_step (H : PM D m) (n : Nat) (t : Tree) (ws : List (List UInt8)) (d : Int) (l : List Tok) (h : runW n .block t = some ws) (hd : 60 ≤ d + 2 * (deepT t : Int) → D) (hn : Neat t) :
    Rs D (Same t) (runP (m + 1) .block d (TS ws ++ l)) l := by
  cases n with
  | zero => simp [runW] at h
  | succ n =>
  obtain ⟨k, x, nm, ln, co, ks⟩ := t
  rw [runW] at h
  simp only [stepW] at h
  rw [blockW_mk] at h
  obtain ⟨hb, h1⟩ := ifW_some h
  simp only [Bool.and_eq_true, beq_iff_eq] at hb
  obtain ⟨rfl, rfl, rfl⟩ := hb
  obtain ⟨u, v, h2, h3, rfl⟩ := catW_some h1
  injection h2 with h2
  subst h2
  obtain ⟨wm, u, h4, h5, rfl⟩ := catW_some h3
  injection h5 with h5
  subst h5
  rw [show TS ([[123]] ++ (wm ++ [[125]])) ++ l = T [123] :: (TS wm ++ (T [125] :: l)) by simp [TS], runP]
  simp only [stepP, blockP, pass_T, PR.bind]
  refine Rs.bind (many_rs (l := T [125] :: l) (stop := fun u => u.text == [125]) rfl (show ([125] : List UInt8) ≠ kElse by decide) m ks [] [] wm h4 sameL_nil fun k hk w l' hw hl' => ?_) fun ts hts => ?_
  · have hkd := kid_deep hk kBlock [] 0 ln co
    obtain ⟨h6, v, r, rfl, h7, h8⟩ := stmt_rs H n k w d l' hw (fun h8 => hd (by omega)) (NeatL.mem hn.2.2.2.2.2 k hk) hl' m
    exact ⟨h6, v, r, rfl, h7, by rw [T_text]; simpa using h8⟩
  · simp only [pass_T, PR.bind]
    exact Rs.ok (sameT_mk rfl rfl rfl hts)
end
theorem pm_all (D : Prop) : ∀ m, PM D m
  | 0 => PM.zero D
  | m + 1 => ⟨a_step (pm_all D m), b_step (pm_all D m), c_step (pm_all D m), e_step (pm_all D m), f_step (pm_all D m)⟩
end Go.Proofs.YtnalgnklgmoepaaGreatDoor
