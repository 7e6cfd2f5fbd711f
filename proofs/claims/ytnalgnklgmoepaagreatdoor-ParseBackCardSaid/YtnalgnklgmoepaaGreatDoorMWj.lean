/- What is shown of an expression is read again (plain). -/
import Derived.Test.YtnalgnklgmoepaaGreatDoorMWi
import Derived.Test.YtnalgnklgmoepaaGreatDoorMbar
set_option linter.all false
namespace Go.Proofs.YtnalgnklgmoepaaGreatDoor
open Go Go.RowKit

theorem kid_deep {t : Tree} {ks : List Tree} (h : t ∈ ks) (k x : List UInt8) (n l c : Int) : deepT t + 1 ≤ deepT (.mk k x n l c ks) := by
  have := deep_kid h 0
  rw [deepT]
  omega
theorem T_text (w : List UInt8) : (T w).text = w := rfl
theorem hdT_T (t : Tok) (l : List Tok) : hdT (t :: l) = t := rfl
/-- What an expression begins with. -/
theorem head_expr : ∀ (n : Nat) (t : Tree) (ws : List (List UInt8)), runW n .expr t = some ws → ∃ w r, ws = w :: r ∧ HeadE w := by
  intro n
  induction n with
  | zero => intro t ws h; simp [runW] at h
  | succ n ih =>
    intro t ws h
    obtain ⟨k, x, m, ln, co, ks⟩ := t
    rw [runW] at h
    simp only [stepW] at h
    rw [exprW_mk] at h
    have hop : ∀ (a : Tree) (wa : List (List UInt8)), operandW (runW n) a = some wa → ∃ w r, wa = w :: r ∧ HeadE w := by
      intro a wa ha
      unfold operandW at ha
      split at ha
      · obtain ⟨u, v, h1, h2, rfl⟩ := catW_some ha
        injection h1 with h1
        subst h1
        exact ⟨_, _, rfl, head_lit (by decide)⟩
      · exact ih a wa ha
    split at h
    · split at h
      · obtain ⟨_, h1⟩ := ifW_some h
        obtain ⟨wa, r1, h2, _, rfl⟩ := catW_some h1
        obtain ⟨w, r, rfl, hw⟩ := hop _ _ h2
        exact ⟨w, _, rfl, hw⟩
      · cases h
    split at h
    · split at h
      · obtain ⟨hb, h1⟩ := ifW_some h
        obtain ⟨u, v, h2, _, rfl⟩ := catW_some h1
        injection h2 with h2
        subst h2
        simp only [Bool.and_eq_true] at hb
        rcases unary_in hb.1 with e | e | e <;> (refine ⟨_, _, rfl, ?_⟩; rw [e]; exact head_lit (by decide))
      · cases h
    split at h
    · split at h
      · obtain ⟨_, h1⟩ := ifW_some h
        obtain ⟨u, v, h2, _, rfl⟩ := catW_some h1
        injection h2 with h2
        subst h2
        exact ⟨_, _, rfl, head_lit (by decide)⟩
      · cases h
    split at h
    · rename_i hk
      obtain ⟨_, h1⟩ := ifW_some h
      injection h1 with h1
      subst h1
      simp only [Bool.or_eq_true, beq_iff_eq] at hk
      rcases hk with rfl | rfl
      · exact ⟨_, _, rfl, head_lit (by decide)⟩
      · exact ⟨_, _, rfl, head_lit (by decide)⟩
    split at h
    · rw [numberW_mk] at h
      obtain ⟨_, h1⟩ := ifW_some h
      injection h1 with h1
      subst h1
      exact ⟨_, _, rfl, head_dec _⟩
    · rw [targetW_mk] at h
      split at h
      · split at h
        · obtain ⟨hb, h1⟩ := ifW_some h
          obtain ⟨u, v, h2, _, rfl⟩ := catW_some h1
          injection h2 with h2
          subst h2
          simp only [Bool.and_eq_true] at hb
          exact ⟨_, _, rfl, head_name hb.1⟩
        · cases h
      · obtain ⟨hb, h1⟩ := ifW_some h
        injection h1 with h1
        subst h1
        simp only [Bool.and_eq_true] at hb
        exact ⟨_, _, rfl, head_name hb.1.2.1⟩
/-- What holds of the parser's calls with so much fuel. -/
structure PM (D : Prop) (m : Nat) : Prop where
  a : ∀ (n : Nat) (t : Tree) (ws : List (List UInt8)) (d : Int) (l : List Tok), runW n .expr t = some ws → (60 ≤ d + 2 * (deepT t : Int) → D) → Neat t → levelI (hdT l).text = -1 → (hdT l).text ≠ [91] → Rs D (fun t' => sameT t t' = true) (runP m (.binary 0) d (TS ws ++ l)) l
  b : ∀ (n : Nat) (t : Tree) (ws : List (List UInt8)) (d : Int) (l : List Tok), runW n .expr t = some ws → t.kind ≠ kBinary → (60 ≤ d + 2 * (deepT t : Int) → D) → Neat t → (hdT l).text ≠ [91] → Rs D (fun t' => sameT t t' = true) (runP m .operand d (TS ws ++ l)) l
  c : ∀ (n : Nat) (t : Tree) (ws : List (List UInt8)) (d : Int) (l : List Tok), operandW (runW n) t = some ws → (60 ≤ d + 1 + 2 * (deepT t : Int) → D) → Neat t → (hdT l).text ≠ [91] → Rs D (fun t' => sameT t t' = true) (runP m .operand d (TS ws ++ l)) l
  e : ∀ (k : Int) (n : Nat) (t : Tree) (ws : List (List UInt8)) (d : Int) (l : List Tok), operandW (runW n) t = some ws → (60 ≤ d + 1 + 2 * (deepT t : Int) → D) → Neat t → levelI (hdT l).text < k → (hdT l).text ≠ [91] → Rs D (fun t' => sameT t t' = true) (runP m (.binary k) d (TS ws ++ l)) l
  f : ∀ (n : Nat) (t : Tree) (ws : List (List UInt8)) (d : Int) (l : List Tok), runW n .block t = some ws → (60 ≤ d + 2 * (deepT t : Int) → D) → Neat t → Rs D (fun t' => sameT t t' = true) (runP m .block d (TS ws ++ l)) l
theorem PM.zero (D : Prop) : PM D 0 := ⟨fun _ _ _ _ _ _ _ _ _ _ => Rs.out, fun _ _ _ _ _ _ _ _ _ _ => Rs.out, fun _ _ _ _ _ _ _ _ _ => Rs.out, fun _ _ _ _ _ _ _ _ _ _ _ => Rs.out, fun _ _ _ _ _ _ _ _ => Rs.out⟩
theorem lev_close {w : List UInt8} (h : levelI w = -1 ∧ w ≠ [91]) (l : List Tok) : levelI (hdT (T w :: l)).text = -1 ∧ (hdT (T w :: l)).text ≠ [91] := h
section
variable {D : Prop} {m : Nat}
theorem tgt_rs (H : PM D m) (n : Nat) (t : Tree) (ws : List (List UInt8)) (d : Int) (l : List Tok) (h : targetW (runW n) t = some ws) (hd : 60 ≤ d + 2 * (deepT t : Int) → D) (hn : Neat t) (hl : (hdT l).text ≠ [91]) :
    Rs D (fun t' => sameT t t' = true) (targetP (runP m) d (TS ws ++ l)) l := by
  obtain ⟨k, x, nm, ln, co, ks⟩ := t
  rw [targetW_mk] at h
  split at h
  · rename_i hk
    obtain rfl : k = kIndex := by simpa using hk
    split at h
    · rename_i e
      obtain ⟨hb, h1⟩ := ifW_some h
      obtain ⟨u, v, h2, h3, rfl⟩ := catW_some h1
      injection h2 with h2
      subst h2
      obtain ⟨we, v2, h4, h5, rfl⟩ := catW_some h3
      injection h5 with h5
      subst h5
      simp only [Bool.and_eq_true, beq_iff_eq] at hb
      obtain ⟨hx, rfl⟩ := hb
      have hke := kid_deep (t := e) (ks := [e]) (by simp) kIndex x 0 ln co
      rw [show TS ([x, [91]] ++ (we ++ [[93]])) ++ l = T x :: T [91] :: (TS we ++ (T [93] :: l)) by simp [TS]]
      simp only [targetP, takeP, hdT_T, T_text, name_kind hx, if_true, reduceIte, PR.bind, pass_T, beq_self_eq_true]
      refine Rs.bind (l := T [93] :: l) (rs_deeper (fun h6 => hd (by omega)) (H.a n e we (d + 1) _ h4 (fun h6 => hd (by omega)) hn.2.2.2.2.2.1 (show levelI [93] = -1 by decide) (show ([93] : List UInt8) ≠ [91] by decide))) fun e' he' => ?_
      simp only [pass_T, PR.bind]
      exact Rs.ok (sameT_mk rfl rfl rfl (sameL_one he'))
    · cases h
  · obtain ⟨hb, h1⟩ := ifW_some h
    injection h1 with h1
    subst h1
    simp only [Bool.and_eq_true, beq_iff_eq, List.length_eq_zero_iff] at hb
    obtain ⟨⟨rfl, hx, rfl⟩, rfl⟩ := hb
    rw [show TS [x] ++ l = T x :: l by simp [TS]]
    have hlb : ((hdT l).text == [91]) = false := by simpa using hl
    simp only [targetP, takeP, hdT_T, T_text, name_kind hx, if_true, reduceIte, PR.bind, hlb, Bool.false_eq_true, if_false]
    exact Rs.ok (sameT_mk rfl rfl rfl sameL_nil)
theorem T_sign (b : UInt8) (r : List UInt8) (h1 : letB b.toNat = false) (h2 : ¬ digI b.toNat < 10) : (T (b :: r)).kind = 2 := by
  unfold T firstK
  simp [h1, h2]
theorem op_kind (w : List UInt8) (l : List Tok) (h : firstK w ≠ 1) : ((hdT (T w :: l)).kind == 1) = false := by
  rw [hdT_T]
  unfold T
  simpa using h
theorem name_first {x : List UInt8} (h : isNameL x = true) : firstK x = 0 := by
  obtain ⟨b, r, rfl, hb, _⟩ := name_parts h
  simp [firstK, hb]
/-- .. b, one fuel more. -/
theorem b_step (H : PM D m) (n : Nat) (t : Tree) (ws : List (List UInt8)) (d : Int) (l : List Tok) (h : runW n .expr t = some ws) (hkb : t.kind ≠ kBinary) (hd : 60 ≤ d + 2 * (deepT t : Int) → D) (hn : Neat t) (hl : (hdT l).text ≠ [91]) :
    Rs D (fun t' => sameT t t' = true) (runP (m + 1) .operand d (TS ws ++ l)) l := by
  cases n with
  | zero => simp [runW] at h
  | succ n =>
  have hh := h
  obtain ⟨k, x, nm, ln, co, ks⟩ := t
  rw [runW] at h
  simp only [stepW] at h
  rw [exprW_mk] at h
  simp only [Tree.kind] at hkb
  rw [runP]
  simp only [stepP]
  rw [if_neg (by simpa using hkb)] at h
  split at h
  · rename_i hk
    obtain rfl : k = kUnary := by simpa using hk
    split at h
    · rename_i a
      obtain ⟨hb, h1⟩ := ifW_some h
      obtain ⟨u, wa, h2, h3, rfl⟩ := catW_some h1
      injection h2 with h2
      subst h2
      simp only [Bool.and_eq_true, beq_iff_eq] at hb
      obtain ⟨hu, rfl⟩ := hb
      have hke := kid_deep (t := a) (ks := [a]) (by simp) kUnary x 0 ln co
      rw [show TS ([x] ++ wa) ++ l = T x :: (TS wa ++ l) by simp [TS]]
      have hk1 : ((T x).kind == 1) = false := by rcases unary_in hu with e | e | e <;> rw [e] <;> decide
      have hk2 : (x == kTrue) = false := by rcases unary_in hu with e | e | e <;> rw [e] <;> decide
      have hk3 : (x == kFalse) = false := by rcases unary_in hu with e | e | e <;> rw [e] <;> decide
      simp only [operandP, takeP, hdT_T, T_text, hk1, hk2, hk3, hu, Bool.false_eq_true, if_true, if_false, reduceIte, PR.bind, Bool.or_self]
      exact Rs.bind (l := l) (rs_deeper (fun h6 => hd (by omega)) (H.c n a wa (d + 1) l h3 (fun h6 => hd (by omega)) hn.2.2.2.2.2.1 hl)) fun e' he' => Rs.ok (sameT_mk rfl rfl rfl (sameL_one he'))
    · cases h
  split at h
  · rename_i hk
    obtain rfl : k = kCast := by simpa using hk
    split at h
    · rename_i a
      obtain ⟨hb, h1⟩ := ifW_some h
      obtain ⟨u, wa, h2, h3, rfl⟩ := catW_some h1
      injection h2 with h2
      subst h2
      simp only [Bool.and_eq_true, beq_iff_eq] at hb
      obtain ⟨hu, rfl⟩ := hb
      have hke := kid_deep (t := a) (ks := [a]) (by simp) kCast x 0 ln co
      rw [show TS ([[40], x, [41]] ++ wa) ++ l = T [40] :: T x :: T [41] :: (TS wa ++ l) by simp [TS]]
      simp only [operandP, parenP, takeP, hdT_T, T_text, show ((T [40]).kind == 1) = false by decide, show (([40] : List UInt8) == kTrue) = false by decide, show (([40] : List UInt8) == kFalse) = false by decide, show unaryB [40] = false by decide, hu, Bool.false_eq_true, if_true, if_false, reduceIte, PR.bind, Bool.or_self, beq_self_eq_true, pass_T]
      exact Rs.bind (l := l) (rs_deeper (fun h6 => hd (by omega)) (H.c n a wa (d + 1) l h3 (fun h6 => hd (by omega)) hn.2.2.2.2.2.1 hl)) fun e' he' => Rs.ok (sameT_mk rfl rfl rfl (sameL_one he'))
    · cases h
  split at h
  · rename_i hk
    obtain ⟨hb, h1⟩ := ifW_some h
    injection h1 with h1
    subst h1
    simp only [Bool.and_eq_true, beq_iff_eq, List.length_eq_zero_iff] at hb
    obtain ⟨⟨rfl, rfl⟩, rfl⟩ := hb
    rw [show TS [k] ++ l = T k :: l by simp [TS]]
    have hk1 : ((T k).kind == 1) = false := by simp only [Bool.or_eq_true, beq_iff_eq] at hk; rcases hk with rfl | rfl <;> decide
    simp only [operandP, takeP, hdT_T, T_text, hk1, hk, Bool.false_eq_true, if_true, if_false, reduceIte, PR.bind]
    exact Rs.ok (sameT_mk rfl rfl rfl sameL_nil)
  split at h
  · rename_i hk
    obtain rfl : k = kNum := by simpa using hk
    rw [numberW_mk] at h
    obtain ⟨hb, h1⟩ := ifW_some h
    injection h1 with h1
    subst h1
    simp only [Bool.and_eq_true, beq_iff_eq, List.length_eq_zero_iff] at hb
    obtain ⟨_, rfl, rfl⟩ := hb
    obtain ⟨u, rfl⟩ : ∃ u : Nat, nm = u := ⟨nm.toNat, by have := hn.2.2.1; omega⟩
    have hu : u ≤ 18446744073709551615 := by have := hn.2.2.2.1; omega
    rw [show TS [Lib.decDigits (u : Int).toNat] ++ l = T (Lib.decDigits u) :: l by simp [TS], T_dec u hu]
    simp only [operandP, numberP, takeP, hdT_T, beq_self_eq_true, if_true, reduceIte, PR.bind]
    exact Rs.ok (sameT_mk rfl rfl rfl sameL_nil)
  · have ht : targetW (runW n) (.mk k x nm ln co ks) = some ws := h
    -- a name comes first
    have hx : isNameL x = true ∧ ∃ r, ws = x :: r := by
      rw [targetW_mk] at h
      split at h
      · split at h
        · obtain ⟨hb, h1⟩ := ifW_some h
          obtain ⟨u, v, h2, _, rfl⟩ := catW_some h1
          injection h2 with h2
          subst h2
          simp only [Bool.and_eq_true] at hb
          exact ⟨hb.1, _, rfl⟩
        · cases h
      · obtain ⟨hb, h1⟩ := ifW_some h
        injection h1 with h1
        subst h1
        simp only [Bool.and_eq_true] at hb
        exact ⟨hb.1.2.1, _, rfl⟩
    obtain ⟨hx, r, rfl⟩ := hx
    have hg := tgt_rs H n _ (x :: r) d l ht hd hn hl
    rw [TS_cons] at hg ⊢
    have hk1 : ((T x).kind == 1) = false := by unfold T; rw [name_first hx]; rfl
    have hk2 : (x == kTrue) = false := by simpa using name_ne hx (w := kTrue) (by decide)
    have hk3 : (x == kFalse) = false := by simpa using name_ne hx (w := kFalse) (by decide)
    have hk4 : unaryB x = false := by
      cases hu : unaryB x with
      | false => rfl
      | true => rcases unary_in hu with e | e | e <;> (rw [e] at hx; exact absurd hx (by decide))
    have hk5 : (x == [40]) = false := by simpa using name_ne hx (w := [40]) (by decide)
    simp only [operandP, hdT_T, T_text, hk1, hk2, hk3, hk4, hk5, Bool.false_eq_true, if_false, reduceIte, Bool.or_self]
    exact hg
theorem head_operand {n : Nat} {t : Tree} {ws : List (List UInt8)} (h : operandW (runW n) t = some ws) : ∃ w r, ws = w :: r ∧ HeadE w := by
  unfold operandW at h
  split at h
  · obtain ⟨u, v, h1, h2, rfl⟩ := catW_some h
    injection h1 with h1
    subst h1
    exact ⟨_, _, rfl, head_lit (by decide)⟩
  · exact head_expr n t ws h
theorem c_step (H : PM D m) (n : Nat) (t : Tree) (ws : List (List UInt8)) (d : Int) (l : List Tok) (h : operandW (runW n) t = some ws) (hd : 60 ≤ d + 1 + 2 * (deepT t : Int) → D) (hn : Neat t) (hl : (hdT l).text ≠ [91]) :
    Rs D (fun t' => sameT t t' = true) (runP (m + 1) .operand d (TS ws ++ l)) l := by
  unfold operandW at h
  split at h
  · obtain ⟨u, v, h1, h2, rfl⟩ := catW_some h
    injection h1 with h1
    subst h1
    obtain ⟨we, v2, h3, h4, rfl⟩ := catW_some h2
    injection h4 with h4
    subst h4
    obtain ⟨w, r, rfl, hw⟩ := head_expr n t we h3
    have hdp : 1 ≤ deepT t := by cases t; rw [deepT]; omega
    rw [runP]
    have hg := H.a n t (w :: r) (d + 1) (T [41] :: l) h3 (fun h6 => hd (by omega)) hn (show levelI [41] = -1 by decide) (show ([41] : List UInt8) ≠ [91] by decide)
    rw [show TS ([[40]] ++ (w :: r ++ [[41]])) ++ l = T [40] :: (TS (w :: r) ++ (T [41] :: l)) by simp [TS]]
    have ht : typeB (hdT (TS (w :: r) ++ (T [41] :: l))).text = false := hw.type
    simp only [stepP, operandP, parenP, takeP, hdT_T, T_text, show ((T [40]).kind == 1) = false by decide, show (([40] : List UInt8) == kTrue) = false by decide, show (([40] : List UInt8) == kFalse) = false by decide, show unaryB [40] = false by decide, ht, Bool.false_eq_true, if_true, if_false, reduceIte, PR.bind, Bool.or_self, beq_self_eq_true]
    refine Rs.bind (l := T [41] :: l) (rs_deeper (fun h6 => hd (by omega)) hg) fun e' he' => ?_
    simp only [pass_T, PR.bind]
    exact Rs.ok he'
  · rename_i hk
    simp only [Bool.or_eq_true, beq_iff_eq, not_or] at hk
    exact b_step H n t ws d l h hk.1 (fun h6 => hd (by omega)) hn hl
theorem loop_stop {k d : Int} {left : Tree} {l : List Tok} {S : Tree → Prop} (rec : NT → Int → List Tok → PR Tree) (h : levelI (hdT l).text < k) (hS : S left) : ∀ j, Rs D S (binLoop rec k d j left l) l
  | 0 => Rs.out
  | j + 1 => by rw [binLoop, if_pos h]; exact Rs.ok hS
theorem e_step (H : PM D m) (k : Int) (n : Nat) (t : Tree) (ws : List (List UInt8)) (d : Int) (l : List Tok) (h : operandW (runW n) t = some ws) (hd : 60 ≤ d + 1 + 2 * (deepT t : Int) → D) (hn : Neat t) (hk : levelI (hdT l).text < k) (hl : (hdT l).text ≠ [91]) :
    Rs D (fun t' => sameT t t' = true) (runP (m + 1) (.binary k) d (TS ws ++ l)) l := by
  rw [runP]
  simp only [stepP, binaryP]
  exact Rs.bind (H.c n t ws d l h hd hn hl) fun e' he' => loop_stop _ hk he' m
theorem op_ne {x : List UInt8} (h : 0 ≤ levelI x) (w : List UInt8) (hw : levelI w < 0) : x ≠ w := fun e => by rw [e] at h; omega
theorem a_step (H : PM D m) (n : Nat) (t : Tree) (ws : List (List UInt8)) (d : Int) (l : List Tok) (h : runW n .expr t = some ws) (hd : 60 ≤ d + 2 * (deepT t : Int) → D) (hn : Neat t) (hv : levelI (hdT l).text = -1) (hl : (hdT l).text ≠ [91]) :
    Rs D (fun t' => sameT t t' = true) (runP (m + 1) (.binary 0) d (TS ws ++ l)) l := by
  by_cases hkb : t.kind = kBinary
  · cases n with
    | zero => simp [runW] at h
    | succ n =>
    obtain ⟨k, x, nm, ln, co, ks⟩ := t
    obtain rfl : k = kBinary := hkb
    rw [runW] at h
    simp only [stepW] at h
    rw [exprW_mk] at h
    rw [if_pos (by decide)] at h
    split at h
    · rename_i a b
      obtain ⟨hb, h1⟩ := ifW_some h
      obtain ⟨wa, v, h2, h3, rfl⟩ := catW_some h1
      obtain ⟨u, wb, h4, h5, rfl⟩ := catW_some h3
      injection h4 with h4
      subst h4
      simp only [Bool.and_eq_true, decide_eq_true_eq, beq_iff_eq] at hb
      obtain ⟨hlv, rfl⟩ := hb
      have hka := kid_deep (t := a) (ks := [a, b]) (by simp) kBinary x 0 ln co
      have hkb := kid_deep (t := b) (ks := [a, b]) (by simp) kBinary x 0 ln co
      rw [runP]
      simp only [stepP, binaryP]
      rw [show TS (wa ++ ([x] ++ wb)) ++ l = TS wa ++ (T x :: (TS wb ++ l)) by simp [TS]]
      refine Rs.bind (l := T x :: (TS wb ++ l)) (H.c n a wa d _ h2 (fun h6 => hd (by omega)) hn.2.2.2.2.2.1 (op_ne hlv [91] (by decide))) fun a' ha' => ?_
      cases m with
      | zero => exact Rs.out
      | succ j =>
        rw [binLoop, if_neg (by rw [hd_T]; omega), take_T]
        simp only [PR.bind]
        refine Rs.bind (l := l) (H.e _ n b wb d l h5 (fun h6 => hd (by omega)) hn.2.2.2.2.2.2.1 (by rw [hv, hd_T]; omega) hl) fun b' hb' => ?_
        exact loop_stop _ (by omega) (sameT_mk rfl rfl rfl (sameL_two ha' hb')) j
    · cases h
  · rw [runP]
    simp only [stepP, binaryP]
    exact Rs.bind (H.b n t ws d l h hkb hd hn hl) fun e' he' => loop_stop _ (by omega) he' m
end
end Go.Proofs.YtnalgnklgmoepaaGreatDoor
