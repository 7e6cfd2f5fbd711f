/- Where tokens stand, in the model. -/
import Derived.Test.YtilfganjpgkjdaaDoorLv
namespace Go.Proofs.YtilfganjpgkjdaaDoor
open Go

theorem adv_append (x y : List UInt8) (ln c : Int) : advL (x ++ y) ln c = advL y (advL x ln c).1 (advL x ln c).2 := by
  induction x generalizing ln c with
  | nil => rfl
  | cons b r ih =>
    rw [List.cons_append, advL, advL]
    by_cases h : (b.toNat : Int) = 10
    · rw [if_pos h, if_pos h]; exact ih _ _
    · rw [if_neg h, if_neg h]; exact ih _ _
theorem adv_ge (l : List UInt8) (ln c : Int) : ln < (advL l ln c).1 ∨ ((advL l ln c).1 = ln ∧ (advL l ln c).2 = c + l.length) := by
  induction l generalizing ln c with
  | nil => right; simp [advL]
  | cons b r ih =>
    rw [advL]
    by_cases h : (b.toNat : Int) = 10
    · rw [if_pos h]; have := ih (ln + 1) 1; omega
    · rw [if_neg h, List.length_cons]; have := ih ln (c + 1); omega
/-- The place of a byte. -/
def at_ (s : List UInt8) (p : Nat) : Int × Int := advL (s.take p) 1 1
theorem at_add (s : List UInt8) (p n : Nat) : at_ s (p + n) = advL ((s.drop p).take n) (at_ s p).1 (at_ s p).2 := by
  unfold at_
  rw [List.take_add, adv_append]
theorem at_inj {s : List UInt8} {p q : Nat} (hp : p ≤ s.length) (hq : q ≤ s.length) (h : at_ s p = at_ s q) : p = q := by
  have key : ∀ a b : Nat, a < b → b ≤ s.length → at_ s a = at_ s b → False := fun a b hab hb he => by
    obtain ⟨n, rfl⟩ : ∃ n, b = a + n := ⟨b - a, by omega⟩
    rw [at_add] at he
    have hl : ((s.drop a).take n).length = n := by rw [List.length_take, List.length_drop]; omega
    have := adv_ge ((s.drop a).take n) (at_ s a).1 (at_ s a).2
    rw [hl] at this
    generalize advL ((s.drop a).take n) (at_ s a).1 (at_ s a).2 = x at *
    rw [he] at this
    omega
  rcases Nat.lt_trichotomy p q with h1 | h1 | h1
  · exact (key p q h1 hq h).elim
  · exact h1
  · exact (key q p h1 hp h.symm).elim
theorem at_step {s : List UInt8} {p : Nat} (h : p < s.length) : at_ s (p + 1) = if (s[p].toNat : Int) = 10 then ((at_ s p).1 + 1, 1) else ((at_ s p).1, (at_ s p).2 + 1) := by
  unfold at_
  rw [List.take_succ_eq_append_getElem h, adv_snoc]

/-- Tokens that stand where they say, from a place on, one behind the other, the end last. -/
inductive Lies (s : List UInt8) : Nat → List Tok → Prop
  | fin (p : Nat) (t : Tok) (hp : p ≤ s.length) (hk : t.kind = 3) (ht : t.text = []) (ha : at_ s s.length = (t.line, t.col)) : Lies s p [t]
  | tok (p q : Nat) (t : Tok) (r : List Tok) (hpq : p ≤ q) (hq : q + t.text.length ≤ s.length) (h0 : 0 < t.text.length) (hk : ¬ t.kind = 3) (ht : (s.drop q).take t.text.length = t.text)
      (ha : at_ s q = (t.line, t.col)) (hr : Lies s (q + t.text.length) r) : Lies s p (t :: r)
theorem Lies.le {s : List UInt8} {p p' : Nat} {l : List Tok} (h : Lies s p l) (hp : p' ≤ p) : Lies s p' l := by
  cases h with
  | fin _ t h1 h2 h3 h4 => exact .fin p' t (by omega) h2 h3 h4
  | tok _ q t r h1 h2 h3 h4 h5 h6 h7 => exact .tok p' q t r (by omega) h2 h3 h4 h5 h6 h7
theorem skip_at (n : Nat) (s : List UInt8) (p : Nat) (hp : p ≤ s.length) (hn : s.length - p ≤ n) :
    ∃ q, p ≤ q ∧ q ≤ s.length ∧ skipL (s.drop p) (at_ s p).1 (at_ s p).2 = (s.drop q, (at_ s q).1, (at_ s q).2) := by
  induction n generalizing p with
  | zero =>
    have e : s.drop p = [] := List.drop_of_length_le (by omega)
    exact ⟨p, Nat.le_refl _, hp, by rw [e, skip_stop gap_nil]⟩
  | succ n ih =>
    by_cases h : gapL (s.drop p) = 0
    · exact ⟨p, Nat.le_refl _, hp, skip_stop h⟩
    · have hg := gap_le (s.drop p)
      rw [List.length_drop] at hg
      rw [skip_go h, List.drop_drop, ← at_add]
      obtain ⟨q, h1, h2, h3⟩ := ih (p + gapL (s.drop p)) (by omega) (by omega)
      exact ⟨q, by omega, h2, h3⟩
theorem lies_of (n : Nat) (s : List UInt8) (p : Nat) (ts : List Tok) (hp : p ≤ s.length) (hn : s.length - p ≤ n) (h : lexG (s.drop p) (at_ s p).1 (at_ s p).2 = .ok ts) : Lies s p ts := by
  induction n generalizing p ts with
  | zero =>
    obtain rfl : p = s.length := by omega
    rw [List.drop_of_length_le (Nat.le_refl _), lex_end (by rw [skip_stop gap_nil])] at h
    cases h
    exact .fin _ _ hp rfl rfl rfl
  | succ n ih =>
    obtain ⟨q, h1, h2, h3⟩ := skip_at _ s p hp (Nat.le_refl _)
    by_cases h0 : s.drop q = []
    · have hq : q = s.length := by
        have := congrArg List.length h0
        rw [List.length_drop] at this
        simp at this
        omega
      rw [h0] at h3
      rw [lex_end h3.symm] at h
      cases h
      exact .fin _ _ hp rfl rfl (by rw [hq])
    · by_cases he : tokE (s.drop q) = 0
      · rw [lex_tok h3.symm h0 he] at h
        have hpos := tok_pos he
        have hle := first_le (s.drop q)
        rw [List.length_drop] at hle
        rw [List.drop_drop, ← at_add] at h
        cases hr : lexG (s.drop (q + firstN (s.drop q))) (at_ s (q + firstN (s.drop q))).1 (at_ s (q + firstN (s.drop q))).2 with
        | bad a b c => rw [hr] at h; cases h
        | ok ts' =>
          rw [hr] at h
          cases h
          have htl : ((s.drop q).take (firstN (s.drop q))).length = firstN (s.drop q) := by rw [List.length_take, List.length_drop]; omega
          have hL := ih (q + firstN (s.drop q)) ts' (by omega) (by omega) hr
          refine .tok p q _ ts' h1 ?_ ?_ (firstK_ne _) ?_ rfl ?_
          · show q + ((s.drop q).take (firstN (s.drop q))).length ≤ s.length
            omega
          · show 0 < ((s.drop q).take (firstN (s.drop q))).length
            omega
          · show (s.drop q).take ((s.drop q).take (firstN (s.drop q))).length = (s.drop q).take (firstN (s.drop q))
            rw [htl]
          · show Lies s (q + ((s.drop q).take (firstN (s.drop q))).length) ts'
            rw [htl]
            exact hL
      · rw [lex_bad h3.symm h0 he] at h
        cases h
/-- A place where the next token doesn't stand: it stands further on. -/
theorem Lies.miss {s : List UInt8} {i : Nat} {t : Tok} {r : List Tok} (h : Lies s i (t :: r)) (hi : i ≤ s.length) (hm : ¬ at_ s i = (t.line, t.col)) : i < s.length ∧ Lies s (i + 1) (t :: r) := by
  cases h with
  | fin _ _ h1 h2 h3 h4 =>
    have hne : i ≠ s.length := fun e => hm (by rw [e]; exact h4)
    exact ⟨by omega, .fin _ _ (by omega) h2 h3 h4⟩
  | tok _ q _ _ h1 h2 h3 h4 h5 h6 h7 =>
    have hne : i ≠ q := fun e => hm (by rw [e]; exact h6)
    exact ⟨by omega, .tok _ q _ _ (by omega) h2 h3 h4 h5 h6 h7⟩
/-- A place where the next token stands. -/
theorem Lies.hit {s : List UInt8} {i : Nat} {t : Tok} {r : List Tok} (h : Lies s i (t :: r)) (hi : i ≤ s.length) (hm : at_ s i = (t.line, t.col)) :
    i + t.text.length ≤ s.length ∧ (s.drop i).take t.text.length = t.text ∧ ((t.kind = 3 ∧ t.text = [] ∧ i = s.length ∧ r = []) ∨ (¬ t.kind = 3 ∧ 0 < t.text.length ∧ i < s.length ∧ Lies s (i + 1) r)) := by
  cases h with
  | fin _ _ h1 h2 h3 h4 =>
    have e : i = s.length := at_inj hi (Nat.le_refl _) (hm.trans h4.symm)
    refine ⟨by rw [h3]; simpa using hi, by rw [h3]; simp, .inl ⟨h2, h3, e, rfl⟩⟩
  | tok _ q _ _ h1 h2 h3 h4 h5 h6 h7 =>
    have e : i = q := at_inj hi (by omega) (hm.trans h6.symm)
    subst e
    exact ⟨h2, h5, .inr ⟨h4, h3, by omega, h7.le (by omega)⟩⟩
theorem Lies.pos {s : List UInt8} {i : Nat} {l : List Tok} (h : Lies s i l) : l ≠ [] := by
  cases h <;> simp
theorem Lies.last {s : List UInt8} {i : Nat} {l : List Tok} (h : Lies s i l) : ∃ a t, l = a ++ [t] ∧ t.kind = 3 := by
  induction h with
  | fin p t _ hk _ _ => exact ⟨[], t, rfl, hk⟩
  | tok p q t r _ _ _ _ _ _ _ ih =>
    obtain ⟨a, u, e, hk⟩ := ih
    exact ⟨t :: a, u, by rw [e]; rfl, hk⟩
end Go.Proofs.YtilfganjpgkjdaaDoor
