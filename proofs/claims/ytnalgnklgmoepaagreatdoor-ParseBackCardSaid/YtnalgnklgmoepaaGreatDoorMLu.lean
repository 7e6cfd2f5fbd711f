/- The model's tokens without their places: what stands between tokens doesn't matter; what is shown is read again. -/
import Derived.Test.YtnalgnklgmoepaaGreatDoorMbar
set_option linter.all false
namespace Go.Proofs.YtnalgnklgmoepaaGreatDoor
open Go

/-- A token without its place. -/
structure Bare where
  kind : Int
  text : List UInt8
  num : Int
def Tok.bare (t : Tok) : Bare := ⟨t.kind, t.text, t.num⟩
def Res.bare : Res → Option (List Bare)
  | .bad _ _ _ => none
  | .ok l => some (l.map Tok.bare)
theorem skipF_place (n : Nat) (l : List UInt8) (ln c ln' c' : Int) : (skipF n l ln c).1 = (skipF n l ln' c').1 := by
  induction n generalizing l ln c ln' c' with
  | zero => rfl
  | succ n ih =>
    rw [skipF, skipF]
    by_cases h : gapL l = 0
    · rw [if_pos h, if_pos h]
    · rw [if_neg h, if_neg h]
      exact ih _ _ _ _ _
/-- What is left behind the gap. -/
def strip (l : List UInt8) : List UInt8 := (skipL l 1 1).1
theorem skip_strip (l : List UInt8) (ln c : Int) : (skipL l ln c).1 = strip l := skipF_place _ _ _ _ _ _
theorem bare_cons (t : Tok) (x : Res) : (x.cons t).bare = x.bare.map (t.bare :: ·) := by
  cases x <;> simp [Res.cons, Res.bare]
def tokB (l : List UInt8) : Bare := ⟨firstK l, l.take (firstN l), if firstK l = 1 then (numL (l.take (firstN l))).getD 0 else 0⟩
theorem lexF_place (n : Nat) (l : List UInt8) (ln c ln' c' : Int) : (lexF n l ln c).bare = (lexF n l ln' c').bare := by
  induction n generalizing l ln c ln' c' with
  | zero => rfl
  | succ n ih =>
    rw [lexF, lexF]
    have e := skipF_place l.length l ln c ln' c'
    generalize skipF l.length l ln c = s at *
    generalize skipF l.length l ln' c' = s' at *
    obtain ⟨s1, s2, s3⟩ := s
    obtain ⟨t1, t2, t3⟩ := s'
    simp only at e
    subst e
    by_cases h1 : s1 = []
    · simp [h1, Res.bare, Tok.bare]
    · by_cases h2 : tokE s1 = 0
      · simp only [if_neg h1, if_pos h2]
        rw [bare_cons, bare_cons, ih]
        rfl
      · simp [h1, h2, Res.bare]
def bareL (l : List UInt8) : Option (List Bare) := (lexG l 1 1).bare
theorem bare_place (l : List UInt8) (ln c : Int) : (lexG l ln c).bare = bareL l := lexF_place _ _ _ _ _ _
theorem bareL_eq (l : List UInt8) : bareL l = if strip l = [] then some [⟨3, [], 0⟩] else if tokE (strip l) = 0 then (bareL ((strip l).drop (firstN (strip l)))).map (tokB (strip l) :: ·) else none := by
  conv => lhs; unfold bareL; rw [lexG_eq]
  rw [show (skipL l 1 1).1 = strip l from rfl]
  by_cases h1 : strip l = []
  · rw [if_pos h1, if_pos h1]; rfl
  · by_cases h2 : tokE (strip l) = 0
    · rw [if_neg h1, if_neg h1, if_pos h2, if_pos h2, bare_cons, bare_place]; rfl
    · rw [if_neg h1, if_neg h1, if_neg h2, if_neg h2]; rfl
theorem strip_stop {l : List UInt8} (h : gapL l = 0) : strip l = l := by unfold strip; rw [skip_stop h]
theorem strip_go {l : List UInt8} (h : ¬ gapL l = 0) : strip l = strip (l.drop (gapL l)) := by
  conv => lhs; unfold strip; rw [skip_go h]
  exact skip_strip _ _ _
theorem blank_cmt {b : UInt8} {l : List UInt8} (h : blankB (b.toNat : Int) = true) : Lib.hasPrefix (b :: l) cmt = false := by
  unfold Lib.hasPrefix cmt
  rw [List.isPrefixOf]
  have : ((47 : UInt8) == b) = false := by
    rw [beq_eq_false_iff_ne]
    intro e
    subst e
    exact absurd h (by decide)
  rw [this]
  rfl
theorem strip_blank {b : UInt8} {l : List UInt8} (h : blankB (b.toNat : Int) = true) : strip (b :: l) = strip l := by
  have hg : gapL (b :: l) = spanL blankB l + 1 := by
    unfold gapL
    rw [blank_cmt h, if_neg (by decide), spanL, if_pos h]
  rw [strip_go (by omega), hg, List.drop_succ_cons]
  by_cases h0 : spanL blankB l = 0
  · rw [h0, List.drop_zero]
  · cases l with
    | nil => exact absurd rfl h0
    | cons a r =>
      have ha : blankB (a.toNat : Int) = true := by
        cases hb : blankB (a.toNat : Int) with
        | true => rfl
        | false => rw [spanL, hb] at h0; exact absurd rfl h0
      have hg2 : gapL (a :: r) = spanL blankB (a :: r) := by
        unfold gapL
        rw [blank_cmt ha, if_neg (by decide)]
      rw [strip_go (l := a :: r) (by omega), hg2]
theorem bare_strip {l l' : List UInt8} (h : strip l = strip l') : bareL l = bareL l' := by rw [bareL_eq, bareL_eq l', h]
theorem bare_blank {b : UInt8} {l : List UInt8} (h : blankB (b.toNat : Int) = true) : bareL (b :: l) = bareL l := bare_strip (strip_blank h)
theorem bare_cmt {l : List UInt8} (h : Lib.hasPrefix l cmt = true) : bareL l = bareL (l.drop (spanL inkB l)) := by
  have hg : gapL l = spanL inkB l := by unfold gapL; rw [if_pos h]
  by_cases h0 : gapL l = 0
  · rw [← hg, h0, List.drop_zero]
  · refine bare_strip ?_
    rw [strip_go h0, hg]
theorem gap_ink {b : UInt8} {l : List UInt8} (h : blankB (b.toNat : Int) = false) (hc : Lib.hasPrefix (b :: l) cmt = false) : gapL (b :: l) = 0 := by
  unfold gapL
  rw [hc, if_neg (by decide), spanL, h]
  rfl
/-- A text that begins with a token. -/
theorem bare_tok {b : UInt8} {l : List UInt8} (h : blankB (b.toNat : Int) = false) (hc : Lib.hasPrefix (b :: l) cmt = false) :
    bareL (b :: l) = if tokE (b :: l) = 0 then (bareL ((b :: l).drop (firstN (b :: l)))).map (tokB (b :: l) :: ·) else none := by
  rw [bareL_eq, strip_stop (gap_ink h hc), if_neg (by simp)]

theorem span_append {p : Int → Bool} (l : List UInt8) {y : List UInt8} (hy : spanL p y = 0) : spanL p (l ++ y) = spanL p l := by
  induction l with
  | nil => exact hy
  | cons a r ih => rw [List.cons_append, spanL, spanL, ih]
theorem prefix_append {b : UInt8} {z : List UInt8} (g s : List UInt8) (hg : b ∉ g) : Lib.hasPrefix (s ++ b :: z) g = Lib.hasPrefix s g := by
  unfold Lib.hasPrefix
  induction g generalizing s with
  | nil => simp
  | cons a r ih =>
    cases s with
    | nil =>
      have : (a == b) = false := by
        rw [beq_eq_false_iff_ne]
        intro e
        subst e
        exact hg (by simp)
      show ((a == b) && r.isPrefixOf z) = false
      rw [this]
      rfl
    | cons c t =>
      rw [List.cons_append, List.isPrefixOf, List.isPrefixOf, ih t (fun h => hg (by simp [h]))]
theorem sign_append {b : UInt8} {z : List UInt8} (s : List UInt8) (gs : List (List UInt8)) (hg : ∀ g ∈ gs, b ∉ g) : signFrom (s ++ b :: z) gs = signFrom s gs := by
  induction gs with
  | nil => rfl
  | cons g r ih =>
    rw [signFrom, signFrom, prefix_append g s (hg g (by simp)), ih (fun x hx => hg x (by simp [hx]))]
theorem blank_cases {b : UInt8} (h : blankB (b.toNat : Int) = true) : b = 32 ∨ b = 9 ∨ b = 13 ∨ b = 10 := by
  unfold blankB at h
  have h := of_decide_eq_true h
  have e : ∀ n : Nat, n < 256 → (b.toNat : Int) = (n : Int) → b = UInt8.ofNat n := fun n hn he => by
    apply UInt8.toNat_inj.mp
    rw [UInt8.toNat_ofNat']
    omega
  rcases h with h | h | h | h
  · exact .inl (e 32 (by decide) h)
  · exact .inr (.inl (e 9 (by decide) h))
  · exact .inr (.inr (.inl (e 13 (by decide) h)))
  · exact .inr (.inr (.inr (e 10 (by decide) h)))
theorem signs_blank {b : UInt8} (h : blankB (b.toNat : Int) = true) : ∀ g ∈ signsL, b ∉ g := by
  rcases blank_cases h with rfl | rfl | rfl | rfl <;> decide
theorem blank_part {b : UInt8} {z : List UInt8} (h : blankB (b.toNat : Int) = true) : spanL partB (b :: z) = 0 := by
  rcases blank_cases h with rfl | rfl | rfl | rfl <;> rfl

/-- No two strokes in a row. -/
def noCmt : List UInt8 → Bool
  | a :: b :: r => !(a == 47 && b == 47) && noCmt (b :: r)
  | _ => true
theorem noCmt_tail {a : UInt8} {r : List UInt8} (h : noCmt (a :: r) = true) : noCmt r = true := by
  cases r with
  | nil => rfl
  | cons b t => rw [noCmt] at h; simp at h; exact h.2
theorem noCmt_drop {l : List UInt8} (n : Nat) (h : noCmt l = true) : noCmt (l.drop n) = true := by
  induction n generalizing l with
  | zero => simpa using h
  | succ n ih =>
    cases l with
    | nil => rfl
    | cons a r => rw [List.drop_succ_cons]; exact ih (noCmt_tail h)
theorem cmt_none {a b : UInt8} {r z : List UInt8} (h : noCmt (a :: r) = true) (hb : blankB (b.toNat : Int) = true) : Lib.hasPrefix ((a :: r) ++ b :: z) cmt = false := by
  have h47 : (47 : UInt8) ∉ [b] := by rcases blank_cases hb with rfl | rfl | rfl | rfl <;> decide
  cases r with
  | nil =>
    unfold Lib.hasPrefix cmt
    simp [List.isPrefixOf]
    intro _ e
    exact h47 (by simp [e])
  | cons c t =>
    rw [noCmt] at h
    simp at h
    unfold Lib.hasPrefix cmt
    simp [List.isPrefixOf]
    intro e1 e2
    exact h.1.elim (fun x => x e1.symm) (fun x => x e2.symm)
theorem first_append {a b : UInt8} {r z : List UInt8} (hb : blankB (b.toNat : Int) = true) :
    firstK ((a :: r) ++ b :: z) = firstK (a :: r) ∧ firstN ((a :: r) ++ b :: z) = firstN (a :: r) := by
  refine ⟨rfl, ?_⟩
  have h1 := span_append (p := partB) (a :: r) (blank_part (z := z) hb)
  have h2 : signL ((a :: r) ++ b :: z) = signL (a :: r) := sign_append _ _ (signs_blank hb)
  rw [List.cons_append] at *
  rw [firstN, firstN, h1, h2]
/-- What stands behind tokens matters by its own tokens alone. -/
theorem between (n : Nat) (s : List UInt8) (hn : s.length ≤ n) (hc : noCmt s = true) {b1 b2 : UInt8} {z1 z2 : List UInt8} (h1 : blankB (b1.toNat : Int) = true) (h2 : blankB (b2.toNat : Int) = true)
    (h : bareL (b1 :: z1) = bareL (b2 :: z2)) : bareL (s ++ b1 :: z1) = bareL (s ++ b2 :: z2) := by
  induction n generalizing s with
  | zero =>
    obtain rfl : s = [] := List.length_eq_zero_iff.mp (by omega)
    exact h
  | succ n ih =>
    cases s with
    | nil => exact h
    | cons a r =>
      cases ha : blankB (a.toNat : Int) with
      | true =>
        rw [List.cons_append, List.cons_append, bare_blank ha, bare_blank ha]
        exact ih r (by simpa using hn) (noCmt_tail hc)
      | false =>
        have c1 := cmt_none (z := z1) hc h1
        have c2 := cmt_none (z := z2) hc h2
        obtain ⟨k1, n1⟩ := first_append (a := a) (r := r) (z := z1) h1
        obtain ⟨k2, n2⟩ := first_append (a := a) (r := r) (z := z2) h2
        have hle := first_le (a :: r)
        have t1 : ((a :: r) ++ b1 :: z1).take (firstN (a :: r)) = (a :: r).take (firstN (a :: r)) := List.take_append_of_le_length hle
        have t2 : ((a :: r) ++ b2 :: z2).take (firstN (a :: r)) = (a :: r).take (firstN (a :: r)) := List.take_append_of_le_length hle
        have d1 : ((a :: r) ++ b1 :: z1).drop (firstN (a :: r)) = (a :: r).drop (firstN (a :: r)) ++ b1 :: z1 := List.drop_append_of_le_length hle
        have d2 : ((a :: r) ++ b2 :: z2).drop (firstN (a :: r)) = (a :: r).drop (firstN (a :: r)) ++ b2 :: z2 := List.drop_append_of_le_length hle
        have e1 : tokE ((a :: r) ++ b1 :: z1) = tokE (a :: r) := by unfold tokE; rw [k1, n1, t1]
        have e2 : tokE ((a :: r) ++ b2 :: z2) = tokE (a :: r) := by unfold tokE; rw [k2, n2, t2]
        have f1 : tokB ((a :: r) ++ b1 :: z1) = tokB (a :: r) := by unfold tokB; rw [k1, n1, t1]
        have f2 : tokB ((a :: r) ++ b2 :: z2) = tokB (a :: r) := by unfold tokB; rw [k2, n2, t2]
        have g1 : bareL ((a :: r) ++ b1 :: z1) = _ := bare_tok (b := a) (l := r ++ b1 :: z1) ha c1
        have g2 : bareL ((a :: r) ++ b2 :: z2) = _ := bare_tok (b := a) (l := r ++ b2 :: z2) ha c2
        rw [g1, g2, ← List.cons_append, ← List.cons_append, e1, e2, f1, f2, n1, n2, d1, d2]
        by_cases he : tokE (a :: r) = 0
        · rw [if_pos he, if_pos he]
          have hp := tok_pos he
          rw [ih _ (by rw [List.length_drop]; simp at hn ⊢; omega) (noCmt_drop _ hc)]
        · rw [if_neg he, if_neg he]
end Go.Proofs.YtnalgnklgmoepaaGreatDoor
