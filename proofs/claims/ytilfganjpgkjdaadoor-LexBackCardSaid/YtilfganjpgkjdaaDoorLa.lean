/- The plain model of layer 2 (lex): bytes, numbers, gaps, tokens, whole texts; nothing of the program. -/
import Derived.Lib.Strings
namespace Go.Proofs.YtilfganjpgkjdaaDoor
open Go

def letB (c : Int) : Bool := decide ((97 ≤ c ∧ c ≤ 122) ∨ (65 ≤ c ∧ c ≤ 90) ∨ c = 95)
def digI (c : Int) : Int := if 48 ≤ c ∧ c ≤ 57 then c - 48 else if 97 ≤ c ∧ c ≤ 102 then c - 97 + 10 else if 65 ≤ c ∧ c ≤ 70 then c - 65 + 10 else 16
def partB (c : Int) : Bool := letB c || decide (digI c < 10)
def blankB (c : Int) : Bool := decide (c = 32 ∨ c = 9 ∨ c = 13 ∨ c = 10)
def inkB (c : Int) : Bool := decide (c ≠ 10)

theorem dig_bd (c : Int) : 0 ≤ digI c ∧ digI c ≤ 16 := by
  unfold digI
  by_cases h1 : 48 ≤ c ∧ c ≤ 57
  · rw [if_pos h1]; omega
  rw [if_neg h1]
  by_cases h2 : 97 ≤ c ∧ c ≤ 102
  · rw [if_pos h2]; omega
  rw [if_neg h2]
  by_cases h3 : 65 ≤ c ∧ c ≤ 70
  · rw [if_pos h3]; omega
  rw [if_neg h3]; omega

/-- How many bytes at the beginning are of a kind. -/
def spanL (p : Int → Bool) : List UInt8 → Nat
  | [] => 0
  | b :: r => if p (b.toNat : Int) then spanL p r + 1 else 0
def cmt : List UInt8 := [47, 47]
def gapL (l : List UInt8) : Nat := if Lib.hasPrefix l cmt then spanL inkB l else spanL blankB l

def signsL : List (List UInt8) := [[124, 124], [38, 38], [61, 61], [33, 61], [60, 61], [62, 61], [60, 60], [62, 62], [43], [45], [42], [47], [37], [38], [124], [94], [126], [33], [60], [62], [61], [40], [41], [123], [125], [91], [93], [44], [59]]
def signFrom (l : List UInt8) : List (List UInt8) → Nat
  | [] => 0
  | g :: r => if Lib.hasPrefix l g then g.length else signFrom l r
def signL (l : List UInt8) : Nat := signFrom l signsL

/-- The kind and the size of the first token. -/
def firstK (l : List UInt8) : Int := match l with
  | [] => 2
  | b :: _ => if letB (b.toNat : Int) then 0 else if digI (b.toNat : Int) < 10 then 1 else 2
def firstN (l : List UInt8) : Nat := match l with
  | [] => 0
  | b :: r => if letB (b.toNat : Int) then spanL partB (b :: r) else if digI (b.toNat : Int) < 10 then spanL partB (b :: r) else signL (b :: r)

/-- The greatest number of 64 bits. -/
def numFrom (base : Int) (acc : Int) : List UInt8 → Option Int
  | [] => some acc
  | b :: r => if base ≤ digI (b.toNat : Int) ∨ (18446744073709551615 - digI (b.toNat : Int)) / base < acc then none else numFrom base (acc * base + digI (b.toNat : Int)) r
def hexP : List UInt8 := [48, 120]
def numL (l : List UInt8) : Option Int :=
  if Lib.hasPrefix l hexP then (if l.drop 2 = [] then none else numFrom 16 0 (l.drop 2)) else (if l = [] then none else numFrom 10 0 l)

/-- Past some bytes: the line and the column. -/
def advL : List UInt8 → Int → Int → Int × Int
  | [], ln, c => (ln, c)
  | b :: r, ln, c => if (b.toNat : Int) = 10 then advL r (ln + 1) 1 else advL r ln (c + 1)

/-- What is left of a text behind its gap, and where. -/
def skipF : Nat → List UInt8 → Int → Int → List UInt8 × Int × Int
  | 0, l, ln, c => (l, ln, c)
  | n + 1, l, ln, c => if gapL l = 0 then (l, ln, c) else skipF n (l.drop (gapL l)) (advL (l.take (gapL l)) ln c).1 (advL (l.take (gapL l)) ln c).2

structure Tok where
  kind : Int
  text : List UInt8
  num : Int
  line : Int
  col : Int
inductive Res where
  | bad (ln c code : Int)
  | ok (l : List Tok)
def Res.cons (t : Tok) : Res → Res
  | .bad a b c => .bad a b c
  | .ok l => .ok (t :: l)
def Res.pre (acc : List Tok) : Res → Res
  | .bad a b c => .bad a b c
  | .ok l => .ok (acc ++ l)

/-- The next token of a text that isn't empty: its error (0: none). -/
def tokE (l : List UInt8) : Int := if firstN l = 0 then 20 else if firstK l = 1 then (if (numL (l.take (firstN l))).isSome then 0 else 21) else 0
def tokT (l : List UInt8) (ln c : Int) : Tok := ⟨firstK l, l.take (firstN l), if firstK l = 1 then (numL (l.take (firstN l))).getD 0 else 0, ln, c⟩

/-- A text's tokens, from a place on. -/
def lexF : Nat → List UInt8 → Int → Int → Res
  | 0, _, _, _ => .bad 0 0 0
  | n + 1, l, ln, c =>
    let s := skipF l.length l ln c
    if s.1 = [] then .ok [⟨3, [], 0, s.2.1, s.2.2⟩]
    else if tokE s.1 = 0 then (lexF n (s.1.drop (firstN s.1)) (advL (s.1.take (firstN s.1)) s.2.1 s.2.2).1 (advL (s.1.take (firstN s.1)) s.2.1 s.2.2).2).cons (tokT s.1 s.2.1 s.2.2)
    else .bad s.2.1 s.2.2 (tokE s.1)
def lexL (l : List UInt8) : Res := lexF (l.length + 1) l 1 1

theorem span_le (p : Int → Bool) (l : List UInt8) : spanL p l ≤ l.length := by
  induction l with
  | nil => exact Nat.le_refl _
  | cons b r ih =>
    rw [spanL, List.length_cons]
    by_cases h : p (b.toNat : Int) = true
    · rw [if_pos h]; omega
    · rw [if_neg h]; omega
theorem sign_le (l : List UInt8) (gs : List (List UInt8)) : signFrom l gs ≤ l.length := by
  induction gs with
  | nil => exact Nat.zero_le _
  | cons g r ih =>
    rw [signFrom]
    by_cases h : Lib.hasPrefix l g = true
    · rw [if_pos h]
      have : g <+: l := List.isPrefixOf_iff_prefix.mp h
      exact this.length_le
    · rw [if_neg h]; exact ih
theorem gap_le (l : List UInt8) : gapL l ≤ l.length := by
  unfold gapL
  by_cases h : Lib.hasPrefix l cmt = true
  · rw [if_pos h]; exact span_le _ _
  · rw [if_neg h]; exact span_le _ _
theorem first_le (l : List UInt8) : firstN l ≤ l.length := by
  cases l with
  | nil => exact Nat.le_refl _
  | cons b r =>
    rw [firstN]
    by_cases h : letB (b.toNat : Int) = true
    · rw [if_pos h]; exact span_le _ _
    rw [if_neg h]
    by_cases h2 : digI (b.toNat : Int) < 10
    · rw [if_pos h2]; exact span_le _ _
    rw [if_neg h2]; exact sign_le _ _
theorem firstK_bd (l : List UInt8) : 0 ≤ firstK l ∧ firstK l ≤ 2 := by
  cases l with
  | nil => exact ⟨by decide, by decide⟩
  | cons b r =>
    rw [firstK]
    by_cases h : letB (b.toNat : Int) = true
    · rw [if_pos h]; decide
    rw [if_neg h]
    by_cases h2 : digI (b.toNat : Int) < 10
    · rw [if_pos h2]; decide
    rw [if_neg h2]; decide
theorem adv_bd (l : List UInt8) (ln c : Int) (h1 : 1 ≤ ln) (h2 : 1 ≤ c) :
    (1 ≤ (advL l ln c).1 ∧ (advL l ln c).1 ≤ ln + l.length) ∧ (1 ≤ (advL l ln c).2 ∧ (advL l ln c).2 ≤ c + l.length) := by
  induction l generalizing ln c with
  | nil => simp [advL]; omega
  | cons b r ih =>
    rw [advL, List.length_cons]
    by_cases h : (b.toNat : Int) = 10
    · rw [if_pos h]; have := ih (ln + 1) 1 (by omega) (by omega); omega
    · rw [if_neg h]; have := ih ln (c + 1) (by omega) (by omega); omega
theorem adv_snoc (l : List UInt8) (b : UInt8) (ln c : Int) : advL (l ++ [b]) ln c = if (b.toNat : Int) = 10 then ((advL l ln c).1 + 1, 1) else ((advL l ln c).1, (advL l ln c).2 + 1) := by
  induction l generalizing ln c with
  | nil => simp [advL]
  | cons a r ih =>
    rw [List.cons_append, advL, advL]
    by_cases h : (a.toNat : Int) = 10
    · rw [if_pos h, if_pos h]; exact ih _ _
    · rw [if_neg h, if_neg h]; exact ih _ _
theorem num_bd (base : Int) (hb : base = 10 ∨ base = 16) (l : List UInt8) (acc : Int) (h0 : 0 ≤ acc) (h1 : acc ≤ 18446744073709551615) :
    0 ≤ (numFrom base acc l).getD 0 ∧ (numFrom base acc l).getD 0 ≤ 18446744073709551615 := by
  induction l generalizing acc with
  | nil => exact ⟨h0, h1⟩
  | cons b r ih =>
    rw [numFrom]
    have hd := dig_bd (b.toNat : Int)
    by_cases h : base ≤ digI (b.toNat : Int) ∨ (18446744073709551615 - digI (b.toNat : Int)) / base < acc
    · rw [if_pos h]; decide
    · rw [if_neg h]
      rcases hb with rfl | rfl
      · exact ih _ (by omega) (by omega)
      · exact ih _ (by omega) (by omega)
theorem drop_cons {l : List UInt8} {k : Nat} (h : k < l.length) : l.drop k = l[k] :: l.drop (k + 1) := List.drop_eq_getElem_cons h
end Go.Proofs.YtilfganjpgkjdaaDoor
