/- What is shown is lexed into the same tokens, in the model. -/
import Derived.Test.YtnalgnklgmoepaaGreatDoorMLu
set_option linter.all false
namespace Go.Proofs.YtnalgnklgmoepaaGreatDoor
open Go

/-- Tokens as a text, each behind a blank. -/
def showR : List Bare → List UInt8
  | [] => []
  | t :: r => (if t.kind = 3 then [] else 32 :: t.text) ++ showR r
/-- Tokens as a text. -/
def showL : List Bare → List UInt8
  | [] => []
  | t :: r => (if t.kind = 3 then [] else t.text) ++ showR r
/-- Nothing, or a blank first. -/
def Apart (y : List UInt8) : Prop := y = [] ∨ ∃ z, y = 32 :: z

theorem span_take {p : Int → Bool} (l y : List UInt8) (hy : spanL p y = 0) : spanL p (l.take (spanL p l) ++ y) = spanL p l := by
  induction l with
  | nil => simpa [spanL] using hy
  | cons a r ih =>
    rw [spanL]
    cases h : p (a.toNat : Int) with
    | true => simp only [if_true]; rw [List.take_succ_cons, List.cons_append, spanL, h, if_pos rfl, ih]
    | false => simpa using hy
theorem apart_part {y : List UInt8} (h : Apart y) : spanL partB y = 0 := by
  rcases h with rfl | ⟨z, rfl⟩
  · rfl
  · exact blank_part (by decide)
theorem prefix_apart {y : List UInt8} (hy : Apart y) (g s : List UInt8) (hg : (32 : UInt8) ∉ g) : Lib.hasPrefix (s ++ y) g = Lib.hasPrefix s g := by
  rcases hy with rfl | ⟨z, rfl⟩
  · rw [List.append_nil]
  · exact prefix_append g s hg
theorem prefix_take {l g : List UInt8} (n : Nat) (h : Lib.hasPrefix (l.take n) g = true) : Lib.hasPrefix l g = true := by
  unfold Lib.hasPrefix at *
  rw [List.isPrefixOf_iff_prefix] at *
  exact h.trans (List.take_prefix n l)
theorem sign_take {y : List UInt8} (hy : Apart y) (l : List UInt8) (gs : List (List UInt8)) (hg : ∀ g ∈ gs, (32 : UInt8) ∉ g) (h0 : signFrom l gs ≠ 0) :
    signFrom (l.take (signFrom l gs) ++ y) gs = signFrom l gs := by
  induction gs with
  | nil => exact absurd rfl h0
  | cons g r ih =>
    rw [signFrom] at h0 ⊢
    rw [signFrom, prefix_apart hy g _ (hg g (by simp))]
    cases hp : Lib.hasPrefix l g with
    | true =>
      simp only [if_true]
      have hpre : g <+: l := List.isPrefixOf_iff_prefix.mp hp
      have e : l.take g.length = g := (List.prefix_iff_eq_take.mp hpre).symm
      have : Lib.hasPrefix (l.take g.length) g = true := by
        rw [e]
        exact List.isPrefixOf_iff_prefix.mpr (List.prefix_refl g)
      rw [if_pos this]
    | false =>
      have e0 : (if false = true then g.length else signFrom l r) = signFrom l r := if_neg (by decide)
      rw [e0]
      rw [hp, e0] at h0
      have hno : Lib.hasPrefix (l.take (signFrom l r)) g = false := by
        cases hh : Lib.hasPrefix (l.take (signFrom l r)) g with
        | false => rfl
        | true => rw [prefix_take _ hh] at hp; cases hp
      rw [hno, if_neg (by decide)]
      exact ih (fun x hx => hg x (by simp [hx])) h0
theorem sign_stroke (r : List UInt8) : signL (47 :: r) = 1 := by
  simp [signL, signsL, signFrom, Lib.hasPrefix, List.isPrefixOf]
/-- A token's text, apart from what follows, is that token again. -/
theorem again {b : UInt8} {l y : List UInt8} (hy : Apart y) (hb : blankB (b.toNat : Int) = false) (hc : Lib.hasPrefix (b :: l) cmt = false) (he : tokE (b :: l) = 0) :
    bareL ((b :: l).take (firstN (b :: l)) ++ y) = (bareL y).map (tokB (b :: l) :: ·) := by
  have hp := tok_pos he
  have hle := first_le (b :: l)
  obtain ⟨n, hn⟩ : ∃ n, firstN (b :: l) = n + 1 := ⟨firstN (b :: l) - 1, by omega⟩
  have htx : (b :: l).take (firstN (b :: l)) ++ y = b :: (l.take n ++ y) := by rw [hn, List.take_succ_cons, List.cons_append]
  have hK : firstK (b :: (l.take n ++ y)) = firstK (b :: l) := rfl
  have hN : firstN (b :: (l.take n ++ y)) = firstN (b :: l) := by
    have h1 : letB (b.toNat : Int) = true ∨ digI (b.toNat : Int) < 10 → spanL partB (b :: (l.take n ++ y)) = spanL partB (b :: l) := fun hh => by
      have e : firstN (b :: l) = spanL partB (b :: l) := by
        rw [firstN]
        by_cases h1 : letB (b.toNat : Int) = true
        · rw [if_pos h1]
        · rw [if_neg h1, if_pos (hh.resolve_left h1)]
      rw [← htx, e]
      exact span_take _ _ (apart_part hy)
    have h2 : ¬ (letB (b.toNat : Int) = true) → ¬ digI (b.toNat : Int) < 10 → signL (b :: (l.take n ++ y)) = signL (b :: l) := fun g1 g2 => by
      have e : firstN (b :: l) = signL (b :: l) := by rw [firstN, if_neg g1, if_neg g2]
      rw [← htx, e]
      exact sign_take hy _ _ (signs_blank (by decide)) (by rw [e] at hp; unfold signL at hp; omega)
    rw [firstN, firstN]
    by_cases g1 : letB (b.toNat : Int) = true
    · rw [if_pos g1, if_pos g1]; exact h1 (.inl g1)
    · rw [if_neg g1, if_neg g1]
      by_cases g2 : digI (b.toNat : Int) < 10
      · rw [if_pos g2, if_pos g2]; exact h1 (.inr g2)
      · rw [if_neg g2, if_neg g2]; exact h2 g1 g2
  have hlen : ((b :: l).take (firstN (b :: l))).length = firstN (b :: l) := by rw [List.length_take]; omega
  have hT : (b :: (l.take n ++ y)).take (firstN (b :: l)) = (b :: l).take (firstN (b :: l)) := by
    rw [← htx, List.take_append_of_le_length (by omega), List.take_of_length_le (by omega)]
  have hD : (b :: (l.take n ++ y)).drop (firstN (b :: l)) = y := by
    rw [← htx, List.drop_append_of_le_length (by omega), List.drop_of_length_le (by omega), List.nil_append]
  have hE : tokE (b :: (l.take n ++ y)) = tokE (b :: l) := by unfold tokE; rw [hK, hN, hT]
  have hB : tokB (b :: (l.take n ++ y)) = tokB (b :: l) := by unfold tokB; rw [hK, hN, hT]
  have hC : Lib.hasPrefix (b :: (l.take n ++ y)) cmt = false := by
    cases hh : Lib.hasPrefix (b :: (l.take n ++ y)) cmt with
    | false => rfl
    | true =>
      exfalso
      have h47 : b = 47 := by
        unfold Lib.hasPrefix cmt at hh
        simp [List.isPrefixOf] at hh
        exact hh.1.symm
      subst h47
      have e1 : firstN (47 :: l) = 1 := by
        rw [firstN, if_neg (by decide), if_neg (by decide)]
        exact sign_stroke l
      obtain rfl : n = 0 := by omega
      rcases hy with rfl | ⟨z, rfl⟩
      · simp [Lib.hasPrefix, cmt, List.isPrefixOf] at hh
      · simp [Lib.hasPrefix, cmt, List.isPrefixOf] at hh
  rw [htx, bare_tok hb hC, hE, if_pos he, hN, hD, hB]
theorem firstK_ne (l : List UInt8) : ¬ firstK l = 3 := by have := firstK_bd l; omega
theorem strip_gap (n : Nat) (l : List UInt8) (hn : l.length ≤ n) : gapL (strip l) = 0 := by
  induction n generalizing l with
  | zero =>
    obtain rfl : l = [] := List.length_eq_zero_iff.mp (by omega)
    rfl
  | succ n ih =>
    by_cases h : gapL l = 0
    · rw [strip_stop h]; exact h
    · rw [strip_go h]
      exact ih _ (by rw [List.length_drop]; omega)
theorem gap_head {b : UInt8} {l : List UInt8} (h : gapL (b :: l) = 0) : blankB (b.toNat : Int) = false ∧ Lib.hasPrefix (b :: l) cmt = false := by
  unfold gapL at h
  cases hc : Lib.hasPrefix (b :: l) cmt with
  | true =>
    rw [hc, if_pos rfl, spanL] at h
    have h47 : b = 47 := by
      unfold Lib.hasPrefix cmt at hc
      cases l with
      | nil => simp [List.isPrefixOf] at hc
      | cons c r => simp [List.isPrefixOf] at hc; exact hc.1.symm
    subst h47
    rw [if_pos (by decide)] at h
    omega
  | false =>
    refine ⟨?_, rfl⟩
    rw [hc, if_neg (by decide), spanL] at h
    cases hb : blankB (b.toNat : Int) with
    | false => rfl
    | true => rw [hb, if_pos rfl] at h; omega
theorem shown (n : Nat) (l : List UInt8) (hn : l.length ≤ n) (ts : List Bare) (h : bareL l = some ts) :
    (Apart (showR ts) ∧ bareL (showR ts) = some ts ∧ bareL (showL ts) = some ts) := by
  induction n generalizing l ts with
  | zero =>
    obtain rfl : l = [] := List.length_eq_zero_iff.mp (by omega)
    have e : bareL [] = some [⟨3, [], 0⟩] := rfl
    rw [e] at h
    cases h
    exact ⟨.inl rfl, rfl, rfl⟩
  | succ n ih =>
    rw [bareL_eq] at h
    by_cases h1 : strip l = []
    · rw [if_pos h1] at h
      cases h
      exact ⟨.inl rfl, rfl, rfl⟩
    · rw [if_neg h1] at h
      have hg := strip_gap _ l (Nat.le_refl _)
      have hls : (strip l).length ≤ l.length := by
        have := skipF_le l.length l 1 1
        exact this
      cases hs : strip l with
      | nil => exact absurd hs h1
      | cons b r =>
        rw [hs] at h hg hls
        by_cases he : tokE (b :: r) = 0
        · rw [if_pos he] at h
          have hp := tok_pos he
          obtain ⟨hb, hc⟩ := gap_head hg
          cases hr : bareL ((b :: r).drop (firstN (b :: r))) with
          | none => rw [hr] at h; cases h
          | some ts' =>
            rw [hr] at h
            cases h
            obtain ⟨a1, a2, _⟩ := ih _ (by rw [List.length_drop]; omega) ts' hr
            have hk : (tokB (b :: r)).kind = firstK (b :: r) := rfl
            have ht : (tokB (b :: r)).text = (b :: r).take (firstN (b :: r)) := rfl
            have key := again a1 hb hc he
            rw [a2] at key
            have e1 : showR (tokB (b :: r) :: ts') = 32 :: ((b :: r).take (firstN (b :: r)) ++ showR ts') := by
              rw [showR, if_neg (by rw [hk]; exact firstK_ne _), ht, List.cons_append]
            have e2 : showL (tokB (b :: r) :: ts') = (b :: r).take (firstN (b :: r)) ++ showR ts' := by
              rw [showL, if_neg (by rw [hk]; exact firstK_ne _), ht]
            refine ⟨.inr ⟨_, e1⟩, ?_, ?_⟩
            · rw [e1, bare_blank (by decide), key]; rfl
            · rw [e2, key]; rfl
        · rw [if_neg he] at h
          cases h
end Go.Proofs.YtnalgnklgmoepaaGreatDoor
