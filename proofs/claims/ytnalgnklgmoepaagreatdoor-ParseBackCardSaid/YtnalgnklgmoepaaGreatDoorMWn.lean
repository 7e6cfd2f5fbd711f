/- Words that are lexed as themselves; what is shown, lexed (plain). -/
import Derived.Test.YtnalgnklgmoepaaGreatDoorMWi
import Derived.Test.YtnalgnklgmoepaaGreatDoorMLv
import Derived.Lib.Join
set_option linter.all false
namespace Go.Proofs.YtnalgnklgmoepaaGreatDoor
open Go Go.RowKit

def wordB (w : List UInt8) : Bool := match w with
  | [] => false
  | b :: _ => !blankB b.toNat && (!Lib.hasPrefix w cmt && (tokE w == 0 && firstN w == w.length))
theorem word_lex {w y : List UInt8} (h : wordB w = true) (hy : Apart y) : bareL (w ++ y) = (bareL y).map ((T w).bare :: ·) := by
  cases w with
  | nil => cases h
  | cons b r =>
    simp only [wordB, Bool.and_eq_true, Bool.not_eq_true', beq_iff_eq] at h
    obtain ⟨h1, h2, h3, h4⟩ := h
    have := again hy h1 h2 h3
    rw [h4, List.take_length] at this
    rw [this]
    have : tokB (b :: r) = (T (b :: r)).bare := by
      unfold tokB T Tok.bare
      rw [h4, List.take_length]
    rw [this]
theorem span_all {p : Int → Bool} : ∀ (l : List UInt8), (∀ b ∈ l, p (b.toNat : Int) = true) → spanL p l = l.length
  | [], _ => rfl
  | b :: r, h => by
    rw [spanL, if_pos (h b (by simp)), span_all r (fun c hc => h c (by simp [hc]))]
    rfl
theorem scan_part : ∀ (i : Nat) (l : List UInt8), scanN i l = true → ∀ b ∈ l, partB (b.toNat : Int) = true
  | _, [], _, b, hb => by simp at hb
  | i, c :: r, h, b, hb => by
    simp only [scanN, Bool.and_eq_true, Bool.or_eq_true] at h
    rcases List.mem_cons.1 hb with rfl | hb
    · unfold partB
      rcases h.1 with h1 | h1
      · simp [h1]
      · have := h1.1
        simp only [digB, decide_eq_true_eq] at this
        have hd : digI (b.toNat : Int) < 10 := by unfold digI; rw [if_pos this]; omega
        simp [hd]
    · exact scan_part (i + 1) r h.2 b hb
theorem word_letters {b : UInt8} {r : List UInt8} (hs : scanN 0 (b :: r) = true) : wordB (b :: r) = true := by
  have hl : letB (b.toNat : Int) = true := by
    simp only [scanN, Bool.and_eq_true, Bool.or_eq_true] at hs
    rcases hs.1 with h | h
    · exact h
    · simp at h
  have hn : firstN (b :: r) = (b :: r).length := by
    rw [firstN, if_pos hl]
    exact span_all _ (scan_part 0 _ hs)
  have hb : blankB (b.toNat : Int) = false := by
    unfold letB at hl; unfold blankB
    simp only [decide_eq_true_eq] at hl
    simp only [decide_eq_false_iff_not]
    omega
  have hc : Lib.hasPrefix (b :: r) cmt = false := by
    cases hh : Lib.hasPrefix (b :: r) cmt with
    | false => rfl
    | true =>
      exfalso
      have : b = 47 := by
        unfold Lib.hasPrefix cmt at hh
        cases r with
        | nil => simp [List.isPrefixOf] at hh
        | cons c r => simp [List.isPrefixOf] at hh; exact hh.1.symm
      subst this
      revert hl
      decide
  have he : tokE (b :: r) = 0 := by
    unfold tokE
    rw [hn, if_neg (by simp), show firstK (b :: r) = 0 by simp [firstK, hl], if_neg (by decide)]
  simp only [wordB, hb, hc, he, hn]
  simp
theorem word_name {x : List UInt8} (h : isNameL x = true) : wordB x = true := by
  have hs : scanN 0 x = true := by
    unfold isNameL at h
    simp only [Bool.and_eq_true] at h
    exact h.1
  obtain ⟨b, r, rfl, _, _⟩ := name_parts h
  exact word_letters hs
theorem word_dec (u : Nat) (hu : u ≤ 18446744073709551615) : wordB (Lib.decDigits u) = true := by
  have hall := dec_all u
  have hk := dec_kind u
  have hnum := dec_num u hu
  obtain ⟨b, r, e, h1, h2⟩ := dec_head u
  rw [e] at hall hk hnum ⊢
  have hl : letB (b.toNat : Int) = false := by unfold letB; simp; omega
  have hd : digI (b.toNat : Int) < 10 := by unfold digI; rw [if_pos (by omega)]; omega
  have hn : firstN (b :: r) = (b :: r).length := by
    rw [firstN, if_neg (by simp [hl]), if_pos hd]
    refine span_all _ fun c hc => ?_
    have := hall c hc
    have hd : digI (c.toNat : Int) < 10 := by unfold digI; rw [if_pos (by omega)]; omega
    unfold partB
    simp [hd]
  have hb : blankB (b.toNat : Int) = false := by
    unfold blankB
    simp only [decide_eq_false_iff_not]
    omega
  have hc : Lib.hasPrefix (b :: r) cmt = false := by
    cases hh : Lib.hasPrefix (b :: r) cmt with
    | false => rfl
    | true =>
      exfalso
      have : b = 47 := by
        unfold Lib.hasPrefix cmt at hh
        cases r with
        | nil => simp [List.isPrefixOf] at hh
        | cons c r => simp [List.isPrefixOf] at hh; exact hh.1.symm
      subst this
      revert h1
      decide
  have he : tokE (b :: r) = 0 := by
    unfold tokE
    rw [hn, if_neg (by simp), hk, if_pos rfl, List.take_length, hnum]
    rfl
  simp only [wordB, hb, hc, he, hn]
  simp
/-- Words, each behind a blank. -/
def shT (ws : List (List UInt8)) : List UInt8 := (ws.map fun w => 32 :: w).flatten
theorem shT_apart (ws : List (List UInt8)) : Apart (shT ws) := by
  cases ws with
  | nil => exact .inl rfl
  | cons w r => exact .inr ⟨w ++ shT r, by simp [shT]⟩
def endB : Bare := ⟨3, [], 0⟩
theorem shT_lex : ∀ (ws : List (List UInt8)), (∀ w ∈ ws, wordB w = true) → bareL (shT ws) = some ((TS ws).map Tok.bare ++ [endB])
  | [], _ => rfl
  | w :: r, h => by
    have e : shT (w :: r) = 32 :: (w ++ shT r) := by simp [shT]
    rw [e, bare_blank (by decide), word_lex (h w (by simp)) (shT_apart r), shT_lex r (fun v hv => h v (by simp [hv]))]
    rfl
theorem showS_cons (w : List UInt8) (r : List (List UInt8)) : Lib.join (w :: r) [32] = w ++ shT r := by
  rw [Lib.join_cons]
  rfl
/-- WHAT IS SHOWN, LEXED: its words. -/
theorem show_lex (ws : List (List UInt8)) (h : ∀ w ∈ ws, wordB w = true) : bareL (Lib.join ws [32]) = some ((TS ws).map Tok.bare ++ [endB]) := by
  cases ws with
  | nil => rfl
  | cons w r =>
    rw [showS_cons, word_lex (h w (by simp)) (shT_apart r), shT_lex r (fun v hv => h v (by simp [hv]))]
    rfl
/-- How long words are, with a blank behind each. -/
def lenW : List (List UInt8) → Nat
  | [] => 0
  | w :: r => w.length + 1 + lenW r
theorem lenW_app : ∀ (a b : List (List UInt8)), lenW (a ++ b) = lenW a + lenW b
  | [], b => by simp [lenW]
  | w :: r, b => by rw [List.cons_append, lenW, lenW, lenW_app r b]; omega
theorem lenW_num : ∀ (ws : List (List UInt8)), ws.length ≤ lenW ws
  | [] => by simp
  | w :: r => by have := lenW_num r; rw [lenW, List.length_cons]; omega
theorem shT_len : ∀ (ws : List (List UInt8)), (shT ws).length = lenW ws
  | [] => rfl
  | w :: r => by
    have e : shT (w :: r) = 32 :: (w ++ shT r) := by simp [shT]
    rw [e, List.length_cons, List.length_append, shT_len r, lenW]
    omega
theorem show_len (ws : List (List UInt8)) : (Lib.join ws [32]).length ≤ lenW ws := by
  cases ws with
  | nil => simp [Lib.join_nil]
  | cons w r => rw [showS_cons, List.length_append, shT_len, lenW]; omega
end Go.Proofs.YtnalgnklgmoepaaGreatDoor
