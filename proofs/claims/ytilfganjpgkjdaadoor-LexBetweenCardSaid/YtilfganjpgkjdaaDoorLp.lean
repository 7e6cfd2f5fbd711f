/- The reader's token in the model's words; the model's own recursion. -/
import Derived.Test.YtilfganjpgkjdaaDoorLo
namespace Go.Proofs.YtilfganjpgkjdaaDoor
open Go Go.RowKit

theorem first_nil : firstN [] = 0 := rfl
theorem tok_pos {l : List UInt8} (h : tokE l = 0) : 0 < firstN l := by
  unfold tokE at h
  by_cases h0 : firstN l = 0
  · rw [if_pos h0] at h; exact absurd h (by decide)
  · omega
theorem skipF_le (n : Nat) (l : List UInt8) (ln c : Int) : (skipF n l ln c).1.length ≤ l.length := by
  induction n generalizing l ln c with
  | zero => exact Nat.le_refl _
  | succ n ih =>
    rw [skipF]
    by_cases h : gapL l = 0
    · rw [if_pos h]; exact Nat.le_refl _
    · rw [if_neg h]
      refine Nat.le_trans (ih _ _ _) ?_
      rw [List.length_drop]
      omega
theorem lex_fuel (n m : Nat) (l : List UInt8) (ln c : Int) (hn : l.length < n) (hm : l.length < m) : lexF n l ln c = lexF m l ln c := by
  induction n generalizing m l ln c with
  | zero => omega
  | succ n ih =>
    cases m with
    | zero => omega
    | succ m =>
      rw [lexF, lexF]
      have hk := skipF_le l.length l ln c
      generalize skipF l.length l ln c = s at *
      by_cases h1 : s.1 = []
      · simp only [h1, if_true]
      · by_cases h2 : tokE s.1 = 0
        · have hp := tok_pos h2
          have hle := first_le s.1
          simp only [if_neg h1, if_pos h2]
          rw [ih m _ _ _ (by rw [List.length_drop]; omega) (by rw [List.length_drop]; omega)]
        · simp only [if_neg h1, if_neg h2]
def lexG (l : List UInt8) (ln c : Int) : Res := lexF (l.length + 1) l ln c
theorem lexG_eq (l : List UInt8) (ln c : Int) : lexG l ln c =
    if (skipL l ln c).1 = [] then .ok [⟨3, [], 0, (skipL l ln c).2.1, (skipL l ln c).2.2⟩]
    else if tokE (skipL l ln c).1 = 0 then (lexG ((skipL l ln c).1.drop (firstN (skipL l ln c).1)) (advL ((skipL l ln c).1.take (firstN (skipL l ln c).1)) (skipL l ln c).2.1 (skipL l ln c).2.2).1 (advL ((skipL l ln c).1.take (firstN (skipL l ln c).1)) (skipL l ln c).2.1 (skipL l ln c).2.2).2).cons (tokT (skipL l ln c).1 (skipL l ln c).2.1 (skipL l ln c).2.2)
    else .bad (skipL l ln c).2.1 (skipL l ln c).2.2 (tokE (skipL l ln c).1) := by
  conv => lhs; unfold lexG; rw [lexF]
  have hk := skipF_le l.length l ln c
  unfold skipL lexG
  generalize skipF l.length l ln c = s at *
  by_cases h1 : s.1 = []
  · simp only [h1, if_true]
  · by_cases h2 : tokE s.1 = 0
    · have hp := tok_pos h2
      have hle := first_le s.1
      simp only [if_neg h1, if_pos h2]
      rw [lex_fuel l.length ((s.1.drop (firstN s.1)).length + 1) _ _ _ (by rw [List.length_drop]; omega) (by omega)]
    · simp only [if_neg h1, if_neg h2]
theorem lex_end {l : List UInt8} {ln c ln1 c1 : Int} (hk : ([], ln1, c1) = skipL l ln c) : lexG l ln c = .ok [⟨3, [], 0, ln1, c1⟩] := by
  rw [lexG_eq, ← hk, if_pos rfl]
theorem lex_bad {l l1 : List UInt8} {ln c ln1 c1 : Int} (hk : (l1, ln1, c1) = skipL l ln c) (h0 : ¬ l1 = []) (he : ¬ tokE l1 = 0) : lexG l ln c = .bad ln1 c1 (tokE l1) := by
  rw [lexG_eq, ← hk, if_neg h0, if_neg he]
theorem lex_tok {l l1 : List UInt8} {ln c ln1 c1 : Int} (hk : (l1, ln1, c1) = skipL l ln c) (h0 : ¬ l1 = []) (he : tokE l1 = 0) :
    lexG l ln c = (lexG (l1.drop (firstN l1)) (advL (l1.take (firstN l1)) ln1 c1).1 (advL (l1.take (firstN l1)) ln1 c1).2).cons (tokT l1 ln1 c1) := by
  rw [lexG_eq, ← hk, if_neg h0, if_pos he]

/-- A token of the model as a value. -/
def tokW (t : Tok) : Value := tokV t.kind ⟨t.text.toArray⟩ t.num t.line t.col
theorem ext_take (r : ByteArray) (n : Nat) : r.extract 0 n = ⟨(r.data.toList.take n).toArray⟩ := by
  rw [Lib.extract_eq]; simp
theorem pos_ne {r : ByteArray} (h : 0 < r.size) : ¬ r.data.toList = [] := fun e => by
  have := size_len r
  rw [e] at this
  have h3 : r.size = 0 := this
  omega
theorem token_ok (B : Nat) (r : ByteArray) (ln c : Int) (w : World) (hR : RdIn B r ln c w) (ht : Signs w) (h0 : 0 < r.size) (he : tokE r.data.toList = 0) :
    Calls Tryd.prog 22 #[.pointer (some ⟨B, 0, none⟩)] w fun e w' => e = .returned (.tuple #[tokW (tokT r.data.toList ln c), .int .i64 0]) ∧
      RdAt B (r.extract (firstN r.data.toList) r.size) (advL (r.data.toList.take (firstN r.data.toList)) ln c).1 (advL (r.data.toList.take (firstN r.data.toList)) ln c).2 w' ∧ w.grownBy w' (some B) := by
  have hp := tok_pos he
  have hle := first_le r.data.toList
  unfold tokE at he
  rw [if_neg (by omega)] at he
  unfold tokW tokT
  by_cases hk : firstK r.data.toList = 1
  · rw [if_pos hk] at he ⊢
    cases hok : (numL (r.data.toList.take (firstN r.data.toList))).isSome
    · rw [hok] at he
      exact absurd he (by decide)
    · simp only [← ext_take]
      rw [hk]
      exact token_num B r ln c _ w hR ht h0 hk rfl hp hle _ rfl hok
  · simp only [if_neg hk, ← ext_take]
    exact token_word B r ln c _ _ w hR ht h0 rfl rfl hp hle (by simpa using hk)
/-- Behind a token that is wrong. -/
def BadTok (B : Nat) (ln c code : Int) (w : World) (e : Ending) (w' : World) : Prop :=
  ∃ k t m, e = .returned (.tuple #[tokV k t m ln c, .int .i64 code]) ∧ w.grownBy w' (some B)
theorem token_no (B : Nat) (r : ByteArray) (ln c : Int) (w : World) (hR : RdIn B r ln c w) (ht : Signs w) (h0 : 0 < r.size) (he : ¬ tokE r.data.toList = 0) :
    Calls Tryd.prog 22 #[.pointer (some ⟨B, 0, none⟩)] w (BadTok B ln c (tokE r.data.toList) w) := by
  have hle := first_le r.data.toList
  unfold tokE at he ⊢
  by_cases hn : firstN r.data.toList = 0
  · rw [if_pos hn]
    exact (token_byte B r ln c w hR.at_ ht h0 hR.hs hn).mono fun e w' h => ⟨_, _, _, h.1, h.2.2⟩
  · rw [if_neg hn] at he ⊢
    by_cases hk : firstK r.data.toList = 1
    · rw [if_pos hk] at he ⊢
      cases hok : (numL (r.data.toList.take (firstN r.data.toList))).isSome
      · exact (token_bad B r ln c _ w hR ht h0 hk rfl (by omega) hle _ rfl hok).mono fun e w' h => ⟨_, _, _, h.1, h.2.2⟩
      · rw [hok] at he
        exact absurd rfl he
    · rw [if_neg hk] at he
      exact absurd rfl he
theorem tokE_ne {l : List UInt8} (h : ¬ tokE l = 0) : tokE l = 20 ∨ tokE l = 21 := by
  unfold tokE at *
  (repeat' split) <;> simp_all
end Go.Proofs.YtilfganjpgkjdaaDoor
