/- What is shown of a text's program is read as the same one, or it is too deep (plain). -/
import Derived.Test.YtnalgnklgmoepaaGreatDoorMWr
import Derived.Test.YtnalgnklgmoepaaGreatDoorMWx
import Derived.Test.YtnalgnklgmoepaaGreatDoorMbar
set_option linter.all false
namespace Go.Proofs.YtnalgnklgmoepaaGreatDoor
open Go Go.RowKit

theorem same_trans (n : Nat) : (∀ (a b c : Tree), SizeOf.sizeOf a < n → sameT a b = true → sameT b c = true → sameT a c = true) ∧ (∀ (a b c : List Tree), SizeOf.sizeOf a < n → sameL a b = true → sameL b c = true → sameL a c = true) := by
  induction n with
  | zero => exact ⟨fun a b c h => by omega, fun a b c h => by omega⟩
  | succ n ih =>
    constructor
    · intro a b c h h1 h2
      obtain ⟨k, x, m, ln, co, ks⟩ := a
      have e1 := sameT_parts h1
      have e2 := sameT_parts h2
      have hs : SizeOf.sizeOf (Tree.mk k x m ln co ks) = 1 + SizeOf.sizeOf k + SizeOf.sizeOf x + SizeOf.sizeOf m + SizeOf.sizeOf ln + SizeOf.sizeOf co + SizeOf.sizeOf ks := by simp
      have h3 := ih.2 ks b.kids c.kids (by omega) e1.2.2.2 e2.2.2.2
      obtain ⟨k', x', m', ln', co', ks'⟩ := c
      exact sameT_mk (e1.1.trans e2.1) (e1.2.1.trans e2.2.1) (e1.2.2.1.trans e2.2.2.1) h3
    · intro a b c h h1 h2
      cases a with
      | nil =>
        cases b with
        | nil => exact h2
        | cons _ _ => simp [sameL] at h1
      | cons t ts =>
        cases b with
        | nil => simp [sameL] at h1
        | cons u us =>
          cases c with
          | nil => simp [sameL] at h2
          | cons v vs =>
            simp only [sameL, Bool.and_eq_true] at h1 h2 ⊢
            have hs : SizeOf.sizeOf (t :: ts) = 1 + SizeOf.sizeOf t + SizeOf.sizeOf ts := by simp
            exact ⟨ih.1 t u v (by omega) h1.1 h2.1, ih.2 ts us vs (by omega) h1.2 h2.2⟩
theorem sameT_trans {a b c : Tree} (h1 : sameT a b = true) (h2 : sameT b c = true) : sameT a c = true := (same_trans _).1 a b c (Nat.lt_succ_self _) h1 h2

def Again (t : Tree) (p : PR Tree) : Prop := (∃ x y, p = .bad x y 31 ∧ 20 < deepT t) ∨ ∃ t' l', p = .ok t' l' ∧ sameT t t' = true
theorem back_all (s : List UInt8) (hs : s.length ≤ 2000) :
    (∃ a b c, readL s = .bad a b c ∧ c ≠ 0) ∨ ∃ t l ws, readL s = .ok t l ∧ Neat t ∧ deepT t ≤ 2001 ∧ programW (deepT t) t = some ws ∧ ws.length ≤ 14000 ∧ (showS ws).length ≤ 14000 ∧ Again t (readL (showS ws)) := by
  cases hx : lexG s 1 1 with
  | bad a b c =>
    refine .inl ⟨a, b, c, ?_, ?_⟩
    · rw [readL, if_pos (by omega), readP, hx]
    · rcases lex_code _ _ _ _ (Nat.le_refl _) hx with h | h <;> omega
  | ok ts =>
    have hr := readL_ok hx (by omega)
    obtain ⟨ht1, ht2⟩ := lex_toks _ s 1 1 ts (Nat.le_refl _) (by omega) hx
    cases hp : programP 200000 ts with
    | out => exact absurd (hr.trans hp) (readL_out s)
    | bad x y c =>
      refine .inl ⟨x, y, c, hr.trans hp, ?_⟩
      have := NZ.rel_program 200000 (l := ts) (l' := ts) rfl
      rw [hp] at this
      exact this.2
    | ok t l =>
      obtain ⟨hN, hd, ws, hw, hwb, hwl⟩ := prog_words 200000 ts ⟨ht1, by omega⟩ t l hp
      have hsl := show_len ws
      have hwn := lenW_num ws
      refine .inr ⟨t, l, ws, hr.trans hp, hN, by omega, hw, by omega, by show (Lib.join ws [32]).length ≤ 14000; omega, ?_⟩
      obtain ⟨us, hu, hbe⟩ := bare_ok (x := lexG (showS ws) 1 1) (show bareL (Lib.join ws [32]) = _ from show_lex ws hwb)
      have hr2 := readL_ok hu (by show (Lib.join ws [32]).length ≤ 65536; omega)
      have hal : Al (TS ws ++ [endT]) us := by
        show (TS ws ++ [endT]).map Tok.bare = us.map Tok.bare
        rw [hbe, List.map_append]
        rfl
      have hrel := rel_program 200000 hal
      rw [← hr2] at hrel
      have hpr := prog_rs (deepT t) 200000 t ws hw hN
      have ho := readL_out (showS ws)
      generalize readL (showS ws) = P2 at *
      rcases hpr with h | ⟨t0, h, h0⟩ | ⟨x, y, h, h0⟩
      · rw [h] at hrel
        cases P2 with
        | ok _ _ => exact hrel.elim
        | bad _ _ _ => exact hrel.elim
        | out => exact absurd rfl ho
      · rw [h] at hrel
        cases P2 with
        | ok t' l' => exact .inr ⟨t', l', rfl, sameT_trans h0 hrel.1⟩
        | bad _ _ _ => exact hrel.elim
        | out => exact hrel.elim
      · rw [h] at hrel
        cases P2 with
        | ok _ _ => exact hrel.elim
        | bad x' y' c => exact .inl ⟨x', y', by rw [show c = 31 from hrel.symm], h0⟩
        | out => exact hrel.elim
end Go.Proofs.YtnalgnklgmoepaaGreatDoor
