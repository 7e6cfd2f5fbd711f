/- What is shown of a program is read again (plain). -/
import Derived.Test.YtnalgnklgmoepaaGreatDoorMWl
set_option linter.all false
namespace Go.Proofs.YtnalgnklgmoepaaGreatDoor
open Go Go.RowKit

def endT : Tok := ⟨3, [], 0, 0, 0⟩
theorem decl2_rs (kind : List UInt8) (void : Bool) (k x : List UInt8) (nm ln co : Int) (ks : List Tree) (ws : List (List UInt8)) (l : List Tok) (h : declaredW void (.mk k x nm ln co ks) = some ws) (hx : isNameL x = true) :
    ∃ u r tx, ks = u :: r ∧ ws = [tx, x] ∧ (typeB tx = true ∨ void = true ∧ tx = kVoid) ∧ (∀ v2 : Bool, (v2 || typeB tx) = true → declaredP kind v2 (TS ws ++ l) = .ok (.mk kind x 0 0 0 [.mk kType tx 0 0 0 []]) l) ∧ sameT u (.mk kType tx 0 0 0 []) = true := by
  rw [declaredW_mk] at h
  split at h
  · rename_i u r
    obtain ⟨hb, h1⟩ := ifW_some h
    injection h1 with h1
    subst h1
    obtain ⟨uk, ux, um, uln, uco, uks⟩ := u
    simp only [Tree.kind, Tree.num, Tree.kids, Tree.text, Bool.and_eq_true, Bool.or_eq_true, beq_iff_eq, List.length_eq_zero_iff] at hb
    obtain ⟨⟨rfl, rfl, rfl⟩, ht⟩ := hb
    refine ⟨_, _, ux, rfl, rfl, ht, fun v2 hv => ?_, sameT_mk rfl rfl rfl sameL_nil⟩
    show declaredP kind v2 (T ux :: T x :: l) = _
    simp only [declaredP, takeP, hdT_T, T_text, hv, name_kind hx, if_true, reduceIte, PR.bind]
    rfl
  · cases h
section
variable {D : Prop}
theorem param_rs (k : Tree) (w : List (List UInt8)) (l : List Tok) (h : paramW k = some w) : Rs D (Same k) (declaredP kParam false (TS w ++ l)) l ∧ ∃ v r, w = v :: r ∧ v ≠ [41] := by
  obtain ⟨k, x, nm, ln, co, ks⟩ := k
  rw [paramW_mk] at h
  obtain ⟨hb, h1⟩ := ifW_some h
  simp only [Bool.and_eq_true, beq_iff_eq] at hb
  obtain ⟨⟨rfl, hx, rfl⟩, h2⟩ := hb
  obtain ⟨u, r, tx, rfl, rfl, ht, hp, hs⟩ := decl2_rs (l := l) kParam false kParam x 0 ln co ks w h1 hx
  obtain rfl : r = [] := by simpa using h2
  have ht' : typeB tx = true := by rcases ht with h | ⟨h, _⟩; exact h; cases h
  refine ⟨?_, _, _, rfl, fun e => by rw [e] at ht'; exact absurd ht' (by decide)⟩
  rw [hp false (by simpa using ht')]
  exact Rs.ok (sameT_mk rfl rfl rfl (sameL_one hs))
theorem func_rs (n N : Nat) (t : Tree) (ws : List (List UInt8)) (l : List Tok) (hk : t.kind = kFunc) (h : functionW (runW n) t = some ws) (hd : 60 ≤ 1 + 2 * (deepT t : Int) → D) (hn : Neat t) :
    Rs D (Same t) (itemP N (TS ws ++ l)) l ∧ ∃ v r, ws = v :: r ∧ v ≠ kElse ∧ firstK v ≠ 3 := by
  obtain ⟨k, x, nm, ln, co, ks⟩ := t
  obtain rfl : k = kFunc := hk
  rw [functionW_mk] at h
  split at h
  · rename_i a0 a1 r
    obtain ⟨hb, h1⟩ := ifW_some h
    simp only [Bool.and_eq_true, beq_iff_eq] at hb
    obtain ⟨hx, rfl⟩ := hb
    obtain ⟨wd, v, h2, h3, rfl⟩ := catW_some h1
    obtain ⟨u, v, h4, h5, rfl⟩ := catW_some h3
    injection h4 with h4
    subst h4
    obtain ⟨wc, v, h6, h7, rfl⟩ := catW_some h5
    obtain ⟨u, wb, h8, h9, rfl⟩ := catW_some h7
    injection h8 with h8
    subst h8
    have hdl := List.dropLast_concat_getLast (List.cons_ne_nil a1 r)
    have hbm : (a1 :: r).getLast (List.cons_ne_nil a1 r) ∈ (a0 :: a1 :: r) := List.mem_cons_of_mem _ (List.getLast_mem _)
    have hkd := kid_deep hbm kFunc x 0 ln co
    have hbn := NeatL.mem hn.2.2.2.2.2 _ hbm
    generalize (a1 :: r).getLast (List.cons_ne_nil a1 r) = blk at *
    generalize (a1 :: r).dropLast = ps at *
    obtain ⟨u, r', tx, hks, rfl, ht, hp, hs⟩ := decl2_rs (l := T [40] :: (TS wc ++ (T [41] :: (TS wb ++ l)))) kGlobal true kFunc x 0 ln co (a0 :: a1 :: r) wd h2 hx
    injection hks with e1 e2
    subst e1 e2
    have hv : ((tx == kVoid) || typeB tx) = true := by
      rcases ht with h | ⟨_, h⟩
      · simp [h]
      · simp [h]
    have hf : tx ≠ kElse ∧ firstK tx = 0 := by
      rcases ht with h | ⟨_, rfl⟩
      · have := type_facts h
        exact ⟨this.2.2.2.2.2.1, this.2.2.2.2.2.2.2.1⟩
      · decide
    refine ⟨?_, _, _, rfl, hf.1, by rw [hf.2]; decide⟩
    have hp2 := hp (tx == kVoid) hv
    rw [show TS ([tx, x] ++ ([[40]] ++ (wc ++ ([[41]] ++ wb)))) ++ l = TS [tx, x] ++ (T [40] :: (TS wc ++ (T [41] :: (TS wb ++ l)))) by simp [TS]]
    rw [TS_cons] at hp2 ⊢
    simp only [itemP, hdT_T, T_text, hp2, PR.bind, beq_self_eq_true, Bool.or_true, if_true, reduceIte]
    refine Rs.bind (com_rs N ps wc h6 (fun k _ w hw => (param_rs (D := D) k w [] hw).2) (fun k _ w l' hw _ _ => (param_rs k w l' hw).1)) fun ts hts => ?_
    refine Rs.bind (rs_deeper (fun h => absurd h (by decide)) ((pm_all D N).f n blk wb (0 + 1) l h9 (fun h10 => hd (by omega)) hbn)) fun b' hb' => ?_
    rw [← hdl]
    exact Rs.ok (sameT_mk rfl rfl rfl (sameL_app (a := [a0]) (b := [_]) (sameL_one hs) (sameL_app hts (sameL_one hb'))))
  · cases h
theorem glob_rs (N : Nat) (t : Tree) (ws : List (List UInt8)) (l : List Tok) (h : globalW t = some ws) (hn : Neat t) :
    Rs D (Same t) (itemP N (TS ws ++ l)) l ∧ ∃ v r, ws = v :: r ∧ v ≠ kElse ∧ firstK v ≠ 3 := by
  obtain ⟨k, x, nm, ln, co, ks⟩ := t
  rw [globalW_mk] at h
  obtain ⟨hb, h1⟩ := ifW_some h
  simp only [Bool.and_eq_true, beq_iff_eq] at hb
  obtain ⟨rfl, hx, rfl⟩ := hb
  split at h1
  · rename_i a0
    obtain ⟨wd, u, h3, h4, rfl⟩ := catW_some (show catW (declaredW false _) (some [[59]]) = some ws from h1)
    injection h4 with h4
    subst h4
    obtain ⟨u, r', tx, hks, rfl, ht, hp, hs⟩ := decl2_rs (l := T [59] :: l) kGlobal false kGlobal x 0 ln co _ wd h3 hx
    injection hks with e1 e2
    subst e1
    have ht' : typeB tx = true := by rcases ht with h | ⟨h, _⟩; exact h; cases h
    have hf := type_facts ht'
    refine ⟨?_, _, _, rfl, hf.2.2.2.2.2.1, by rw [hf.2.2.2.2.2.2.2.1]; decide⟩
    have hp2 := hp false (by simpa using ht')
    rw [show TS ([tx, x] ++ [[59]]) ++ l = TS [tx, x] ++ (T [59] :: l) by simp [TS]]
    rw [TS_cons] at hp2 ⊢
    simp only [itemP, hdT_T, T_text, hp2, PR.bind, hf.2.2.2.2.2.2.2.2, show (([59] : List UInt8) == [40]) = false by decide, show (([59] : List UInt8) == [91]) = false by decide, Bool.or_self, Bool.false_eq_true, if_false, reduceIte, pass_T]
    exact Rs.ok (sameT_mk rfl rfl rfl (sameL_one hs))
  · rename_i a0 a1
    obtain ⟨wd0, u, h3, h4, rfl⟩ := catW_some (show catW (catW (declaredW false _) (catW (some [[91]]) (catW (numberW a1) (some [[93]])))) (some [[59]]) = some ws from h1)
    injection h4 with h4
    subst h4
    obtain ⟨wd, v, h5, h6, rfl⟩ := catW_some h3
    obtain ⟨u, v, h7, h8, rfl⟩ := catW_some h6
    injection h7 with h7
    subst h7
    obtain ⟨wn, u, h9, h10, rfl⟩ := catW_some h8
    injection h10 with h10
    subst h10
    obtain ⟨k1, x1, m1, l1, c1, ks1⟩ := a1
    rw [numberW_mk] at h9
    obtain ⟨hb, h11⟩ := ifW_some h9
    injection h11 with h11
    subst h11
    simp only [Bool.and_eq_true, beq_iff_eq, List.length_eq_zero_iff] at hb
    obtain ⟨rfl, rfl, rfl⟩ := hb
    have hn1 := hn.2.2.2.2.2.2.1
    obtain ⟨w, rfl⟩ : ∃ w : Nat, m1 = w := ⟨m1.toNat, by have := hn1.2.2.1; omega⟩
    have hw : w ≤ 18446744073709551615 := by have := hn1.2.2.2.1; omega
    obtain ⟨u, r', tx, hks, rfl, ht, hp, hs⟩ := decl2_rs (l := T [91] :: T (Lib.decDigits w) :: T [93] :: T [59] :: l) kGlobal false kGlobal x 0 ln co _ wd h5 hx
    injection hks with e1 e2
    subst e1
    have ht' : typeB tx = true := by rcases ht with h | ⟨h, _⟩; exact h; cases h
    have hf := type_facts ht'
    refine ⟨?_, _, _, rfl, hf.2.2.2.2.2.1, by rw [hf.2.2.2.2.2.2.2.1]; decide⟩
    have hp2 := hp false (by simpa using ht')
    rw [show TS ([tx, x] ++ ([[91]] ++ ([Lib.decDigits (w : Int).toNat] ++ [[93]])) ++ [[59]]) ++ l = TS [tx, x] ++ (T [91] :: T (Lib.decDigits w) :: T [93] :: T [59] :: l) by simp [TS]]
    rw [TS_cons] at hp2 ⊢
    simp only [itemP, hdT_T, T_text, hp2, PR.bind, hf.2.2.2.2.2.2.2.2, show (([91] : List UInt8) == [40]) = false by decide, beq_self_eq_true, Bool.or_self, Bool.false_eq_true, if_true, if_false, reduceIte, pass_T]
    rw [T_dec w hw]
    simp only [numberP, takeP, hdT_T, beq_self_eq_true, if_true, reduceIte, PR.bind, pass_T]
    exact Rs.ok (sameT_mk rfl rfl rfl (sameL_two hs (sameT_mk rfl rfl rfl sameL_nil)))
  · cases h1
/-- A PROGRAM THAT IS SHOWN IS READ AGAIN, or it is too deep. -/
theorem prog_rs (n N : Nat) (t : Tree) (ws : List (List UInt8)) (h : programW n t = some ws) (hn : Neat t) : Rs (20 < deepT t) (Same t) (programP N (TS ws ++ [endT])) [endT] := by
  obtain ⟨k, x, nm, ln, co, ks⟩ := t
  rw [programW_mk] at h
  obtain ⟨hb, h1⟩ := ifW_some h
  simp only [Bool.and_eq_true, beq_iff_eq] at hb
  obtain ⟨rfl, rfl, rfl⟩ := hb
  unfold programP
  refine Rs.bind (many_rs (l := [endT]) (stop := fun u => u.kind == 3) rfl (show ([] : List UInt8) ≠ kElse by decide) N ks [] [] ws h1 sameL_nil fun k hk w l' hw _ => ?_) fun ts hts => Rs.ok (sameT_mk rfl rfl rfl hts)
  have hkd := kid_deep hk kProgram [] 0 ln co
  have hkn := NeatL.mem hn.2.2.2.2.2 k hk
  have hfin : ∀ (p : Rs (20 < deepT (Tree.mk kProgram [] 0 ln co ks)) (Same k) (itemP N (TS w ++ l')) l' ∧ ∃ v r, w = v :: r ∧ v ≠ kElse ∧ firstK v ≠ 3), Rs (20 < deepT (Tree.mk kProgram [] 0 ln co ks)) (Same k) (itemP N (TS w ++ l')) l' ∧ ∃ v r, w = v :: r ∧ v ≠ kElse ∧ ((T v).kind == 3) = false := fun p => by
    obtain ⟨p1, v, r, e, p2, p3⟩ := p
    exact ⟨p1, v, r, e, p2, by unfold T; simpa using p3⟩
  apply hfin
  split at hw
  · rename_i hkf
    exact func_rs n N k w l' (by simpa using hkf) hw (fun h6 => by omega) hkn
  · exact glob_rs N k w l' hw hkn
end
end Go.Proofs.YtnalgnklgmoepaaGreatDoor
