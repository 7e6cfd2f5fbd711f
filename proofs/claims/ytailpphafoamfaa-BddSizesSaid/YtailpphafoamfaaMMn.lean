/- In how many ways a diagram is true, and the first of them, by its table: the mathematics. -/
import Derived.Test.YtailpphafoamfaaPzas
set_option linter.all false
namespace Go.Proofs.Ytailpphafoamfaa

/-- A table, variable by variable. -/
def tabR (F : (Nat → Bool) → Bool) : Nat → Nat → (Nat → Bool) → List Bool
  | 0, _, m => [F m]
  | k + 1, v, m => tabR F k (v + 1) (setM m v false) ++ tabR F k (v + 1) (setM m v true)
def mixM (n v : Nat) (m : Nat → Bool) (i : Nat) : Nat → Bool := fun x => if x < v then m x else way n i x
theorem tab_R {n : Nat} {F : (Nat → Bool) → Bool} (h : Hangs n F) : ∀ k v m, v + k = n → (List.range (2 ^ k)).map (fun i => F (mixM n v m i)) = tabR F k v m
  | 0, v, m, e => by
    show [F (mixM n v m 0)] = [F m]
    congr 1
    refine h _ _ fun x hx => ?_
    unfold mixM
    rw [if_pos (by omega)]
  | k + 1, v, m, e => by
    have ih0 := tab_R h k (v + 1) (setM m v false) (by omega)
    have ih1 := tab_R h k (v + 1) (setM m v true) (by omega)
    unfold tabR
    rw [← ih0, ← ih1, show 2 ^ (k + 1) = 2 ^ k + 2 ^ k from by rw [Nat.pow_succ]; omega, List.range_add, List.map_append, List.map_map]
    congr 1
    · refine List.map_congr_left fun i hi => h _ _ fun x hx => ?_
      have hi' : i < 2 ^ k := by simpa using hi
      unfold mixM way
      by_cases h1 : x < v
      · rw [if_pos h1, if_pos (by omega), setM_other _ _ (by omega)]
      · rw [if_neg h1]
        by_cases h2 : x = v
        · subst h2
          rw [if_pos (by omega), setM_same, show n - 1 - x = k from by omega, Nat.testBit_lt_two_pow hi']
        · rw [if_neg (by omega)]
    · refine List.map_congr_left fun i hi => h _ _ fun x hx => ?_
      have hi' : i < 2 ^ k := by simpa using hi
      unfold mixM way
      by_cases h1 : x < v
      · rw [if_pos h1, if_pos (by omega), setM_other _ _ (by omega)]
      · rw [if_neg h1]
        by_cases h2 : x = v
        · subst h2
          rw [if_pos (by omega), setM_same, show n - 1 - x = k from by omega, Nat.testBit_two_pow_add_eq, Nat.testBit_lt_two_pow hi']
          rfl
        · rw [if_neg (by omega), Nat.testBit_two_pow_add_gt (by omega)]
theorem tab_eqR {n : Nat} {F : (Nat → Bool) → Bool} (h : Hangs n F) (m : Nat → Bool) : tabF n F = tabR F n 0 m := by
  rw [← tab_R h n 0 m (by omega)]
  unfold tabF
  refine List.map_congr_left fun i _ => ?_
  rfl
theorem tabR_congr {F G : (Nat → Bool) → Bool} : ∀ k v m, (∀ m', (∀ x, x < v → m' x = m x) → F m' = G m') → tabR F k v m = tabR G k v m
  | 0, v, m, h => by
    show [F m] = [G m]
    rw [h m fun _ _ => rfl]
  | k + 1, v, m, h => by
    unfold tabR
    rw [tabR_congr k (v + 1) _ fun m' h' => h m' fun x hx => (h' x (by omega)).trans (setM_other _ _ (by omega)), tabR_congr k (v + 1) _ fun m' h' => h m' fun x hx => (h' x (by omega)).trans (setM_other _ _ (by omega))]
theorem fold_lex : ∀ (l l' : List Bool) (a v : Nat), l.length = l'.length → v < l.length → (∀ u, u < v → l.getD u false = l'.getD u false) → l.getD v false = false → l'.getD v false = true → l.foldl atS a < l'.foldl atS a
  | [], _, _, _, _, h, _, _, _ => by simp at h
  | _ :: _, [], _, _, h, _, _, _, _ => by simp at h
  | b :: t, b' :: t', a, 0, h, _, _, h1, h2 => by
    have e1 : b = false := h1
    have e2 : b' = true := h2
    subst e1 e2
    have k1 := (fold_bounds t (atS a false)).2
    have k2 := (fold_bounds t' (atS a true)).1
    have hl : t.length = t'.length := by simpa using h
    rw [hl] at k1
    have e3 : atS a false + 1 = atS a true := by unfold atS; simp
    rw [e3] at k1
    exact Nat.lt_of_lt_of_le k1 k2
  | b :: t, b' :: t', a, v + 1, h, hv, hu, h1, h2 => by
    have e0 : b = b' := hu 0 (by omega)
    subst e0
    exact fold_lex t t' (atS a b) v (by simpa using h) (by simpa using hv) (fun u hlt => hu (u + 1) (by omega)) h1 h2
theorem cnt_app (a b : List Bool) : cntT (a ++ b) = cntT a + cntT b := List.count_append
section
variable {V : Nat} {L : List Nd}
theorem WF.cnt_node (hw : WF V L) : ∀ k v i, v + k = V → i < L.length → v ≤ ask L i → ∀ m, cntT (tabR (ev L i) k v m) = cN L i * 2 ^ (ask L i - v)
  | 0, v, i, e, hi, hv, m => by
    have h1 : i ≤ 1 := Nat.le_of_not_lt fun h2 => by have := hw.ask_lt (i := i) h2 hi; omega
    have h2 := hw.ask_end h1
    rw [cN_end h1, show ask L i - v = 0 from by omega]
    show cntT [ev L i m] = _
    rw [ev_end m h1]
    rcases (by omega : i = 0 ∨ i = 1) with rfl | rfl <;> rfl
  | k + 1, v, i, e, hi, hv, m => by
    unfold tabR
    rw [cnt_app]
    by_cases hlt : v < ask L i
    · rw [hw.cnt_node k (v + 1) i (by omega) hi (by omega), hw.cnt_node k (v + 1) i (by omega) hi (by omega)]
      rw [show ask L i - v = (ask L i - (v + 1)) + 1 from by omega, Nat.pow_succ, ← Nat.mul_assoc]
      omega
    · have h2 : 2 ≤ i := by
        apply Classical.byContradiction
        intro hc
        have := hw.ask_end (i := i) (by omega)
        omega
      obtain ⟨n, hn⟩ := get_lt hi
      obtain ⟨a1, a2, a3, a4, a5, a6⟩ := hw.nd i n h2 hn
      have hav := ask_at hn
      have hnv : n.v = v := by omega
      have e0 : tabR (ev L i) k (v + 1) (setM m v false) = tabR (ev L n.a) k (v + 1) (setM m v false) := tabR_congr _ _ _ fun m' h' => by
        rw [hw.ev_node m' h2 hn, hnv, h' v (by omega), setM_same]
        simp
      have e1 : tabR (ev L i) k (v + 1) (setM m v true) = tabR (ev L n.b) k (v + 1) (setM m v true) := tabR_congr _ _ _ fun m' h' => by
        rw [hw.ev_node m' h2 hn, hnv, h' v (by omega), setM_same]
        simp
      rw [e0, e1, hw.cnt_node k (v + 1) n.a (by omega) (by omega) (by omega), hw.cnt_node k (v + 1) n.b (by omega) (by omega) (by omega), hw.cN_node h2 hn, hav, hnv]
      rw [show v - v = 0 from by omega, Nat.pow_zero, Nat.mul_one]
      congr 1
theorem WF.cnt_tab (hw : WF V L) {i : Nat} (hi : i < L.length) : cntT (tabF V (ev L i)) = cN L i * 2 ^ ask L i := by
  rw [tab_eqR (hw.hangs hi) (fun _ => false), hw.cnt_node V 0 i (by omega) hi (Nat.zero_le _)]
  rfl
/-- The first way's number is the first entry that is true. -/
theorem WF.first_at (hw : WF V L) {f : Nat} (hf : f < L.length) {l : List Bool} (hl : l.length = V) (h : First V L f (lookB l)) :
    atL l < 2 ^ V ∧ (tabF V (ev L f)).getD (atL l) false = true ∧ ∀ j, j < atL l → (tabF V (ev L f)).getD j false = false := by
  have hlt := atL_lt l
  rw [hl] at hlt
  have hh := hw.hangs hf
  have hway : ∀ v, v < V → way V (atL l) v = lookB l v := fun v hv => way_at hl hv
  refine ⟨hlt, ?_, fun j hj => ?_⟩
  · rw [tab_getD _ hlt, hh _ _ hway]
    exact h.tr
  · have hjl : j < 2 ^ V := by omega
    rw [tab_getD _ hjl]
    cases hx : ev L f (way V j) with
    | false => rfl
    | true =>
      exfalso
      rcases h.lex _ hx with ⟨v, hv, h1, h2, h3⟩ | h1
      · have : atL l < j := by
          have h4 := fold_lex l (wayL V j) 0 v (by rw [hl, wayL_len]) (by omega) (fun u hu => by rw [wayL_get (by omega)]; exact (h1 u hu).symm) h2 (by rw [wayL_get hv]; exact h3)
          have h5 : (wayL V j).foldl atS 0 = j := at_way hjl
          rw [h5] at h4
          exact h4
        omega
      · have : j = atL l := way_inj hjl hlt fun v hv => (h1 v hv).trans (hway v hv).symm
        omega
end
end Go.Proofs.Ytailpphafoamfaa
