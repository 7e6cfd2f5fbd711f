/- How many nodes a diagram has is how many different parts that ask its table has. -/
import Derived.Test.YtailpphafoamfaaMMo
set_option linter.all false
namespace Go.Proofs.Ytailpphafoamfaa

/-- A part whose halves differ is kept, once. -/
def addP (z : Nat) (ps : List (List Bool)) (p : List Bool) : List (List Bool) := if p.take (z / 2) = p.drop (z / 2) then ps else if p ∈ ps then ps else ps ++ [p]
theorem addP_nodup {z : Nat} {ps : List (List Bool)} {p : List Bool} (h : ps.Nodup) : (addP z ps p).Nodup := by
  unfold addP
  split
  · exact h
  · split
    · exact h
    · rename_i h1 h2
      refine List.nodup_append.2 ⟨h, by simp, fun a ha b hb => ?_⟩
      simp at hb
      subst hb
      exact fun e => h2 (e ▸ ha)
theorem mem_addP {z : Nat} {ps : List (List Bool)} {p q : List Bool} : q ∈ addP z ps p ↔ q ∈ ps ∨ (q = p ∧ p.take (z / 2) ≠ p.drop (z / 2)) := by
  unfold addP
  split
  · rename_i h1
    simp [h1]
  · split
    · rename_i h1 h2
      exact ⟨.inl, fun h => h.elim id fun h => h.1 ▸ h2⟩
    · rename_i h1 h2
      simp [h1]
def lvl (t : List Bool) (z c : Nat) (ps : List (List Bool)) : List (List Bool) := (List.range c).foldl (fun ps j => addP z ps (pieceT t z (j * z))) ps
theorem lvl_succ (t : List Bool) (z c : Nat) (ps : List (List Bool)) : lvl t z (c + 1) ps = addP z (lvl t z c ps) (pieceT t z (c * z)) := by
  unfold lvl
  rw [List.range_succ, List.foldl_append]
  rfl
theorem lvl_nodup {t : List Bool} {z : Nat} {ps : List (List Bool)} (h : ps.Nodup) : ∀ c, (lvl t z c ps).Nodup
  | 0 => h
  | c + 1 => by rw [lvl_succ]; exact addP_nodup (lvl_nodup h c)
theorem mem_lvl {t : List Bool} {z : Nat} {ps : List (List Bool)} {q : List Bool} : ∀ c, q ∈ lvl t z c ps ↔ q ∈ ps ∨ ∃ j, j < c ∧ q = pieceT t z (j * z) ∧ q.take (z / 2) ≠ q.drop (z / 2)
  | 0 => ⟨.inl, fun h => h.elim id fun ⟨_, h, _⟩ => absurd h (by omega)⟩
  | c + 1 => by
    rw [lvl_succ, mem_addP, mem_lvl c]
    constructor
    · rintro ((h | ⟨j, h1, h2⟩) | ⟨h1, h2⟩)
      · exact .inl h
      · exact .inr ⟨j, by omega, h2⟩
      · exact .inr ⟨c, by omega, h1, by rw [h1]; exact h2⟩
    · rintro (h | ⟨j, h1, h2, h3⟩)
      · exact .inl (.inl h)
      · by_cases e : j = c
        · subst e
          exact .inr ⟨h2, by rw [← h2]; exact h3⟩
        · exact .inl (.inr ⟨j, by omega, h2, h3⟩)
/-- The parts of a table that ask. -/
def partsT (n : Nat) (t : List Bool) (w : Nat) : List (List Bool) := (List.range w).foldl (fun ps v => lvl t (2 ^ (n - v)) (2 ^ v) ps) []
theorem parts_succ (n : Nat) (t : List Bool) (w : Nat) : partsT n t (w + 1) = lvl t (2 ^ (n - w)) (2 ^ w) (partsT n t w) := by
  unfold partsT
  rw [List.range_succ, List.foldl_append]
  rfl
theorem parts_nodup {n : Nat} {t : List Bool} : ∀ w, (partsT n t w).Nodup
  | 0 => by simp [partsT]
  | w + 1 => by rw [parts_succ]; exact lvl_nodup (parts_nodup w) _
theorem mem_parts {n : Nat} {t q : List Bool} : ∀ w, q ∈ partsT n t w ↔ ∃ v, v < w ∧ ∃ j, j < 2 ^ v ∧ q = pieceT t (2 ^ (n - v)) (j * 2 ^ (n - v)) ∧ q.take (2 ^ (n - v) / 2) ≠ q.drop (2 ^ (n - v) / 2)
  | 0 => ⟨fun h => by simp [partsT] at h, fun ⟨_, h, _⟩ => absurd h (by omega)⟩
  | w + 1 => by
    rw [parts_succ, mem_lvl, mem_parts w]
    constructor
    · rintro (⟨v, h1, h2⟩ | h)
      · exact ⟨v, by omega, h2⟩
      · exact ⟨w, by omega, h⟩
    · rintro ⟨v, h1, h2⟩
      by_cases e : v = w
      · subst e
        exact .inr h2
      · exact .inl ⟨v, by omega, h2⟩
/-- What a table says hangs on no variable ahead of it. -/
theorem tabR_low {F : (Nat → Bool) → Bool} {w N : Nat} (hF : ∀ a b : Nat → Bool, (∀ u, w ≤ u → u < N → a u = b u) → F a = F b) : ∀ k v m m', v + k = N → (∀ u, w ≤ u → u < v → m u = m' u) → tabR F k v m = tabR F k v m'
  | 0, v, m, m', e, h => by
    show [F m] = [F m']
    rw [hF m m' fun u h1 h2 => h u h1 (by omega)]
  | k + 1, v, m, m', e, h => by
    have key : ∀ b, ∀ u, w ≤ u → u < v + 1 → setM m v b u = setM m' v b u := by
      intro b u h1 h2
      by_cases hu : u = v
      · subst hu
        rw [setM_same, setM_same]
      · rw [setM_other _ _ hu, setM_other _ _ hu, h u h1 (by omega)]
    unfold tabR
    rw [tabR_low hF k (v + 1) _ _ (by omega) (key false), tabR_low hF k (v + 1) _ _ (by omega) (key true)]
theorem tabR_halves {F : (Nat → Bool) → Bool} (k v : Nat) (m : Nat → Bool) : (tabR F (k + 1) v m).take (2 ^ (k + 1) / 2) = tabR F k (v + 1) (setM m v false) ∧ (tabR F (k + 1) v m).drop (2 ^ (k + 1) / 2) = tabR F k (v + 1) (setM m v true) := by
  have e : 2 ^ (k + 1) / 2 = (tabR F k (v + 1) (setM m v false)).length := by
    rw [tabR_len, Nat.pow_succ]
    omega
  have e2 : tabR F (k + 1) v m = tabR F k (v + 1) (setM m v false) ++ tabR F k (v + 1) (setM m v true) := rfl
  rw [e, e2, List.take_left, List.drop_left]
  exact ⟨rfl, rfl⟩
section
variable {V : Nat} {L : List Nd}
/-- Nodes with the same tables are one. -/
theorem WF.tab_one (hw : WF V L) {i j v : Nat} (hi : i < L.length) (hj : j < L.length) (hvi : v ≤ ask L i) (hvj : v ≤ ask L j) (hv : v ≤ V) (m m2 : Nat → Bool) (h : tabR (ev L i) (V - v) v m = tabR (ev L j) (V - v) v m2) : i = j := by
  refine hw.one hi hj fun b => ?_
  have := tabR_inj (V - v) v m m2 h b
  rw [hw.ev_dep _ b i hi fun x h1 h2 => ?_, hw.ev_dep _ b j hj fun x h1 h2 => ?_] at this
  · exact this
  · rw [if_neg (by omega), if_pos (by omega)]
  · rw [if_neg (by omega), if_pos (by omega)]
/-- The table of a node that asks v differs in its halves. -/
theorem WF.tab_dif (hw : WF V L) {i k v : Nat} (h2 : 2 ≤ i) (hi : i < L.length) (hv : ask L i = v) (hk : v + (k + 1) = V) (m : Nat → Bool) : tabR (ev L i) k (v + 1) (setM m v false) ≠ tabR (ev L i) k (v + 1) (setM m v true) := by
  intro h
  obtain ⟨n, hn⟩ := get_lt hi
  obtain ⟨a1, a2, a3, a4, a5, a6⟩ := hw.nd i n h2 hn
  have hnv : n.v = v := by have := ask_at hn; omega
  have key : ∀ b : Bool, tabR (ev L i) k (v + 1) (setM m v b) = tabR (ev L (if b then n.b else n.a)) k (v + 1) (setM m v b) := by
    intro b
    refine tabR_congr _ _ _ fun m' hm => ?_
    have e : m' n.v = b := by rw [hm n.v (by omega), hnv, setM_same]
    rw [hw.ev_node m' h2 hn, e]
    cases b <;> rfl
  rw [key false, key true] at h
  refine a4 (hw.tab_one (v := v + 1) (by omega) (by omega) (by omega) (by omega) (by omega) (setM m v false) (setM m v true) ?_)
  rw [show V - (v + 1) = k from by omega]
  exact h
/-- Where a node asks no v the halves are the same. -/
theorem WF.tab_same (hw : WF V L) {i k v : Nat} (hi : i < L.length) (hv : v < ask L i) (hk : v + (k + 1) = V) (m : Nat → Bool) : tabR (ev L i) k (v + 1) (setM m v false) = tabR (ev L i) k (v + 1) (setM m v true) := by
  refine tabR_low (w := v + 1) (N := V) (fun a b h => hw.ev_dep a b i hi fun x h1 h2 => h x (by omega) h2) k (v + 1) _ _ (by omega) fun u h1 h2 => by omega
/-- HOW MANY NODES A DIAGRAM HAS. -/
theorem WF.parts_len (hw : WF V L) {f : Nat} (hf : f < L.length) : (partsT V (tabF V (ev L f)) V).length = (vis L [] f).length := by
  obtain ⟨-, -, hd, hin, -⟩ := hw.vis_ok f [] hf (by simp) (by simp)
  let g : Nat → List Bool := fun x => tabR (ev L x) (V - ask L x) (ask L x) fun _ => false
  have hH : Hangs V (ev L f) := fun m m' h => hw.ev_dep m m' f hf fun x _ h2 => h x h2
  have hvis : ∀ x ∈ vis L [] f, 2 ≤ x ∧ x < L.length ∧ ask L x < V := by
    intro x hx
    have h1 := (hin x hx).resolve_left (by simp)
    obtain ⟨n, hn⟩ := get_lt (show x < L.length by omega)
    have := (hw.nd x n h1.1 hn).1
    have := ask_at hn
    exact ⟨h1.1, by omega, by omega⟩
  have hgl : ∀ x, (g x).length = 2 ^ (V - ask L x) := fun x => tabR_len _ _ _
  have hg : ∀ x ∈ vis L [] f, ∀ m, tabR (ev L x) (V - ask L x) (ask L x) m = g x := by
    intro x hx m
    obtain ⟨h1, h2, h3⟩ := hvis x hx
    exact tabR_low (w := ask L x) (N := V) (fun a b h => hw.ev_dep a b x h2 h) _ _ _ _ (by omega) fun u h4 h5 => by omega
  have hmap : ((vis L [] f).map g).Nodup := by
    refine List.Pairwise.map g (R := fun a b => a ≠ b ∧ a ∈ vis L [] f ∧ b ∈ vis L [] f) (fun a b ⟨h1, ha, hb⟩ e => h1 ?_) ?_
    · obtain ⟨a1, a2, a3⟩ := hvis a ha
      obtain ⟨b1, b2, b3⟩ := hvis b hb
      have hl := congrArg List.length e
      rw [hgl, hgl] at hl
      have he := (Nat.pow_right_inj (by omega)).1 hl
      have hab : ask L a = ask L b := by omega
      refine hw.tab_one (v := ask L a) a2 b2 (Nat.le_refl _) (by omega) (by omega) (fun _ => false) (fun _ => false) ?_
      have e' : tabR (ev L a) (V - ask L a) (ask L a) (fun _ => false) = tabR (ev L b) (V - ask L b) (ask L b) (fun _ => false) := e
      rw [← hab] at e'
      exact e'
    · exact (List.Pairwise.and_mem.1 hd).imp fun ⟨h1, h2, h3⟩ => ⟨h3, h1, h2⟩
  have hlen : ((vis L [] f).map g).length = (vis L [] f).length := List.length_map g
  rw [← hlen]
  refine ((List.perm_ext_iff_of_nodup (parts_nodup V) hmap).2 fun q => ?_).length_eq
  rw [mem_parts, List.mem_map]
  constructor
  · rintro ⟨v, hv, j, hj, hq, hdif⟩
    rw [piece_map hH (by omega) hj] at hq
    obtain ⟨x, h1, h2, h3, h4⟩ := hw.walk_to hf (way v j) v (by omega)
    rw [tabR_congr (G := ev L x) (V - v) v (way v j) h4] at hq
    obtain ⟨k, hk⟩ : ∃ k, V - v = k + 1 := ⟨V - v - 1, by omega⟩
    rw [hk] at hq hdif
    have hh := tabR_halves (F := ev L x) k v (way v j)
    rw [hq, hh.1, hh.2] at hdif
    have hax : ask L x = v := by
      apply Classical.byContradiction
      intro hc
      exact hdif (hw.tab_same h2 (by omega) (by omega) _)
    have hx : x ∈ vis L [] f := by
      refine h1.resolve_left fun hc => ?_
      have := hw.ask_end hc
      omega
    refine ⟨x, hx, ?_⟩
    rw [← hg x hx (way v j), hax, hk, hq]
  · rintro ⟨x, hx, rfl⟩
    obtain ⟨h1, h2, h3⟩ := hvis x hx
    obtain ⟨-, -, m, hm⟩ := (hw.pth_vis f [] hf x hx).resolve_left (by simp)
    have e : pieceT (tabF V (ev L f)) (2 ^ (V - ask L x)) (noOf (ask L x) m * 2 ^ (V - ask L x)) = g x := by
      rw [piece_map hH (by omega) (noOf_lt _ _), ← hg x hx (way (ask L x) (noOf (ask L x) m))]
      exact tabR_congr _ _ _ fun m' h => hm m' fun u hu => (h u hu).trans (way_noOf m hu)
    refine ⟨ask L x, h3, noOf (ask L x) m, noOf_lt _ _, e.symm, ?_⟩
    obtain ⟨k, hk⟩ : ∃ k, V - ask L x = k + 1 := ⟨V - ask L x - 1, by omega⟩
    have hh := tabR_halves (F := ev L x) k (ask L x) fun _ => false
    show (tabR (ev L x) (V - ask L x) (ask L x) fun _ => false).take _ ≠ (tabR (ev L x) (V - ask L x) (ask L x) fun _ => false).drop _
    rw [hk, hh.1, hh.2]
    exact hw.tab_dif h1 h2 rfl (by omega) _
end
end Go.Proofs.Ytailpphafoamfaa
