/- How many nodes a diagram has, by its table: the mathematics. -/
import Derived.Test.YtailpphafoamfaaMMn
set_option linter.all false
namespace Go.Proofs.Ytailpphafoamfaa

/-- A part of a table. -/
def pieceT (t : List Bool) (z at' : Nat) : List Bool := (t.drop at').take z
theorem piece_map {n v j : Nat} {F : (Nat → Bool) → Bool} (h : Hangs n F) (hv : v ≤ n) (hj : j < 2 ^ v) : pieceT (tabF n F) (2 ^ (n - v)) (j * 2 ^ (n - v)) = tabR F (n - v) v (way v j) := by
  rw [← tab_R h (n - v) v (way v j) (by omega)]
  have hp : 2 ^ n = 2 ^ v * 2 ^ (n - v) := by rw [← Nat.pow_add]; congr 1; omega
  have hle : (j + 1) * 2 ^ (n - v) ≤ 2 ^ v * 2 ^ (n - v) := Nat.mul_le_mul_right _ hj
  rw [Nat.add_mul, Nat.one_mul] at hle
  apply List.ext_getElem
  · unfold pieceT
    rw [List.length_take, List.length_drop, tab_len, List.length_map, List.length_range, hp]
    omega
  · intro i h1 h2
    have hi : i < 2 ^ (n - v) := by simpa using h2
    have hlt : j * 2 ^ (n - v) + i < 2 ^ n := by rw [hp]; omega
    have e1 : (pieceT (tabF n F) (2 ^ (n - v)) (j * 2 ^ (n - v)))[i] = F (way n (j * 2 ^ (n - v) + i)) := by
      have e0 : (pieceT (tabF n F) (2 ^ (n - v)) (j * 2 ^ (n - v)))[i]? = some (F (way n (j * 2 ^ (n - v) + i))) := by
        unfold pieceT
        rw [List.getElem?_take_of_lt hi, List.getElem?_drop]
        exact tab_get F hlt
      rw [List.getElem?_eq_getElem h1] at e0
      exact Option.some.inj e0
    rw [e1]
    simp only [List.getElem_map, List.getElem_range]
    refine h _ _ fun x hx => ?_
    unfold mixM way
    rw [Nat.mul_comm j, Nat.testBit_two_pow_mul_add j hi]
    by_cases hxv : x < v
    · rw [if_pos hxv, if_neg (by omega)]
      congr 1
      omega
    · rw [if_neg hxv, if_pos (by omega)]
theorem tabR_len {F : (Nat → Bool) → Bool} : ∀ k v m, (tabR F k v m).length = 2 ^ k
  | 0, _, _ => rfl
  | k + 1, v, m => by
    unfold tabR
    rw [List.length_append, tabR_len k, tabR_len k, Nat.pow_succ]
    omega
/-- Tables that are the same are of functions that agree from there on. -/
theorem tabR_inj {F G : (Nat → Bool) → Bool} : ∀ k v m m2, tabR F k v m = tabR G k v m2 → ∀ b : Nat → Bool, F (fun x => if x < v then m x else if x < v + k then b x else m x) = G (fun x => if x < v then m2 x else if x < v + k then b x else m2 x)
  | 0, v, m, m2, h, b => by
    have e : F m = G m2 := by
      have h' : [F m] = [G m2] := h
      simpa using h'
    have e1 : (fun x => if x < v then m x else if x < v + 0 then b x else m x) = m := by
      funext x
      by_cases h1 : x < v
      · rw [if_pos h1]
      · rw [if_neg h1, if_neg (by omega)]
    have e2 : (fun x => if x < v then m2 x else if x < v + 0 then b x else m2 x) = m2 := by
      funext x
      by_cases h1 : x < v
      · rw [if_pos h1]
      · rw [if_neg h1, if_neg (by omega)]
    rw [e1, e2, e]
  | k + 1, v, m, m2, h, b => by
    unfold tabR at h
    have hlen : (tabR F k (v + 1) (setM m v false)).length = (tabR G k (v + 1) (setM m2 v false)).length := by rw [tabR_len, tabR_len]
    obtain ⟨h0, h1⟩ := List.append_inj h hlen
    have key : ∀ (m : Nat → Bool), (fun x => if x < v + 1 then setM m v (b v) x else if x < v + 1 + k then b x else setM m v (b v) x) = fun x => if x < v then m x else if x < v + (k + 1) then b x else m x := by
      intro m
      funext x
      by_cases e1 : x < v
      · rw [if_pos (by omega), if_pos e1, setM_other _ _ (by omega)]
      · rw [if_neg e1]
        by_cases e2 : x = v
        · subst e2
          rw [if_pos (by omega), if_pos (by omega), setM_same]
        · rw [if_neg (by omega)]
          by_cases e3 : x < v + 1 + k
          · rw [if_pos e3, if_pos (by omega)]
          · rw [if_neg e3, if_neg (by omega), setM_other _ _ e2]
    rw [← key m, ← key m2]
    cases b v with
    | false => exact tabR_inj k (v + 1) _ _ h0 b
    | true => exact tabR_inj k (v + 1) _ _ h1 b
section
variable {V : Nat} {L : List Nd}
/-- Where some variables lead. -/
theorem WF.walk_to (hw : WF V L) {f : Nat} (hf : f < L.length) (m : Nat → Bool) : ∀ v, v ≤ V → ∃ x, (x ≤ 1 ∨ x ∈ vis L [] f) ∧ x < L.length ∧ v ≤ ask L x ∧ ∀ m', (∀ u, u < v → m' u = m u) → ev L f m' = ev L x m'
  | 0, _ => ⟨f, (hw.vis_ok f [] hf (by simp) (by simp)).2.1, hf, Nat.zero_le _, fun _ _ => rfl⟩
  | v + 1, hv => by
    obtain ⟨x, h1, h2, h3, h4⟩ := hw.walk_to hf m v (by omega)
    by_cases hx : v < ask L x
    · exact ⟨x, h1, h2, hx, fun m' hm => h4 m' fun u hu => hm u (by omega)⟩
    · have hx2 : 2 ≤ x := by
        apply Classical.byContradiction
        intro hc
        have := hw.ask_end (i := x) (by omega)
        omega
      obtain ⟨n, hn⟩ := get_lt h2
      obtain ⟨a1, a2, a3, a4, a5, a6⟩ := hw.nd x n hx2 hn
      have hnv : n.v = v := by have := ask_at hn; omega
      have hs := h1.resolve_left (by omega)
      obtain ⟨n', hn', ca, cb⟩ := ((hw.vis_ok f [] hf (by simp) (by simp)).2.2.2.2 x hs).resolve_left (by simp)
      have : n' = n := by rw [hn] at hn'; exact (Option.some.inj hn').symm
      subst this
      refine ⟨if m v = true then n'.b else n'.a, ?_, ?_, ?_, fun m' hm => ?_⟩
      · split <;> assumption
      · split <;> omega
      · split <;> omega
      · rw [h4 m' fun u hu => hm u (by omega), hw.ev_node m' hx2 hn, hnv, hm v (by omega)]
        split <;> rfl
/-- How each node that is met is come to. -/
def Pth (L : List Nd) (i j : Nat) : Prop := ∃ m : Nat → Bool, ∀ m', (∀ u, u < ask L j → m' u = m u) → ev L i m' = ev L j m'
theorem WF.pth_up (hw : WF V L) {i c j : Nat} {n : Nd} (h2 : 2 ≤ i) (hn : L[i]? = some n) (hc : c = n.a ∨ c = n.b) (hcj : ask L c ≤ ask L j) (hj : j < L.length) (h : Pth L c j) : Pth L i j := by
  obtain ⟨a1, a2, a3, a4, a5, a6⟩ := hw.nd i n h2 hn
  have hi := (List.getElem?_eq_some_iff.1 hn).1
  obtain ⟨m2, hm2⟩ := h
  have hvc : n.v < ask L c := by rcases hc with rfl | rfl <;> assumption
  have hcl : c < L.length := by rcases hc with rfl | rfl <;> omega
  obtain ⟨bit, hbit⟩ : ∃ bit : Bool, (if bit = true then n.b else n.a) = c := by
    rcases hc with rfl | rfl
    · exact ⟨false, by simp⟩
    · exact ⟨true, by simp⟩
  refine ⟨setM m2 n.v bit, fun m' hm => ?_⟩
  have e1 : m' n.v = bit := by rw [hm n.v (by omega), setM_same]
  have e2 : ev L i m' = ev L c m' := by
    rw [hw.ev_node m' h2 hn, e1, ← hbit]
    cases bit <;> rfl
  rw [e2, ← hw.ev_skip m' (m2 n.v) hcl hvc, ← hw.ev_skip m' (m2 n.v) hj (show n.v < ask L j by omega)]
  refine hm2 _ fun u hu => ?_
  by_cases e : u = n.v
  · subst e; rw [setM_same]
  · rw [setM_other _ _ e, hm u hu, setM_other _ _ e]
theorem WF.pth_vis (hw : WF V L) : ∀ i s, i < L.length → ∀ j ∈ vis L s i, j ∈ s ∨ (j < L.length ∧ ask L i ≤ ask L j ∧ Pth L i j) := by
  intro i
  induction i using Nat.strongRecOn with
  | ind i ih =>
    intro s hl j hj
    by_cases hc : i ≤ 1 ∨ i ∈ s
    · rw [vis_met hc] at hj
      exact .inl hj
    · obtain ⟨n, hn⟩ := get_lt hl
      have hh := hw.nd i n (by omega) hn
      have hai := ask_at hn
      rw [hw.vis_node hc hn] at hj
      rcases ih n.b (by omega) _ (by omega) j hj with h1 | ⟨h1, h2, h3⟩
      · rcases ih n.a (by omega) _ (by omega) j h1 with h2 | ⟨h2, h3, h4⟩
        · rcases List.mem_append.1 h2 with h3 | h3
          · exact .inl h3
          · simp at h3
            subst h3
            exact .inr ⟨hl, Nat.le_refl _, fun _ => false, fun _ _ => rfl⟩
        · exact .inr ⟨h2, by omega, hw.pth_up (by omega) hn (.inl rfl) h3 h2 h4⟩
      · exact .inr ⟨h1, by omega, hw.pth_up (by omega) hn (.inr rfl) h2 h1 h3⟩
end
end Go.Proofs.Ytailpphafoamfaa
