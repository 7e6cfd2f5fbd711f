/- Maps as what they give: a map's block, by values. Diagrams as lists of nodes: what each one is true of; two that are true in the same ways are one. A region whose order is drawn, in which loads go ahead of calls: one way serves all. A region whose order is drawn: moves that wait for nothing, and loads ahead of a tail that is partly taken already. A store and a draft in memory: whose each block is, and what stays. sync.Once, and the atomics: their parts. sync.Once: the map of a store's numbers is made once. -/
import Derived.Test.YtailpphafoamfaaProg
import Derived.WalkKit
import Derived.Below
import Derived.Maps.OwnSet
import Derived.DeepKeys4
import Derived.Lib.Hide
import Derived.OrdersHeld
import Derived.Deep.RegionHeld
import Derived.Laws.OwnMore
import Derived.Deep.AppendLies
import Derived.Deep.Onto
import Derived.Maps.AppendAt
import Derived.Deep.Draws
import Derived.Tactics
import Derived.Tactics2
import Derived.Defers
import Derived.Laws.Pointers
import Derived.Laws.LoneSync
import Derived.Laws.NewBlocks
import Derived.RegionTactic
import Derived.RegionCalls
import Derived.ChangeAlike
import Derived.Carry
set_option linter.all false
namespace Go.Proofs.Ytailpphafoamfaa
open Go Go.RowKit Go.Maps Go.ChangeMaps Go.WideMaps

theorem laidOut : laidOutB Try.prog = true := by kernel_rfl
theorem row63 : (63 : TypeId) < Try.prog.types.size := of_decide_eq_true (by kernel_rfl)
theorem row125 : (125 : TypeId) < Try.prog.types.size := of_decide_eq_true (by kernel_rfl)
theorem K63 : Keyed Try.prog 63 := Keyed.of_law (deep_law_laid laidOut (m := 2) (by omega) row63 (by kernel_rfl) (by rw [Try.underlying63]))
theorem K125 : Keyed Try.prog 125 := Keyed.of_law (deep_law_laid laidOut (m := 2) (by omega) row125 (by kernel_rfl) (by rw [Try.underlying125]))
theorem K21 : Keyed Try.prog 21 := int_keyed Try.underlying21
theorem K3 : Keyed Try.prog 3 := int_keyed Try.underlying3
/-- What may be a key. -/
def IsK (k : TypeId) (v : Value) : Prop := ∃ l, keyOf Try.prog k v = some l
theorem isK21 {x : Int} (h : -2147483648 ≤ x ∧ x ≤ 2147483647) : IsK 21 (.int .i32 x) := ⟨_, keyOf_int_mk Try.underlying21 (WalkArith.wf_i32 h)⟩
theorem isK3 {x : Int} (h : -9223372036854775808 ≤ x ∧ x ≤ 9223372036854775807) : IsK 3 (.int .i64 x) := ⟨_, keyOf_int_mk Try.underlying3 (WalkArith.wf_i64 h)⟩
/-- Block b is a map that gives what f says. -/
def MapIs (k : TypeId) (w : World) (b : Nat) (f : Value → Option Value) : Prop :=
  ∃ es clock, w.heap[b]? = some (.map es clock) ∧ (∀ x ∈ es.toList, IsK k x.key) ∧ es.toList.Pairwise (fun x y => x.key ≠ y.key) ∧ (∀ x ∈ es.toList, f x.key = some x.val) ∧ (∀ v y, f v = some y → ∃ x ∈ es.toList, x.key = v) ∧ (∀ x ∈ es.toList, x.born < clock) ∧ (es.toList.map (·.born)).Nodup
open Classical in
noncomputable def updV (f : Value → Option Value) (k x : Value) : Value → Option Value := fun v => if v = k then some x else f v
theorem updV_same (f : Value → Option Value) (k x : Value) : updV f k x k = some x := by simp [updV]
theorem updV_other (f : Value → Option Value) {k v : Value} (x : Value) (h : v ≠ k) : updV f k x v = f v := by simp [updV, h]
theorem MapIs.lt {k : TypeId} {w : World} {b : Nat} {f : Value → Option Value} (h : MapIs k w b f) : b < w.heap.size := by
  obtain ⟨es, clock, h, _⟩ := h
  exact (Array.getElem?_eq_some_iff.1 h).1
theorem MapIs.move {k : TypeId} {w w' : World} {b : Nat} {f : Value → Option Value} (h : MapIs k w b f) (hb : w'.heap[b]? = w.heap[b]?) : MapIs k w' b f := by
  obtain ⟨es, clock, h, r⟩ := h
  exact ⟨es, clock, hb.trans h, r⟩
theorem MapIs.made {k : TypeId} (w : World) : MapIs k (w.alloc (.map #[] 0)) w.heap.size (fun _ => none) :=
  ⟨#[], 0, (MapKept.heap_alloc w (.map #[] 0)).1, by simp, by simp, by simp, by simp, by simp, by simp⟩
section
variable {k t e : TypeId} {w : World} {b : Nat} {f : Value → Option Value}
theorem MapIs.look (h : MapIs k w b f) (K : Keyed Try.prog k) (ht : Try.prog.underlying t = some (.map k e)) {z : Value} (hz : (zeroValue e).run Try.prog w = .ok z w) {key : Value} (hk : IsK k key) :
    (Instr.lookup t (.map (some b)) key true).run Try.prog w = .ok (.tuple #[(f key).getD z, .bool (f key).isSome]) w := by
  obtain ⟨es, clock, hb, hkeys, hpw, h1, h2, -, -⟩ := h
  obtain ⟨kl, hkey⟩ := hk
  rcases K.find w hkey es.toList hkeys with ⟨g1, g2⟩ | ⟨j, e0, g1, g2, g3⟩
  · have : f key = none := by
      cases hf : f key with
      | none => rfl
      | some y =>
        obtain ⟨x, hx, hxk⟩ := h2 key y hf
        exact absurd hxk (g2 x hx)
    rw [this]
    simp [Instr.lookup, run_underlying ht, MapKept.run_getObj_map hb, K.check w _ hkey, g1, hz, Result.andThen]
  · have : f key = some e0.val := by rw [← g3]; exact h1 e0 (List.mem_of_getElem? g2)
    rw [this]
    simp [Instr.lookup, run_underlying ht, MapKept.run_getObj_map hb, K.check w _ hkey, g1, Result.andThen]
theorem MapIs.store (h : MapIs k w b f) (K : Keyed Try.prog k) (ht : Try.prog.underlying t = some (.map k e)) {key : Value} (hk : IsK k key) (val : Value) :
    ∃ w', (Instr.mapUpdate t (.map (some b)) key val).run Try.prog w = .ok () w' ∧ MapIs k w' b (updV f key val) ∧ w.mapTurned w' b := by
  obtain ⟨es, clock, hb, hkeys, hpw, h1, h2, h3, h4⟩ := h
  obtain ⟨kl, hkey⟩ := hk
  rcases K.find w hkey es.toList hkeys with ⟨g1, g2⟩ | ⟨j, e0, g1, g2, g3⟩
  · refine ⟨setBlock w b (.map (es.push ⟨key, val, clock⟩) (clock + 1)), ?_, ⟨_, _, heap_setBlock_same hb _, ?_, ?_, ?_, ?_, ?_, ?_⟩, ⟨es, clock, _, _, hb, rfl⟩⟩
    · simp [Instr.mapUpdate, run_underlying ht, MapKept.run_getObj_map hb, K.check w false hkey, g1, MapKept.run_setObj_map _ hb, Result.andThen, setBlock]
    · intro x hx
      simp only [Array.toList_push, List.mem_append, List.mem_singleton] at hx
      rcases hx with hx | rfl
      · exact hkeys x hx
      · exact ⟨kl, hkey⟩
    · rw [Array.toList_push, List.pairwise_append]
      exact ⟨hpw, by simp, fun x hx y hy => by simp at hy; subst hy; exact g2 x hx⟩
    · intro x hx
      simp only [Array.toList_push, List.mem_append, List.mem_singleton] at hx
      rcases hx with hx | rfl
      · rw [updV_other _ _ (g2 x hx)]; exact h1 x hx
      · exact updV_same _ _ _
    · intro v y hv
      by_cases e1 : v = key
      · exact ⟨⟨key, val, clock⟩, by simp, e1.symm⟩
      · rw [updV_other _ _ e1] at hv
        obtain ⟨x, hx, hx2⟩ := h2 v y hv
        exact ⟨x, by simp [hx], hx2⟩
    · intro x hx
      simp only [Array.toList_push, List.mem_append, List.mem_singleton] at hx
      rcases hx with hx | rfl
      · have := h3 x hx; omega
      · show clock < clock + 1; omega
    · rw [Array.toList_push, List.map_append, List.nodup_append]
      refine ⟨h4, by simp, fun a ha c hc e => ?_⟩
      obtain ⟨x, hx, rfl⟩ := List.mem_map.1 ha
      have := h3 x hx
      simp at hc
      omega
  · have hj : es[j]? = some e0 := by simpa using g2
    have hjl : j < es.toList.length := (List.getElem?_eq_some_iff.1 g2).1
    have hlist : (es.modify j (fun e' => { e' with key := key, val := val })).toList = es.toList.set j { e0 with key := key, val := val } := by rw [Array.toList_modify, modify_eq_set _ _ _ _ g2]
    have hother : ∀ i x, es.toList[i]? = some x → i ≠ j → x.key ≠ key := by
      intro i x hx hij
      rw [← g3]
      have hil := (List.getElem?_eq_some_iff.1 hx)
      have hjl2 := (List.getElem?_eq_some_iff.1 g2)
      rcases Nat.lt_or_gt_of_ne hij with h' | h'
      · have := List.pairwise_iff_getElem.1 hpw i j hil.1 hjl2.1 h'
        rw [hil.2, hjl2.2] at this
        exact this
      · have := List.pairwise_iff_getElem.1 hpw j i hjl2.1 hil.1 h'
        rw [hil.2, hjl2.2] at this
        exact this.symm
    have who : ∀ x ∈ es.toList.set j { e0 with key := key, val := val }, x = { e0 with key := key, val := val } ∨ (x ∈ es.toList ∧ x.key ≠ key) := by
      intro x hx
      obtain ⟨i, hi, ex⟩ := List.getElem_of_mem hx
      rw [List.getElem_set] at ex
      split at ex
      · exact Or.inl ex.symm
      · rename_i hne
        have hi' : i < es.toList.length := by simpa using hi
        exact Or.inr ⟨ex ▸ List.getElem_mem hi', hother i x (by rw [List.getElem?_eq_getElem hi', ex]) (fun e1 => hne e1.symm)⟩
    have hborn : (es.toList.set j { e0 with key := key, val := val }).map (·.born) = es.toList.map (·.born) := by
      apply List.ext_getElem?
      intro i
      simp only [List.getElem?_map, List.getElem?_set]
      split
      · rename_i e
        subst e
        rw [g2]
        rfl
      · rfl
    refine ⟨setBlock w b (.map (es.modify j (fun e' => { e' with key := key, val := val })) clock), ?_, ⟨_, _, heap_setBlock_same hb _, ?_, ?_, ?_, ?_, ?_, ?_⟩, ⟨es, clock, _, _, hb, rfl⟩⟩
    · simp [Instr.mapUpdate, run_underlying ht, MapKept.run_getObj_map hb, K.check w false hkey, g1, hj, g3, K.stays w hkey, MapKept.run_setObj_map _ hb, Result.andThen, setBlock]
    · intro x hx
      rw [hlist] at hx
      rcases who x hx with rfl | ⟨hx', _⟩
      · exact ⟨kl, hkey⟩
      · exact hkeys x hx'
    · rw [hlist, List.pairwise_iff_getElem]
      intro i i' hi hi' hlt
      simp only [List.length_set] at hi hi'
      have hp := List.pairwise_iff_getElem.1 hpw i i' hi hi' hlt
      simp only [List.getElem_set]
      split
      · rename_i ei
        rw [if_neg (by omega)]
        subst ei
        exact (hother i' _ (List.getElem?_eq_getElem hi') (by omega)).symm
      · split
        · exact hother i _ (List.getElem?_eq_getElem hi) (by omega)
        · exact hp
    · intro x hx
      rw [hlist] at hx
      rcases who x hx with rfl | ⟨hx', hne⟩
      · exact updV_same _ _ _
      · rw [updV_other _ _ hne]; exact h1 x hx'
    · intro v y hv
      rw [hlist]
      by_cases e1 : v = key
      · exact ⟨{ e0 with key := key, val := val }, List.mem_iff_getElem.2 ⟨j, by simpa using hjl, by simp⟩, e1.symm⟩
      · rw [updV_other _ _ e1] at hv
        obtain ⟨x, hx, hx2⟩ := h2 v y hv
        obtain ⟨i, hi, ex⟩ := List.getElem_of_mem hx
        refine ⟨x, List.mem_iff_getElem.2 ⟨i, by simpa using hi, ?_⟩, hx2⟩
        rw [List.getElem_set, if_neg, ex]
        rintro rfl
        have := (List.getElem?_eq_some_iff.1 g2).2
        rw [this] at ex
        exact e1 (by rw [← hx2, ← ex, g3])
    · intro x hx
      rw [hlist] at hx
      have hx2 : x.born ∈ es.toList.map (·.born) := by rw [← hborn]; exact List.mem_map.2 ⟨x, hx, rfl⟩
      obtain ⟨y, hy, e⟩ := List.mem_map.1 hx2
      rw [← e]
      exact h3 y hy
    · rw [hlist, hborn]
      exact h4
end
end Go.Proofs.Ytailpphafoamfaa
namespace Go.Proofs.Ytailpphafoamfaa

/-- A node: the variable it asks; where it leads. -/
structure Nd where
  v : Nat
  a : Nat
  b : Nat
def ask (L : List Nd) (i : Nat) : Nat := ((L[i]?).map Nd.v).getD 0
structure WF (V : Nat) (L : List Nd) : Prop where
  two : 2 ≤ L.length
  z : L[0]? = some ⟨V, 0, 0⟩
  o : L[1]? = some ⟨V, 1, 1⟩
  nd : ∀ i n, 2 ≤ i → L[i]? = some n → n.v < V ∧ n.a < i ∧ n.b < i ∧ n.a ≠ n.b ∧ n.v < ask L n.a ∧ n.v < ask L n.b
  inj : ∀ i j n, 2 ≤ i → 2 ≤ j → L[i]? = some n → L[j]? = some n → i = j
def evF (L : List Nd) (m : Nat → Bool) : Nat → Nat → Bool
  | 0, _ => false
  | k + 1, i => if i ≤ 1 then i == 1 else match L[i]? with
    | none => false
    | some n => evF L m k (if m n.v then n.b else n.a)
def ev (L : List Nd) (i : Nat) (m : Nat → Bool) : Bool := evF L m (i + 1) i
theorem ask_at {L : List Nd} {i : Nat} {n : Nd} (h : L[i]? = some n) : ask L i = n.v := by simp [ask, h]
theorem ask_app {L K : List Nd} {i : Nat} (h : i < L.length) : ask (L ++ K) i = ask L i := by simp [ask, List.getElem?_append_left h]
theorem get_lt {L : List Nd} {i : Nat} (h : i < L.length) : ∃ n, L[i]? = some n := ⟨L[i], List.getElem?_eq_getElem h⟩
section
variable {V : Nat} {L K : List Nd}
theorem WF.ask0 (h : WF V L) : ask L 0 = V := ask_at h.z
theorem WF.ask1 (h : WF V L) : ask L 1 = V := ask_at h.o
theorem WF.ask_le (h : WF V L) {i : Nat} (hi : i < L.length) : ask L i ≤ V := by
  obtain ⟨n, hn⟩ := get_lt hi
  rw [ask_at hn]
  by_cases h2 : 2 ≤ i
  · exact Nat.le_of_lt (h.nd i n h2 hn).1
  · rcases (by omega : i = 0 ∨ i = 1) with rfl | rfl
    · rw [h.z] at hn; cases hn; exact Nat.le_refl _
    · rw [h.o] at hn; cases hn; exact Nat.le_refl _
theorem WF.ask_lt (h : WF V L) {i : Nat} (h2 : 2 ≤ i) (hi : i < L.length) : ask L i < V := by
  obtain ⟨n, hn⟩ := get_lt hi
  rw [ask_at hn]
  exact (h.nd i n h2 hn).1
theorem WF.ask_end (h : WF V L) {i : Nat} (h2 : i ≤ 1) : ask L i = V := by
  rcases (by omega : i = 0 ∨ i = 1) with rfl | rfl
  · exact h.ask0
  · exact h.ask1
theorem WF.evF_eq (h : WF V L) (m : Nat → Bool) : ∀ k i, i < k → evF L m k i = ev L i m := by
  intro k
  induction k using Nat.strongRecOn with
  | ind k ih =>
    intro i hi
    unfold ev
    match k, hi with
    | k + 1, hi =>
      unfold evF
      split
      · rfl
      · rename_i h2
        cases hn : L[i]? with
        | none => rfl
        | some n =>
          have hh := h.nd i n (by omega) hn
          simp only
          have hc : (if m n.v = true then n.b else n.a) < i := by split <;> omega
          rw [ih k (by omega) _ (by omega)]
          by_cases hki : i = k
          · subst hki
            rw [ih i (by omega) _ hc]
          · rw [ih i (by omega) _ hc]
theorem ev_end {i : Nat} (m : Nat → Bool) (h : i ≤ 1) : ev L i m = (i == 1) := by simp [ev, evF, h]
theorem ev0 (m : Nat → Bool) : ev L 0 m = false := ev_end m (by omega)
theorem ev1 (m : Nat → Bool) : ev L 1 m = true := ev_end m (by omega)
theorem WF.ev_node (h : WF V L) {i : Nat} {n : Nd} (m : Nat → Bool) (h2 : 2 ≤ i) (hn : L[i]? = some n) : ev L i m = if m n.v then ev L n.b m else ev L n.a m := by
  have hh := h.nd i n h2 hn
  have : ev L i m = evF L m i (if m n.v then n.b else n.a) := by
    show evF L m (i + 1) i = _
    rw [evF, if_neg (by omega), hn]
  rw [this, h.evF_eq m i _ (by split <;> omega)]
  split <;> rfl
/-- What a node is hangs on the variables from its own on. -/
theorem WF.ev_dep (h : WF V L) (m m' : Nat → Bool) : ∀ i, i < L.length → (∀ x, ask L i ≤ x → x < V → m x = m' x) → ev L i m = ev L i m' := by
  intro i
  induction i using Nat.strongRecOn with
  | ind i ih =>
    intro hi hm
    by_cases h2 : 2 ≤ i
    · obtain ⟨n, hn⟩ := get_lt hi
      obtain ⟨a1, a2, a3, a4, a5, a6⟩ := h.nd i n h2 hn
      have he := ask_at hn
      rw [h.ev_node m h2 hn, h.ev_node m' h2 hn, hm n.v (by omega) a1, ih n.a a2 (by omega) (fun x h1 h2 => hm x (by omega) h2), ih n.b a3 (by omega) (fun x h1 h2 => hm x (by omega) h2)]
    · rw [ev_end m (by omega), ev_end m' (by omega)]
def setM (m : Nat → Bool) (v : Nat) (b : Bool) : Nat → Bool := fun x => if x = v then b else m x
theorem setM_same (m : Nat → Bool) (v : Nat) (b : Bool) : setM m v b v = b := by simp [setM]
theorem setM_other (m : Nat → Bool) {v x : Nat} (b : Bool) (h : x ≠ v) : setM m v b x = m x := by simp [setM, h]
theorem WF.ev_skip (h : WF V L) {i v : Nat} (m : Nat → Bool) (b : Bool) (hi : i < L.length) (hv : v < ask L i) : ev L i (setM m v b) = ev L i m :=
  h.ev_dep _ _ i hi fun x h1 _ => setM_other m b (by omega)
theorem WF.low (h : WF V L) {i : Nat} {n : Nd} (m : Nat → Bool) (h2 : 2 ≤ i) (hn : L[i]? = some n) (b : Bool) : ev L i (setM m n.v b) = ev L (if b then n.b else n.a) m := by
  obtain ⟨a1, a2, a3, a4, a5, a6⟩ := h.nd i n h2 hn
  have hi := (List.getElem?_eq_some_iff.1 hn).1
  rw [h.ev_node _ h2 hn, setM_same]
  cases b
  · simp only [Bool.false_eq_true, if_false]
    exact h.ev_skip m _ (by omega) a5
  · simp only [if_true]
    exact h.ev_skip m _ (by omega) a6
/-- TWO THAT ARE TRUE IN THE SAME WAYS ARE ONE. -/
theorem WF.canon (h : WF V L) : ∀ k i j, V ≤ k + ask L i → V ≤ k + ask L j → i < L.length → j < L.length → (∀ m, ev L i m = ev L j m) → i = j := by
  have low0 : ∀ {i : Nat} {n : Nd} (m : Nat → Bool), 2 ≤ i → L[i]? = some n → ev L n.a m = ev L i (setM m n.v false) := fun m h2 hn => ((h.low m h2 hn false).trans (by simp)).symm
  have low1 : ∀ {i : Nat} {n : Nd} (m : Nat → Bool), 2 ≤ i → L[i]? = some n → ev L n.b m = ev L i (setM m n.v true) := fun m h2 hn => ((h.low m h2 hn true).trans (by simp)).symm
  intro k
  induction k with
  | zero =>
    intro i j hk hk' hi hj he
    have hi2 : i ≤ 1 := Nat.le_of_not_lt fun h2 => by have := h.ask_lt (i := i) h2 hi; omega
    have hj2 : j ≤ 1 := Nat.le_of_not_lt fun h2 => by have := h.ask_lt (i := j) h2 hj; omega
    have := he (fun _ => false)
    rw [ev_end _ hi2, ev_end _ hj2] at this
    rcases (by omega : i = 0 ∨ i = 1) with rfl | rfl <;> rcases (by omega : j = 0 ∨ j = 1) with rfl | rfl <;> simp_all
  | succ k ih =>
    intro i j hk hk' hi hj he
    by_cases hi2 : 2 ≤ i
    · obtain ⟨n, hn⟩ := get_lt hi
      obtain ⟨a1, a2, a3, a4, a5, a6⟩ := h.nd i n hi2 hn
      have hvi := ask_at hn
      by_cases hv : n.v < ask L j
      · exact absurd (ih n.a n.b (by omega) (by omega) (by omega) (by omega) (fun m => by
          rw [low0 m hi2 hn, low1 m hi2 hn, he, he, h.ev_skip m _ hj hv, h.ev_skip m _ hj hv])) a4
      · have hj2 : 2 ≤ j := by
          apply Classical.byContradiction
          intro hc
          rw [h.ask_end (by omega)] at hv
          omega
        obtain ⟨n', hn'⟩ := get_lt hj
        obtain ⟨b1, b2, b3, b4, b5, b6⟩ := h.nd j n' hj2 hn'
        have hvj := ask_at hn'
        by_cases hv' : n'.v < n.v
        · exact absurd (ih n'.a n'.b (by omega) (by omega) (by omega) (by omega) (fun m => by
            rw [low0 m hj2 hn', low1 m hj2 hn', ← he, ← he, h.ev_skip m _ hi (by omega), h.ev_skip m _ hi (by omega)])) b4
        · have hvv : n.v = n'.v := by omega
          have e1 : n.a = n'.a := ih n.a n'.a (by omega) (by omega) (by omega) (by omega) (fun m => by
            rw [low0 m hi2 hn, low0 m hj2 hn', he, hvv])
          have e2 : n.b = n'.b := ih n.b n'.b (by omega) (by omega) (by omega) (by omega) (fun m => by
            rw [low1 m hi2 hn, low1 m hj2 hn', he, hvv])
          have : n = n' := by cases n; cases n'; simp_all
          subst this
          exact h.inj i j n hi2 hj2 hn hn'
    · by_cases hj2 : 2 ≤ j
      · obtain ⟨n', hn'⟩ := get_lt hj
        obtain ⟨b1, b2, b3, b4, b5, b6⟩ := h.nd j n' hj2 hn'
        have hvj := ask_at hn'
        have hai := h.ask_end (i := i) (by omega)
        exact absurd (ih n'.a n'.b (by omega) (by omega) (by omega) (by omega) (fun m => by
          rw [low0 m hj2 hn', low1 m hj2 hn', ← he, ← he, h.ev_skip m _ hi (by omega), h.ev_skip m _ hi (by omega)])) b4
      · have := he (fun _ => false)
        rw [ev_end _ (by omega), ev_end _ (by omega)] at this
        rcases (by omega : i = 0 ∨ i = 1) with rfl | rfl <;> rcases (by omega : j = 0 ∨ j = 1) with rfl | rfl <;> simp_all
theorem WF.one (h : WF V L) {i j : Nat} (hi : i < L.length) (hj : j < L.length) (he : ∀ m, ev L i m = ev L j m) : i = j := h.canon V i j (by omega) (by omega) hi hj he
theorem ev_app (h : WF V L) (h' : WF V (L ++ K)) (m : Nat → Bool) : ∀ i, i < L.length → ev (L ++ K) i m = ev L i m := by
  intro i
  induction i using Nat.strongRecOn with
  | ind i ih =>
    intro hi
    by_cases h2 : 2 ≤ i
    · obtain ⟨n, hn⟩ := get_lt hi
      obtain ⟨a1, a2, a3, a4, a5, a6⟩ := h.nd i n h2 hn
      rw [h.ev_node m h2 hn, h'.ev_node m h2 (by rw [List.getElem?_append_left hi]; exact hn), ih n.a a2 (by omega), ih n.b a3 (by omega)]
    · rw [ev_end m (by omega), ev_end m (by omega)]
/-- One node more. -/
theorem WF.push (h : WF V L) {n : Nd} (hv : n.v < V) (ha : n.a < L.length) (hb : n.b < L.length) (hab : n.a ≠ n.b) (h1 : n.v < ask L n.a) (h2 : n.v < ask L n.b) (hnew : ∀ i, 2 ≤ i → L[i]? ≠ some n) : WF V (L ++ [n]) where
  two := by have := h.two; simp; omega
  z := by rw [List.getElem?_append_left (by have := h.two; omega)]; exact h.z
  o := by rw [List.getElem?_append_left (by have := h.two; omega)]; exact h.o
  nd := fun i n' hi hn => by
    by_cases hl : i < L.length
    · rw [List.getElem?_append_left hl] at hn
      obtain ⟨a1, a2, a3, a4, a5, a6⟩ := h.nd i n' hi hn
      exact ⟨a1, a2, a3, a4, by rw [ask_app (by omega)]; exact a5, by rw [ask_app (by omega)]; exact a6⟩
    · have hle := (List.getElem?_eq_some_iff.1 hn).1
      simp at hle
      obtain rfl : i = L.length := by omega
      simp at hn
      subst hn
      exact ⟨hv, ha, hb, hab, by rw [ask_app ha]; exact h1, by rw [ask_app hb]; exact h2⟩
  inj := fun i j n' hi hj hn hn' => by
    by_cases hl : i < L.length
    · rw [List.getElem?_append_left hl] at hn
      by_cases hl' : j < L.length
      · rw [List.getElem?_append_left hl'] at hn'
        exact h.inj i j n' hi hj hn hn'
      · have hle := (List.getElem?_eq_some_iff.1 hn').1
        simp at hle
        obtain rfl : j = L.length := by omega
        simp at hn'
        subst hn'
        exact absurd hn (hnew i hi)
    · have hle := (List.getElem?_eq_some_iff.1 hn).1
      simp at hle
      obtain rfl : i = L.length := by omega
      simp at hn
      subst hn
      by_cases hl' : j < L.length
      · rw [List.getElem?_append_left hl'] at hn'
        exact absurd hn' (hnew j hj)
      · have hle' := (List.getElem?_eq_some_iff.1 hn').1
        simp at hle'
        omega
theorem WF.start (V : Nat) : WF V [⟨V, 0, 0⟩, ⟨V, 1, 1⟩] where
  two := by simp
  z := rfl
  o := rfl
  nd := fun i n hi hn => by have := (List.getElem?_eq_some_iff.1 hn).1; simp at this; omega
  inj := fun i j n hi hj hn hn' => by have := (List.getElem?_eq_some_iff.1 hn).1; simp at this; omega
end
end Go.Proofs.Ytailpphafoamfaa
namespace Go.Proofs.Ytailpphafoamfaa
open Go

section
variable {P : Program} {ops : Array Oper} {Q : Exit → Act → World → Prop} {md : Region.Mode} {S : World → Prop} {tail : Nat → Bool}

/-- Whatever order is picked from here on; S holds behind each operation that is carried out, but those of the tail. -/
def wpAnyT (P : Program) (md : Region.Mode) (ops : Array Oper) (Q : Exit → Act → World → Prop) (S : World → Prop) (tail : Nat → Bool) : Nat → Array Bool → Act → World → Prop
  | 0, listed, a, w => Region.ready md ops listed = [] ∧ Q .normal a w
  | fuel + 1, listed, a, w =>
    (Region.ready md ops listed = [] → Q .normal a w) ∧
    ∀ i ∈ Region.ready md ops listed, wpOp P ops Q i (fun a' w' => (tail i = false → S w') ∧ wpAnyT P md ops Q S tail fuel (listed.setIfInBounds i true) a' w') a w
theorem wpAny_of_T : ∀ (fuel : Nat) (listed : Array Bool) (a : Act) (w : World), wpAnyT P md ops Q S tail fuel listed a w → wpAny P md ops Q fuel listed a w
  | 0, _, _, _, h => h
  | fuel + 1, _, _, _, h => ⟨h.1, fun i hi => wpOp_mono (fun a' w' h' => wpAny_of_T fuel _ a' w' h'.2) (h.2 i hi)⟩
theorem wp_region_T {id : Nat} {a : Act} {w : World} (hm : P.follows .mixedOrders = true)
    (h : wpAnyT P .any ops Q S tail ops.size (Array.replicate ops.size false) a { w with drawn := w.drawn + 1 }) : (Code.region id ops true).wp P Q a w :=
  wp_region_any hm (wpAny_of_T _ _ _ _ h)
/-- Number j waits for number i. -/
def behind (md : Region.Mode) (ops : Array Oper) (i : Nat) : Nat → Nat → Bool
  | 0, _ => false
  | n + 1, j => ((ops[j]?).map fun o => o.after.any fun e => Region.binds md e && (e.on == i || behind md ops i n e.on)).getD false
/-- All of the tail waits for number i. -/
def tailBehind (md : Region.Mode) (ops : Array Oper) (tail : Nat → Bool) (i : Nat) : Bool := (List.range ops.size).all fun j => !tail j || behind md ops i ops.size j
/-- What has come up has come up behind all that it waits for. -/
def shutAll (md : Region.Mode) (ops : Array Oper) (listed : Array Bool) : Bool :=
  (List.range ops.size).all fun j => !listed.getD j false || ((ops[j]?).map fun o => o.after.all fun e => !Region.binds md e || listed.getD e.on false).getD false
theorem shut_at {listed : Array Bool} (h : shutAll md ops listed = true) {j : Nat} {o : Oper} (ho : ops[j]? = some o) (hl : listed.getD j false = true) : ∀ e ∈ o.after, Region.binds md e = true → listed.getD e.on false = true := by
  intro e he hb
  unfold shutAll at h
  rw [List.all_eq_true] at h
  have := h j (by simpa using (Array.getElem?_eq_some_iff.1 ho).1)
  rw [hl, ho] at this
  simp only [Bool.not_true, Bool.false_or, Option.map_some, Option.getD_some, Array.all_eq_true'] at this
  have := this e he
  rw [hb] at this
  simpa using this
theorem behind_listed {i : Nat} {listed : Array Bool} (h : shutAll md ops listed = true) : ∀ (n j : Nat) (o : Oper), ops[j]? = some o → (∀ e ∈ o.after, Region.binds md e = true → listed.getD e.on false = true) → behind md ops i n j = true → listed.getD i false = true := by
  intro n
  induction n with
  | zero => intro j o _ _ hb; simp [behind] at hb
  | succ n ih =>
    intro j o ho hall hb
    rw [behind, ho] at hb
    simp only [Option.map_some, Option.getD_some, Array.any_eq_true'] at hb
    obtain ⟨e, he, h2⟩ := hb
    simp only [Bool.and_eq_true, Bool.or_eq_true, beq_iff_eq] at h2
    have h3 := hall e he h2.1
    rcases h2.2 with h4 | h4
    · rw [← h4]; exact h3
    · cases ho2 : ops[e.on]? with
      | none =>
        cases n with
        | zero => simp [behind] at h4
        | succ n => simp [behind, ho2] at h4
      | some o2 => exact ih e.on o2 ho2 (shut_at h ho2 h3) h4
theorem tail_not_ready {i j : Nat} {listed : Array Bool} (hb : tailBehind md ops tail i = true) (ho : shutAll md ops listed = true) (hi : listed.getD i true = false) (hj : j ∈ Region.ready md ops listed) : tail j = false := by
  obtain ⟨hjun, oj, hoj, hall⟩ := mem_ready.1 hj
  have hjs : j < ops.size := (Array.getElem?_eq_some_iff.1 hoj).1
  cases ht : tail j with
  | false => rfl
  | true =>
    exfalso
    unfold tailBehind at hb
    rw [List.all_eq_true] at hb
    have h1 := hb j (by simpa using hjs)
    rw [ht] at h1
    have h2 := behind_listed ho ops.size j oj hoj hall (by simpa using h1)
    rcases Nat.lt_or_ge i listed.size with h' | h'
    · simp [h'] at h2 hi
      rw [h2] at hi
      cases hi
    · simp [Array.getElem?_eq_none h'] at h2
theorem shut_set {j : Nat} {listed : Array Bool} (ho : shutAll md ops listed = true) (hj : j ∈ Region.ready md ops listed) : shutAll md ops (listed.setIfInBounds j true) = true := by
  obtain ⟨hjun, oj, hoj, hall⟩ := mem_ready.1 hj
  unfold shutAll
  rw [List.all_eq_true]
  intro k hk
  have hks : k < ops.size := by simpa using hk
  obtain ⟨ok, hok⟩ : ∃ ok, ops[k]? = some ok := ⟨ops[k], Array.getElem?_eq_getElem hks⟩
  by_cases hl : (listed.setIfInBounds j true).getD k false = true
  · rw [hl, hok]
    simp only [Bool.not_true, Bool.false_or, Option.map_some, Option.getD_some, Array.all_eq_true']
    intro e he
    by_cases hb : Region.binds md e = true
    · rw [hb]
      simp only [Bool.not_true, Bool.false_or]
      refine getD_set_true ?_
      by_cases hjk : j = k
      · subst hjk
        rw [hoj] at hok
        cases hok
        exact hall e he hb
      · rw [getD_set_ne false hjk] at hl
        exact shut_at ho hok hl e he hb
    · simp [hb]
  · simp [hl]
/-- An operation that may come up, and yields its value in every world that meets S, may be taken first. -/
theorem wpAnyT_first {i : Nat} {oi : Oper} {v : Value} (hi : ops[i]? = some oi) (hsel : ∀ (j : Nat) (o : Oper) cs b, ops[j]? = some o → o.op ≠ .select cs b)
    (hQ : ∀ c a w, Q (.panic c) (a.put oi.dst v) w → Q (.panic c) a w) (htb : tailBehind md ops tail i = true) (hti : tail i = false) :
    ∀ (fuel : Nat) (listed : Array Bool) (a : Act) (w : World),
      (∀ j oj, ops[j]? = some oj → j ≠ i → listed.getD j true = false → (∀ e ∈ oj.after, Region.binds md e = true → e.on ≠ i) → oi.apart ops oj = true) →
      shutAll md ops listed = true → i ∈ Region.ready md ops listed → YieldsIf P ops S oi v a → S w →
      wpAnyT P md ops Q S tail fuel (listed.setIfInBounds i true) (a.put oi.dst v) w → wpAnyT P md ops Q S tail (fuel + 1) listed a w := by
  intro fuel
  induction fuel with
  | zero =>
    intro listed a w _ _ hr hy hS H
    refine ⟨fun h => (by rw [h] at hr; cases hr), fun j hj => ?_⟩
    by_cases hji : j = i
    · subst hji; exact hy.wpOp hi hS ⟨fun _ => hS, H⟩
    · have := ready_mono hj hji
      rw [H.1] at this
      cases this
  | succ fuel ih =>
    intro listed a w hfree hop hr hy hS H
    refine ⟨fun h => (by rw [h] at hr; cases hr), fun j hj => ?_⟩
    by_cases hji : j = i
    · subst hji; exact hy.wpOp hi hS ⟨fun _ => hS, H⟩
    · have htj := tail_not_ready htb hop (mem_ready.1 hr).1 hj
      have h1 := H.2 j (ready_mono hj hji)
      obtain ⟨hjun, oj, hoj, hall⟩ := mem_ready.1 hj
      have hnot : ∀ e ∈ oj.after, Region.binds md e = true → e.on ≠ i := fun e he hb heq => by
        have h1 := hall e he hb
        have h0 := (mem_ready.1 hr).1
        rw [heq] at h1
        rcases Nat.lt_or_ge i listed.size with h' | h'
        · simp [h'] at h0 h1; rw [h0] at h1; cases h1
        · simp [Array.getElem?_eq_none h'] at h1
      have h2 := wpOp_putIf hoj (hfree j oj hoj hji hjun hnot) (fun cs b => hsel i oi cs b hi) (fun cs b => hsel j oj cs b hoj) hQ hy h1
      have hfree' : ∀ k ok, ops[k]? = some ok → k ≠ i → (listed.setIfInBounds j true).getD k true = false →
          (∀ e ∈ ok.after, Region.binds md e = true → e.on ≠ i) → oi.apart ops ok = true := fun k ok hk hki hun hno => by
        refine hfree k ok hk hki ?_ hno
        by_cases hjk : j = k
        · subst hjk; exact hjun
        · rw [getD_set_ne true hjk] at hun; exact hun
      refine wpOp_mono (fun a' w' h3 => ⟨h3.2.1, ih (listed.setIfInBounds j true) a' w' hfree' (shut_set hop hj) (ready_mono hr (Ne.symm hji)) h3.1 (h3.2.1 htj) ?_⟩) h2
      rw [Array.setIfInBounds_comm _ _ hji]
      exact h3.2.2
theorem wpAnyT_take {i d : Nat} {oi : Oper} {v : Value} {fuel : Nat} {listed : Array Bool} {a : Act} {w : World} (hi : ops[i]? = some oi) (hd : oi.dst = some d)
    (hs : (Region.noSelect ops && Region.free md ops listed i && (Region.ready md ops listed).contains i && tailBehind md ops tail i && shutAll md ops listed && !tail i) = true)
    (hQ : ∀ c a w, Q (.panic c) (a.put oi.dst v) w → Q (.panic c) a w) (hw : Region.wanted oi (yielded ops a.tmps) = true) (hy : ∀ w, S w → (execOp a.eval oi).run P w = .ok (.value v) w) (hS : S w)
    (h : wpAnyT P md ops Q S tail fuel (listed.setIfInBounds i true) (a.put (some d) v) w) : wpAnyT P md ops Q S tail (fuel + 1) listed a w := by
  simp only [Bool.and_eq_true, Bool.not_eq_true'] at hs
  exact wpAnyT_first hi (Region.noSelect_spec hs.1.1.1.1.1) hQ hs.1.1.2 hs.2 fuel listed a w (Region.free_spec hi hs.1.1.1.1.2) hs.1.2 (by simpa using hs.1.1.1.2) (.inl ⟨hw, hy⟩) hS (by rw [hd]; exact h)
/-- The one operation that may come up. -/
theorem wpAnyT_one {i : Nat} {o : Oper} {fuel : Nat} {listed : Array Bool} {a : Act} {w : World} (hi : ops[i]? = some o) (hr : Region.ready md ops listed = [i]) (hw : Region.wanted o (yielded ops a.tmps) = true)
    (h : ∀ K : Act → World → Prop, Shut (∀ a' w', (tail i = false → S w') → wpAnyT P md ops Q S tail fuel (listed.setIfInBounds i true) a' w' → K a' w') → o.wp P a w K Q) : wpAnyT P md ops Q S tail (fuel + 1) listed a w := by
  refine ⟨fun h0 => (by rw [hr] at h0; cases h0), fun j hj => ?_⟩
  rw [hr] at hj
  obtain rfl : j = i := by simpa using hj
  unfold wpOp
  simp only [hi, hw, if_true]
  exact .inl (h _ (fun a' w' h1 h2 => ⟨h1, h2⟩))
theorem wpAnyT_done {listed : Array Bool} {a : Act} {w : World} (hr : Region.ready md ops listed = []) (h : Q .normal a w) :
    ∀ fuel, wpAnyT P md ops Q S tail fuel listed a w
  | 0 => ⟨hr, h⟩
  | _ + 1 => ⟨fun _ => h, by rw [hr]; simp⟩
theorem tk (i d : Nat) (v : Value) {oi : Oper} {fuel : Nat} {listed : Array Bool} {a : Act} {w : World} (hS : S w) (hy : ∀ w, S w → (execOp a.eval oi).run P w = .ok (.value v) w)
    (h : wpAnyT P md ops Q S tail fuel (listed.setIfInBounds i true) (a.put (some d) v) w) (hi : ops[i]? = some oi := by rfl) (hd : oi.dst = some d := by rfl)
    (hs : (Region.noSelect ops && Region.free md ops listed i && (Region.ready md ops listed).contains i && tailBehind md ops tail i && shutAll md ops listed && !tail i) = true := by kernel_rfl)
    (hQ : ∀ c a w, Q (.panic c) (a.put oi.dst v) w → Q (.panic c) a w := by exact fun _ _ _ h => h) (hw : Region.wanted oi (yielded ops a.tmps) = true := by rfl) : wpAnyT P md ops Q S tail (fuel + 1) listed a w :=
  wpAnyT_take hi hd hs hQ hw hy hS h
theorem sk (i d : Nat) {oi : Oper} {fuel : Nat} {listed : Array Bool} {a : Act} {w : World} (hS : S w) (h : wpAnyT P md ops Q S tail fuel (listed.setIfInBounds i true) (a.put (some d) undef) w)
    (hi : ops[i]? = some oi := by rfl) (hd : oi.dst = some d := by rfl)
    (hs : (Region.noSelect ops && Region.free md ops listed i && (Region.ready md ops listed).contains i && tailBehind md ops tail i && shutAll md ops listed && !tail i) = true := by kernel_rfl)
    (hQ : ∀ c a w, Q (.panic c) (a.put oi.dst undef) w → Q (.panic c) a w := by exact fun _ _ _ h => h) (hw : Region.wanted oi (yielded ops a.tmps) = false := by rfl) : wpAnyT P md ops Q S tail (fuel + 1) listed a w := by
  simp only [Bool.and_eq_true, Bool.not_eq_true'] at hs
  exact wpAnyT_first hi (Region.noSelect_spec hs.1.1.1.1.1) hQ hs.1.1.2 hs.2 fuel listed a w (Region.free_spec hi hs.1.1.1.1.2) hs.1.2 (by simpa using hs.1.1.1.2) (.inr ⟨hw, rfl⟩) hS (by rw [hd]; exact h)
/-- The one operation that may come up. -/
theorem on (i : Nat) {o : Oper} {fuel : Nat} {listed : Array Bool} {a : Act} {w : World}
    (h : ∀ K : Act → World → Prop, Shut (∀ a' w', (tail i = false → S w') → wpAnyT P md ops Q S tail fuel (listed.setIfInBounds i true) a' w' → K a' w') → o.wp P a w K Q)
    (hi : ops[i]? = some o := by rfl) (hr : Region.ready md ops listed = [i] := by kernel_rfl) (hw : Region.wanted o (yielded ops a.tmps) = true := by rfl) : wpAnyT P md ops Q S tail (fuel + 1) listed a w := wpAnyT_one hi hr hw h
theorem dn {listed : Array Bool} {a : Act} {w : World} {fuel : Nat} (h : Q .normal a w) (hr : Region.ready md ops listed = [] := by kernel_rfl) : wpAnyT P md ops Q S tail fuel listed a w := wpAnyT_done hr h fuel
/-- Two operations may come up. -/
theorem tw (i j : Nat) {o o' : Oper} {fuel : Nat} {listed : Array Bool} {a : Act} {w : World}
    (h : ∀ K : Act → World → Prop, Shut (∀ a' w', (tail i = false → S w') → wpAnyT P md ops Q S tail fuel (listed.setIfInBounds i true) a' w' → K a' w') → o.wp P a w K Q)
    (h' : ∀ K : Act → World → Prop, Shut (∀ a' w', (tail j = false → S w') → wpAnyT P md ops Q S tail fuel (listed.setIfInBounds j true) a' w' → K a' w') → o'.wp P a w K Q)
    (hi : ops[i]? = some o := by rfl) (hj : ops[j]? = some o' := by rfl) (hr : Region.ready md ops listed = [i, j] := by kernel_rfl) (hw : Region.wanted o (yielded ops a.tmps) = true := by rfl) (hw' : Region.wanted o' (yielded ops a.tmps) = true := by rfl) : wpAnyT P md ops Q S tail (fuel + 1) listed a w := by
  refine ⟨fun h0 => (by rw [hr] at h0; cases h0), fun k hk => ?_⟩
  rw [hr] at hk
  have hk' : k = i ∨ k = j := by simpa using hk
  rcases hk' with rfl | rfl
  · unfold wpOp
    simp only [hi, hw, if_true]
    exact .inl (h _ (fun a' w' h1 h2 => ⟨h1, h2⟩))
  · unfold wpOp
    simp only [hj, hw', if_true]
    exact .inl (h' _ (fun a' w' h1 h2 => ⟨h1, h2⟩))
end
/-- What a region leaves, whatever its order. -/
def CutPost {α : Type} (F : Act → α → Act) (a : Act) (I : α → World → Prop) (e : Exit) (a' : Act) (w' : World) : Prop :=
  match e with
  | .normal => ∃ N, a' = F a N ∧ I N w'
  | _ => False
theorem wp_cut {α : Type} {P : Program} {c : Code} {Q : Exit → Act → World → Prop} {a : Act} {w : World} (F : Act → α → Act) (I : α → World → Prop) (h : c.wp P (CutPost F a I) a w) (k : ∀ N w', I N w' → Q .normal (F a N) w') : c.wp P Q a w := by
  refine wp_mono h ?_
  intro e a' w' hq
  cases e with
  | normal =>
    obtain ⟨N, rfl, hI⟩ := hq
    exact k N w' hI
  | exit id => exact hq.elim
  | goto l => exact hq.elim
  | ret => exact hq.elim
  | panic ch => exact hq.elim
  | outgrown => exact hq.elim
end Go.Proofs.Ytailpphafoamfaa
namespace Go.Proofs.Ytailpphafoamfaa
open Go

section
variable {P : Program} {ops : Array Oper} {Q : Exit → Act → World → Prop} {md : Region.Mode} {S : World → Prop} {tail : Nat → Bool}
/-- All of the tail that hasn't come up waits for number i. -/
def tailBehindU (md : Region.Mode) (ops : Array Oper) (tail : Nat → Bool) (listed : Array Bool) (i : Nat) : Bool := (List.range ops.size).all fun j => !tail j || listed.getD j false || behind md ops i ops.size j
theorem getD_set_le {listed : Array Bool} {j k : Nat} (h : listed.getD k false = true) : (listed.setIfInBounds j true).getD k false = true := getD_set_true h
theorem tailU_set {i j : Nat} {listed : Array Bool} (h : tailBehindU md ops tail listed i = true) : tailBehindU md ops tail (listed.setIfInBounds j true) i = true := by
  unfold tailBehindU at h ⊢
  rw [List.all_eq_true] at h ⊢
  intro k hk
  have := h k hk
  simp only [Bool.or_eq_true] at this ⊢
  rcases this with (h1 | h1) | h1
  · exact .inl (.inl h1)
  · exact .inl (.inr (getD_set_le h1))
  · exact .inr h1
theorem tail_not_readyU {i j : Nat} {listed : Array Bool} (hb : tailBehindU md ops tail listed i = true) (ho : shutAll md ops listed = true) (hi : listed.getD i true = false) (hj : j ∈ Region.ready md ops listed) : tail j = false := by
  obtain ⟨hjun, oj, hoj, hall⟩ := mem_ready.1 hj
  have hjs : j < ops.size := (Array.getElem?_eq_some_iff.1 hoj).1
  cases ht : tail j with
  | false => rfl
  | true =>
    exfalso
    unfold tailBehindU at hb
    rw [List.all_eq_true] at hb
    have h1 := hb j (by simpa using hjs)
    have hl : listed.getD j false = false := by
      rcases Nat.lt_or_ge j listed.size with h' | h'
      · simp [h'] at hjun ⊢; exact hjun
      · simp [Array.getElem?_eq_none h']
    rw [ht, hl] at h1
    have h2 := behind_listed ho ops.size j oj hoj hall (by simpa using h1)
    rcases Nat.lt_or_ge i listed.size with h' | h'
    · simp [h'] at h2 hi
      rw [h2] at hi
      cases hi
    · simp [Array.getElem?_eq_none h'] at h2
theorem wpAnyT_firstU {i : Nat} {oi : Oper} {v : Value} (hi : ops[i]? = some oi) (hsel : ∀ (j : Nat) (o : Oper) cs b, ops[j]? = some o → o.op ≠ .select cs b)
    (hQ : ∀ c a w, Q (.panic c) (a.put oi.dst v) w → Q (.panic c) a w) :
    ∀ (fuel : Nat) (listed : Array Bool) (a : Act) (w : World),
      (∀ j oj, ops[j]? = some oj → j ≠ i → listed.getD j true = false → (∀ e ∈ oj.after, Region.binds md e = true → e.on ≠ i) → oi.apart ops oj = true) →
      tailBehindU md ops tail listed i = true → shutAll md ops listed = true → i ∈ Region.ready md ops listed → YieldsIf P ops S oi v a → S w →
      wpAnyT P md ops Q S tail fuel (listed.setIfInBounds i true) (a.put oi.dst v) w → wpAnyT P md ops Q S tail (fuel + 1) listed a w := by
  intro fuel
  induction fuel with
  | zero =>
    intro listed a w _ _ _ hr hy hS H
    refine ⟨fun h => (by rw [h] at hr; cases hr), fun j hj => ?_⟩
    by_cases hji : j = i
    · subst hji; exact hy.wpOp hi hS ⟨fun _ => hS, H⟩
    · have := ready_mono hj hji
      rw [H.1] at this
      cases this
  | succ fuel ih =>
    intro listed a w hfree htb hop hr hy hS H
    refine ⟨fun h => (by rw [h] at hr; cases hr), fun j hj => ?_⟩
    by_cases hji : j = i
    · subst hji; exact hy.wpOp hi hS ⟨fun _ => hS, H⟩
    · have htj := tail_not_readyU htb hop (mem_ready.1 hr).1 hj
      have h1 := H.2 j (ready_mono hj hji)
      obtain ⟨hjun, oj, hoj, hall⟩ := mem_ready.1 hj
      have hnot : ∀ e ∈ oj.after, Region.binds md e = true → e.on ≠ i := fun e he hb heq => by
        have h1 := hall e he hb
        have h0 := (mem_ready.1 hr).1
        rw [heq] at h1
        rcases Nat.lt_or_ge i listed.size with h' | h'
        · simp [h'] at h0 h1; rw [h0] at h1; cases h1
        · simp [Array.getElem?_eq_none h'] at h1
      have h2 := wpOp_putIf hoj (hfree j oj hoj hji hjun hnot) (fun cs b => hsel i oi cs b hi) (fun cs b => hsel j oj cs b hoj) hQ hy h1
      have hfree' : ∀ k ok, ops[k]? = some ok → k ≠ i → (listed.setIfInBounds j true).getD k true = false →
          (∀ e ∈ ok.after, Region.binds md e = true → e.on ≠ i) → oi.apart ops ok = true := fun k ok hk hki hun hno => by
        refine hfree k ok hk hki ?_ hno
        by_cases hjk : j = k
        · subst hjk; exact hjun
        · rw [Go.getD_set_ne true hjk] at hun; exact hun
      refine wpOp_mono (fun a' w' h3 => ⟨h3.2.1, ih (listed.setIfInBounds j true) a' w' hfree' (tailU_set htb) (shut_set hop hj) (ready_mono hr (Ne.symm hji)) h3.1 (h3.2.1 htj) ?_⟩) h2
      rw [Array.setIfInBounds_comm _ _ hji]
      exact h3.2.2
/-- A move that belongs to the tail: it may come up at any time. -/
theorem wpAnyT_firstM {i : Nat} {oi : Oper} {v : Value} (hi : ops[i]? = some oi) (hsel : ∀ (j : Nat) (o : Oper) cs b, ops[j]? = some o → o.op ≠ .select cs b)
    (hQ : ∀ c a w, Q (.panic c) (a.put oi.dst v) w → Q (.panic c) a w) (hti : tail i = true) :
    ∀ (fuel : Nat) (listed : Array Bool) (a : Act) (w : World),
      (∀ j oj, ops[j]? = some oj → j ≠ i → listed.getD j true = false → (∀ e ∈ oj.after, Region.binds md e = true → e.on ≠ i) → oi.apart ops oj = true) →
      i ∈ Region.ready md ops listed → YieldsIf P ops (fun _ => True) oi v a →
      wpAnyT P md ops Q S tail fuel (listed.setIfInBounds i true) (a.put oi.dst v) w → wpAnyT P md ops Q S tail (fuel + 1) listed a w := by
  intro fuel
  induction fuel with
  | zero =>
    intro listed a w _ hr hy H
    refine ⟨fun h => (by rw [h] at hr; cases hr), fun j hj => ?_⟩
    by_cases hji : j = i
    · subst hji; exact hy.wpOp hi trivial ⟨fun h => (by rw [hti] at h; cases h), H⟩
    · have := ready_mono hj hji
      rw [H.1] at this
      cases this
  | succ fuel ih =>
    intro listed a w hfree hr hy H
    refine ⟨fun h => (by rw [h] at hr; cases hr), fun j hj => ?_⟩
    by_cases hji : j = i
    · subst hji; exact hy.wpOp hi trivial ⟨fun h => (by rw [hti] at h; cases h), H⟩
    · have h1 := H.2 j (ready_mono hj hji)
      obtain ⟨hjun, oj, hoj, hall⟩ := mem_ready.1 hj
      have hnot : ∀ e ∈ oj.after, Region.binds md e = true → e.on ≠ i := fun e he hb heq => by
        have h1 := hall e he hb
        have h0 := (mem_ready.1 hr).1
        rw [heq] at h1
        rcases Nat.lt_or_ge i listed.size with h' | h'
        · simp [h'] at h0 h1; rw [h0] at h1; cases h1
        · simp [Array.getElem?_eq_none h'] at h1
      have h2 := wpOp_putIf hoj (hfree j oj hoj hji hjun hnot) (fun cs b => hsel i oi cs b hi) (fun cs b => hsel j oj cs b hoj) hQ hy h1
      have hfree' : ∀ k ok, ops[k]? = some ok → k ≠ i → (listed.setIfInBounds j true).getD k true = false →
          (∀ e ∈ ok.after, Region.binds md e = true → e.on ≠ i) → oi.apart ops ok = true := fun k ok hk hki hun hno => by
        refine hfree k ok hk hki ?_ hno
        by_cases hjk : j = k
        · subst hjk; exact hjun
        · rw [Go.getD_set_ne true hjk] at hun; exact hun
      refine wpOp_mono (fun a' w' h3 => ⟨h3.2.1, ih (listed.setIfInBounds j true) a' w' hfree' (ready_mono hr (Ne.symm hji)) h3.1 ?_⟩) h2
      rw [Array.setIfInBounds_comm _ _ hji]
      exact h3.2.2
theorem tkU (i d : Nat) (v : Value) {oi : Oper} {fuel : Nat} {listed : Array Bool} {a : Act} {w : World} (hS : S w) (hy : ∀ w, S w → (execOp a.eval oi).run P w = .ok (.value v) w)
    (h : wpAnyT P md ops Q S tail fuel (listed.setIfInBounds i true) (a.put (some d) v) w) (hi : ops[i]? = some oi := by rfl) (hd : oi.dst = some d := by rfl)
    (hs : (Region.noSelect ops && Region.free md ops listed i && (Region.ready md ops listed).contains i && tailBehindU md ops tail listed i && shutAll md ops listed) = true := by kernel_rfl)
    (hQ : ∀ c a w, Q (.panic c) (a.put oi.dst v) w → Q (.panic c) a w := by exact fun _ _ _ h => h) (hw : Region.wanted oi (yielded ops a.tmps) = true := by rfl) : wpAnyT P md ops Q S tail (fuel + 1) listed a w := by
  simp only [Bool.and_eq_true] at hs
  exact wpAnyT_firstU hi (Region.noSelect_spec hs.1.1.1.1) hQ fuel listed a w (Region.free_spec hi hs.1.1.1.2) hs.1.2 hs.2 (by simpa using hs.1.1.2) (.inl ⟨hw, hy⟩) hS (by rw [hd]; exact h)
theorem tkM (i d : Nat) (v : Value) {oi : Oper} {fuel : Nat} {listed : Array Bool} {a : Act} {w : World} (hy : ∀ w, (execOp a.eval oi).run P w = .ok (.value v) w)
    (h : wpAnyT P md ops Q S tail fuel (listed.setIfInBounds i true) (a.put (some d) v) w) (hi : ops[i]? = some oi := by rfl) (hd : oi.dst = some d := by rfl)
    (hs : (Region.noSelect ops && Region.free md ops listed i && (Region.ready md ops listed).contains i && tail i) = true := by kernel_rfl)
    (hQ : ∀ c a w, Q (.panic c) (a.put oi.dst v) w → Q (.panic c) a w := by exact fun _ _ _ h => h) (hw : Region.wanted oi (yielded ops a.tmps) = true := by rfl) : wpAnyT P md ops Q S tail (fuel + 1) listed a w := by
  simp only [Bool.and_eq_true] at hs
  exact wpAnyT_firstM hi (Region.noSelect_spec hs.1.1.1) hQ hs.2 fuel listed a w (Region.free_spec hi hs.1.1.2) (by simpa using hs.1.2) (.inl ⟨hw, fun w _ => hy w⟩) (by rw [hd]; exact h)
end
/-- A cell is written behind what grew. -/
theorem grown_both {w w' : World} {row : Option Nat} {s i : Nat} {u : Value} (h : w.grownBy w' row) (hs : some s ≠ row) (hl : s < w.heap.size) : (w.setCell ⟨s, i, none⟩ u).grownBy (w'.setCell ⟨s, i, none⟩ u) row := by
  refine ⟨h.os, h.tape, h.output, by simp [World.setCell]; exact h.size, fun k hk hne => ?_⟩
  have hk' : k < w.heap.size := by simpa [World.setCell] using hk
  have := h.block k hk' hne
  simp only [World.setCell, Array.getElem?_modify]
  split
  · rw [this]
  · exact this
end Go.Proofs.Ytailpphafoamfaa
namespace Go.Proofs.Ytailpphafoamfaa
open Go Go.RowKit Go.Maps

def i32 (n : Nat) : Value := .int .i32 (n : Int)
def ndL (n : Nd) : List Value := [.int .i32 (n.v : Int), .int .i32 (n.a : Int), .int .i32 (n.b : Int)]
def ndV (n : Nd) : Value := .agg #[.int .i32 (n.v : Int), .int .i32 (n.a : Int), .int .i32 (n.b : Int)]
def cellsN (L : List Nd) : List Value := L.flatMap ndL
theorem cellsN_len (L : List Nd) : (cellsN L).length = L.length * 3 := by
  induction L with
  | nil => rfl
  | cons x l ih => simp [cellsN, ndL] at ih ⊢; omega
theorem cellsN_app (L K : List Nd) : cellsN (L ++ K) = cellsN L ++ cellsN K := by simp [cellsN]
theorem cellsN_at {L : List Nd} {i : Nat} {n : Nd} (h : L[i]? = some n) : (cellsN L)[3 * i]? = some (.int .i32 (n.v : Int)) ∧ (cellsN L)[3 * i + 1]? = some (.int .i32 (n.a : Int)) ∧ (cellsN L)[3 * i + 2]? = some (.int .i32 (n.b : Int)) := by
  induction L generalizing i with
  | nil => simp at h
  | cons x l ih =>
    cases i with
    | zero =>
      simp at h
      subst h
      exact ⟨rfl, rfl, rfl⟩
    | succ i =>
      simp at h
      have := ih h
      have e : cellsN (x :: l) = ndL x ++ cellsN l := rfl
      have hl : (ndL x).length = 3 := rfl
      rw [e, List.getElem?_append_right (by omega), List.getElem?_append_right (by omega), List.getElem?_append_right (by omega), hl]
      have e1 : 3 * (i + 1) - 3 = 3 * i := by omega
      have e2 : 3 * (i + 1) + 1 - 3 = 3 * i + 1 := by omega
      have e3 : 3 * (i + 1) + 2 - 3 = 3 * i + 2 := by omega
      rw [e1, e2, e3]
      exact this
/-- What a map of nodes' numbers gives: those of list L from number lo on. -/
structure NumOk (f : Value → Option Value) (lo : Nat) (L : List Nd) : Prop where
  to : ∀ i n, lo ≤ i → L[i]? = some n → f (ndV n) = some (i32 i)
  from_ : ∀ v x, f v = some x → ∃ i n, lo ≤ i ∧ L[i]? = some n ∧ v = ndV n ∧ x = i32 i
/-- What stays: no block is another's than it was, and those of which T says no are as they were. -/
structure Keep (T : Nat → Bool) (w : World) (o : Nat → Nat) (w' : World) (o' : Nat → Nat) : Prop where
  os : w'.os = w.os
  tape : w'.tape = w.tape
  output : w'.output = w.output
  size : w.heap.size ≤ w'.heap.size
  own : ∀ k, k < w.heap.size → o' k = o k
  blk : ∀ k, k < w.heap.size → T (o k) = false → w'.heap[k]? = w.heap[k]?
theorem Keep.refl (T : Nat → Bool) (w : World) (o : Nat → Nat) : Keep T w o w o := ⟨rfl, rfl, rfl, Nat.le_refl _, fun _ _ => rfl, fun _ _ _ => rfl⟩
theorem Keep.trans {T : Nat → Bool} {a b c : World} {o o' o'' : Nat → Nat} (h : Keep T a o b o') (k : Keep T b o' c o'') : Keep T a o c o'' :=
  ⟨k.os.trans h.os, k.tape.trans h.tape, k.output.trans h.output, Nat.le_trans h.size k.size, fun i hi => (k.own i (Nat.lt_of_lt_of_le hi h.size)).trans (h.own i hi),
   fun i hi h0 => (k.blk i (Nat.lt_of_lt_of_le hi h.size) (by rw [h.own i hi]; exact h0)).trans (h.blk i hi h0)⟩
theorem Keep.more {T T' : Nat → Bool} {w w' : World} {o o' : Nat → Nat} (h : Keep T w o w' o') (ht : ∀ t, T' t = false → T t = false) : Keep T' w o w' o' :=
  ⟨h.os, h.tape, h.output, h.size, h.own, fun k hk h0 => h.blk k hk (ht _ h0)⟩
theorem Keep.grown {T : Nat → Bool} {w w' : World} {o o' : Nat → Nat} {row : Option Nat} (hg : w.grownBy w' row) (hr : ∀ k, row = some k → T (o k) = true) (ho : ∀ k, k < w.heap.size → o' k = o k) : Keep T w o w' o' :=
  ⟨hg.os, hg.tape, hg.output, hg.size, ho, fun k hk h0 => hg.block k hk (fun e => by have := hr k e.symm; rw [this] at h0; cases h0)⟩
theorem Keep.below {T : Nat → Bool} {w w' : World} {o o' : Nat → Nat} (h : Keep T w o w' o') {B : Nat} (hB : B ≤ w.heap.size) (h0 : ∀ k, k < B → T (o k) = false) : Below B w w' :=
  ⟨h.os, h.tape, h.output, h.size, fun k hk => h.blk k (by omega) (h0 k hk)⟩
theorem lt_cell {w : World} {a : Addr} {v : Value} (h : w.cell? a = some v) : a.block < w.heap.size := by
  apply Classical.byContradiction
  intro hn
  simp [World.cell?, Array.getElem?_eq_none (Nat.le_of_not_lt hn)] at h
theorem Keep.cell {T : Nat → Bool} {w w' : World} {o o' : Nat → Nat} (h : Keep T w o w' o') {a : Addr} {v : Value} (hc : w.cell? a = some v) (ht : T (o a.block) = false) : w'.cell? a = some v :=
  (World.cell?_of_block (h.blk a.block (lt_cell hc) ht)).trans hc
theorem grown_set (w : World) (p : Addr) (u : Value) : w.grownBy (w.setCell p u) (some p.block) := ⟨rfl, rfl, rfl, by simp [World.setCell], fun k _ hk => Below.heap_setCell _ _ _ _ (fun e => hk (by rw [e]))⟩
theorem grown_alloc (w : World) (o : Obj) : w.grownBy (w.alloc o) none := World.grownBy_alloc _ _ _
theorem grown_drewN (w : World) (n : Nat) : w.grownBy (w.drewN n) none := ⟨rfl, rfl, rfl, Nat.le_refl _, fun _ _ _ => rfl⟩
theorem heap_set {w : World} {S i : Nat} {cs5 : Array Value} {t : TypeId} (u : Value) (h : w.heap[S]? = some (.cells cs5 t (0, 0))) : (w.setCell ⟨S, i, none⟩ u).heap[S]? = some (.cells (cs5.setIfInBounds i u) t (0, 0)) := by
  simp [World.setCell, Array.getElem?_modify, h]
/-- A store, plainly. -/
structure SG where
  s : Nat
  V : Nat
  room : Nat
  ns : List Nd
  val : Value
  num : Option Nat
  W : Nat
def sCells (g : SG) : Array Value := #[.int .i64 (g.V : Int), .int .i64 (g.room : Int), g.val, .int .u32 (if g.num.isSome then 1 else 0), .int .i32 0, .int .u32 0, .map g.num, .int .u64 (((g.W % 18446744073709551616 : Nat)) : Int)]
structure StoreM (M : List Nd) (w : World) (o : Nat → Nat) (g : SG) : Prop where
  cells : w.heap[g.s]? = some (.cells (sCells g) 82 (0, 0))
  os : o g.s = 1
  row : w.ownsRow 0 63 3 g.val g.ns.length (cellsN g.ns)
  orow : ∀ k, g.val.ownBlock = some k → o k = 2
  num0 : g.num = none → M.length = 2
  num : ∀ b, g.num = some b → o b = 3 ∧ ∃ f, MapIs 63 w b f ∧ NumOk f 2 M
  wf : WF g.V g.ns
  bd : g.V ≤ 256 ∧ g.room ≤ 16777216 ∧ g.ns.length ≤ g.room
  new : ∀ k, w.heap.size ≤ k → o k = 0
abbrev StoreAt (w : World) (o : Nat → Nat) (g : SG) : Prop := StoreM g.ns w o g
/-- A draft, plainly. -/
structure DG where
  d : Nat
  ds : List Nd
  val : Value
  dm : Nat
  most : Nat
  full : Bool
def dCells (g : SG) (D : DG) : Array Value := #[.pointer (some ⟨g.s, 0, none⟩), .int .i32 (g.ns.length : Int), D.val, .map (some D.dm), .int .i64 (D.most : Int), .bool D.full]
structure DraftAt (w : World) (o : Nat → Nat) (g : SG) (D : DG) : Prop where
  cells : w.heap[D.d]? = some (.cells (dCells g D) 114 (0, 0))
  od : o D.d = 4
  row : w.ownsRow 0 63 3 D.val D.ds.length (cellsN D.ds)
  orow : ∀ k, D.val.ownBlock = some k → o k = 5
  om : o D.dm = 6
  map : ∃ f, MapIs 63 w D.dm f ∧ NumOk f g.ns.length (g.ns ++ D.ds)
  wf : WF g.V (g.ns ++ D.ds)
  most : D.ds.length ≤ D.most ∧ D.most ≤ 16777216
  fl : D.full = true → D.most ≤ D.ds.length
section
variable {M : List Nd} {w w' : World} {o o' : Nat → Nat} {g : SG} {D : DG}
theorem StoreM.lts (h : StoreM M w o g) : g.s < w.heap.size := (Array.getElem?_eq_some_iff.1 h.cells).1
theorem DraftAt.ltd (h : DraftAt w o g D) : D.d < w.heap.size := (Array.getElem?_eq_some_iff.1 h.cells).1
theorem row_move {e : TypeId} {size n : Nat} {v : Value} {xs : List Value} (h : w.ownsRow 0 e size v n xs) (hb : ∀ k, v.ownBlock = some k → w'.heap[k]? = w.heap[k]?) : w'.ownsRow 0 e size v n xs := by
  obtain ⟨h1, h2⟩ := h
  refine ⟨h1, ?_⟩
  rcases h2 with h2 | ⟨gx, cap, cur, rfl, h3, h4, r⟩
  · exact .inl h2
  · exact .inr ⟨gx, cap, cur, rfl, h3, (hb gx rfl).trans h4, r⟩
/-- A store stays where its blocks stay. -/
theorem StoreM.keep {T : Nat → Bool} (h : StoreM M w o g) (k : Keep T w o w' o') (ht : T 1 = false ∧ T 2 = false ∧ T 3 = false) (hn : ∀ b, w'.heap.size ≤ b → o' b = 0) : StoreM M w' o' g where
  cells := (k.blk _ h.lts (by rw [h.os]; exact ht.1)).trans h.cells
  os := (k.own _ h.lts).trans h.os
  row := row_move h.row fun b hb => k.blk b (h.row.lt b hb).2 (by rw [h.orow b hb]; exact ht.2.1)
  orow := fun b hb => (k.own b (h.row.lt b hb).2).trans (h.orow b hb)
  num0 := h.num0
  num := fun b hb => by
    obtain ⟨h1, f, h2, h3⟩ := h.num b hb
    exact ⟨(k.own b h2.lt).trans h1, f, h2.move (k.blk b h2.lt (by rw [h1]; exact ht.2.2)), h3⟩
  wf := h.wf
  bd := h.bd
  new := hn
theorem DraftAt.keep {T : Nat → Bool} (h : DraftAt w o g D) (k : Keep T w o w' o') (ht : T 4 = false ∧ T 5 = false ∧ T 6 = false) : DraftAt w' o' g D where
  cells := (k.blk _ h.ltd (by rw [h.od]; exact ht.1)).trans h.cells
  od := (k.own _ h.ltd).trans h.od
  row := row_move h.row fun b hb => k.blk b (h.row.lt b hb).2 (by rw [h.orow b hb]; exact ht.2.1)
  orow := fun b hb => (k.own b (h.row.lt b hb).2).trans (h.orow b hb)
  om := by
    obtain ⟨f, h2, h3⟩ := h.map
    exact (k.own _ h2.lt).trans h.om
  map := by
    obtain ⟨f, h2, h3⟩ := h.map
    exact ⟨f, h2.move (k.blk _ h2.lt (by rw [h.om]; exact ht.2.2)), h3⟩
  wf := h.wf
  most := h.most
  fl := h.fl
/-- The same draft of a store of which only the counter, or the map, has turned. -/
theorem DraftAt.of (h : DraftAt w o g D) {g' : SG} (h1 : g'.s = g.s) (h2 : g'.ns = g.ns) (h3 : g'.V = g.V) : DraftAt w o g' D where
  cells := by
    have : dCells g' D = dCells g D := by simp [dCells, h1, h2]
    rw [this]; exact h.cells
  od := h.od
  row := h.row
  orow := h.orow
  om := h.om
  map := by rw [h2]; exact h.map
  wf := by rw [h2, h3]; exact h.wf
  most := h.most
  fl := h.fl
end
end Go.Proofs.Ytailpphafoamfaa
namespace Go.Proofs.Ytailpphafoamfaa
open Go Go.RowKit

theorem disable (w : World) : (callFunc 90 #[]).run Try.prog w = .ok (.value (.tuple #[])) w := run_call_mark0 Try.func90 (by kernel_rfl) (by kernel_rfl) (by kernel_rfl) .disable (by kernel_rfl) w
theorem enable (w : World) : (callFunc 92 #[]).run Try.prog w = .ok (.value (.tuple #[])) w := run_call_mark0 Try.func92 (by kernel_rfl) (by kernel_rfl) (by kernel_rfl) .enable (by kernel_rfl) w
theorem acquire (a : Addr) (w : World) : (callFunc 93 #[.pointer (some a)]).run Try.prog w = .ok (.value (.tuple #[])) w := run_call_marked Try.func93 (by kernel_rfl) (by kernel_rfl) (by kernel_rfl) .acquire (by kernel_rfl) a w
theorem releaseMerge (a : Addr) (w : World) : (callFunc 95 #[.pointer (some a)]).run Try.prog w = .ok (.value (.tuple #[])) w := run_call_marked Try.func95 (by kernel_rfl) (by kernel_rfl) (by kernel_rfl) .releaseMerge (by kernel_rfl) a w

set_option maxRecDepth 100000 in
set_option maxHeartbeats 1600000 in
/-- '(*sync/atomic.Bool).Store(true)', ENTERED AS A DEFERRED CALL: the cell holds 1. -/
theorem store_deferred (a : Addr) (x : Value) (u : FrameMode) (w : World) (hc : w.cell? a = some x) (hz : w.frozen? a = false) :
    CallsD Try.prog 85 #[.pointer (some a), .bool true] u w fun e u' w' => u' = u ∧ (e = .returned (.tuple #[]) ∧ w' = w.drew.setCell a (.int .u32 1)) := by
  have hc' : w.drew.cell? a = some x := by go_simp
  have hz' : w.drew.frozen? a = false := by go_simp
  have hst := run_call_store (P := Try.prog) Try.func88 (by kernel_rfl) (by kernel_rfl) (by kernel_rfl) (by kernel_rfl) (k := .u32) (y := 1) hc' hz'
  go_enter_d Try.func85, Try.ntmps85
  go_wp2
  go_region_calls
  all_goals (go_end0; exact ⟨rfl, rfl⟩)

set_option maxRecDepth 100000 in
set_option maxHeartbeats 1600000 in
/-- '(*sync.Mutex).Unlock', ENTERED AS A DEFERRED CALL, the lock held and nobody waiting (state 1): state 0. -/
theorem unlock_deferred (a : Addr) (u : FrameMode) (w : World) (hc : w.cell? a = some (.int .i32 1)) (hz : w.frozen? a = false) :
    CallsD Try.prog 84 #[.pointer (some a)] u w fun e u' w' => u' = u ∧ (e = .returned (.tuple #[]) ∧ w' = w.setCell a (.int .i32 0)) := by
  have hd := disable
  have he := enable
  have hr := releaseMerge
  have hadd := run_call_add (P := Try.prog) Try.func96 (by kernel_rfl) (by kernel_rfl) (by kernel_rfl) .i32 (by kernel_rfl) (y := -1) (s := 0) hc hz (by simp [go_sem]; rfl)
  have hcv := run_convert_to_unsafe (P := Try.prog) (src := 140) (dst := 144) Try.underlying140 Try.underlying144 (by kernel_rfl) hc
  go_enter_d Try.func84, Try.ntmps84
  go_wp2
  go_end0
  go_wp2
  go_end0
  exact ⟨rfl, rfl⟩

set_option maxRecDepth 100000 in
set_option maxHeartbeats 1600000 in
/-- '(*sync.Mutex).Lock', the lock free (state 0): state 1. A CONTRACT, to be met at the call ('go_at_call 83'). -/
theorem lock_free (a : Addr) (w : World) (hc : w.cell? a = some (.int .i32 0)) (hz : w.frozen? a = false) :
    Calls Try.prog 83 #[.pointer (some a)] w fun e w' => e = .returned (.tuple #[]) ∧ w' = w.setCell a (.int .i32 1) := by
  have hd := disable
  have he := enable
  have ha := acquire
  have hcas := run_call_cas_hit (P := Try.prog) Try.func91 (by kernel_rfl) (by kernel_rfl) (by kernel_rfl) .i32 (by kernel_rfl) (y := 1) hc hz
  have hc' : (w.setCell a (.int .i32 1)).cell? a = some (.int .i32 1) := World.cell?_setCell_same w a _ hc
  have hcv := run_convert_to_unsafe (P := Try.prog) (src := 140) (dst := 144) Try.underlying140 Try.underlying144 (by kernel_rfl) hc'
  go_enter Try.func83, Try.ntmps83
  go_wp2
  first | go_end0 | (simp only [Exit.inBlock, Exit.then]; refine bodyPost_ret (results_none rfl _ _ _) rfl ?_) | refine bodyPost_ret (results_none rfl _ _ _) rfl ?_
  go_wp2
  go_end0
  exact ⟨rfl, rfl⟩

theorem load_u64 (a : Addr) (x : Int) (w : World) (hc : w.cell? ⟨a.block, a.off, none⟩ = some (.int .u64 x)) : Calls Try.prog 41 #[.pointer (some ⟨a.block, a.off, none⟩)] w fun e w' => e = .returned (.int .u64 x) ∧ w' = w := by
  have hl := run_call_load (P := Try.prog) Try.func58 (by kernel_rfl) (by kernel_rfl) (by kernel_rfl) .u64 (by kernel_rfl) hc
  go_enter Try.func41, Try.ntmps41
  go_wp2
  go_ret
  exact ⟨rfl, rfl⟩
theorem add_u64 (b off : Nat) (x : Int) (w : World) (hc : w.cell? ⟨b, off, none⟩ = some (.int .u64 x)) (hz : w.frozen? ⟨b, off, none⟩ = false) : Calls Try.prog 67 #[.pointer (some ⟨b, off, none⟩), .int .u64 1] w fun e w' => (∃ v, e = .returned v) ∧ w' = w.setCell ⟨b, off, none⟩ (.int .u64 (IntKind.u64.wrap (x + 1))) := by
  have hadd := run_call_add (P := Try.prog) Try.func77 (by kernel_rfl) (by kernel_rfl) (by kernel_rfl) .u64 (by kernel_rfl) (y := 1) (s := IntKind.u64.wrap (x + 1)) hc hz (by simp [go_sem])
  go_enter Try.func67, Try.ntmps67
  go_wp2
  go_ret
  exact ⟨⟨_, rfl⟩, rfl⟩
end Go.Proofs.Ytailpphafoamfaa
namespace Go.Proofs.Ytailpphafoamfaa
open Go Go.RowKit Go.Maps

/-- The world behind the slow road. -/
def slowW0 (w : World) (s : Nat) : World := ((w.setCell ⟨s, 4, none⟩ (.int .i32 1)).setCell ⟨s, 6, none⟩ (.map (some w.heap.size))).alloc (.map #[] 0)
def slowW (w : World) (s : Nat) : World := ((slowW0 w s).drew.setCell ⟨s, 3, none⟩ (.int .u32 1)).setCell ⟨s, 4, none⟩ (.int .i32 0)
theorem slow_cell {w : World} {s i : Nat} {v : Value} (hs : s < w.heap.size) (h : w.cell? ⟨s, i, none⟩ = some v) (h4 : i ≠ 4) (h6 : i ≠ 6) : (slowW0 w s).cell? ⟨s, i, none⟩ = some v := by
  unfold slowW0
  rw [World.cell?_alloc_past _ _ _ (by simpa [World.setCell] using hs), World.cell?_setCell_other _ _ _ _ (by simp [h6.symm]), World.cell?_setCell_other _ _ _ _ (by simp [h4.symm])]
  exact h
theorem slow_cell4 {w : World} {s : Nat} {v : Value} (hs : s < w.heap.size) (h : w.cell? ⟨s, 4, none⟩ = some v) : (slowW0 w s).cell? ⟨s, 4, none⟩ = some (.int .i32 1) := by
  unfold slowW0
  rw [World.cell?_alloc_past _ _ _ (by simpa [World.setCell] using hs), World.cell?_setCell_other _ _ _ _ (by simp)]
  exact World.cell?_setCell_same _ _ _ h
theorem slow_frozen {w : World} {s i : Nat} (hs : s < w.heap.size) (h : w.frozen? ⟨s, i, none⟩ = false) : (slowW0 w s).frozen? ⟨s, i, none⟩ = false := by
  unfold slowW0
  rw [World.frozen?_alloc_past _ _ _ (by simpa [World.setCell] using hs)]
  simp [h]
set_option maxRecDepth 100000 in
set_option maxHeartbeats 1600000 in
theorem slow_any (s : Nat) (pl : Addr) (hpb : ¬ s = pl.block) (x3 : Value) (w : World) (hs : s < w.heap.size) (hp : w.cell? pl = some (.pointer (some ⟨s, 0, none⟩)))
    (h0 : w.cell? ⟨s, 3, none⟩ = some (.int .u32 0)) (h1 : w.cell? ⟨s, 4, none⟩ = some (.int .i32 0)) (h3 : w.cell? ⟨s, 6, none⟩ = some x3)
    (f0 : w.frozen? ⟨s, 3, none⟩ = false) (f1 : w.frozen? ⟨s, 4, none⟩ = false) (f3 : w.frozen? ⟨s, 6, none⟩ = false) :
    Calls Try.prog 81 #[.pointer (some ⟨s, 3, none⟩), .func (.func 79) #[] #[.pointer (some pl)]] w fun e w' => e = .returned (.tuple #[]) ∧ w' = slowW w s := by
  have hl := run_call_load (P := Try.prog) Try.func82 (by kernel_rfl) (by kernel_rfl) (by kernel_rfl) .u32 (by kernel_rfl) (w := w.setCell ⟨s, 4, none⟩ (.int .i32 1)) (a := ⟨s, 3, none⟩) (x := 0) ((World.cell?_setCell_other _ ⟨s, 4, none⟩ ⟨s, 3, none⟩ _ (by simp)).trans h0)
  have hp1 : (w.setCell ⟨s, 4, none⟩ (.int .i32 1)).cell? pl = some (.pointer (some ⟨s, 0, none⟩)) := (World.cell?_setCell_other _ ⟨s, 4, none⟩ pl _ (fun h => hpb (by rw [← h]))).trans hp
  have h31 : (w.setCell ⟨s, 4, none⟩ (.int .i32 1)).cell? ⟨s, 6, none⟩ = some x3 := (World.cell?_setCell_other _ ⟨s, 4, none⟩ ⟨s, 6, none⟩ _ (by simp)).trans h3
  have hnot : ∀ (x : Bool) (w : World), (Op.unary .not (.bool x)).run Try.prog w = .ok (.bool (!x)) w := fun _ _ => rfl
  have hmm := @run_makeMap Try.prog
  go_enter_defers Try.func81, Try.ntmps81
  go_wp2_with (go_at_call 83; refine (lock_free ⟨s, 4, none⟩ _ (by go_simp) (by go_simp)).mono ?_; rintro e w' ⟨rfl, rfl⟩)
  go_wp2
  go_end0
  go_wp2
  change Leaves _ _ _ _ _ _ (slowW0 w s)
  refine leaves_cons (f := 85) (args := #[.pointer (some ⟨s, 3, none⟩), .bool true]) (by simp) (by simp [go_sem]) ?_
  refine (store_deferred ⟨s, 3, none⟩ (.int .u32 0) .returning _ (slow_cell hs h0 (by decide) (by decide)) (slow_frozen hs f0)).mono ?_
  rintro e u' w'' ⟨rfl, rfl, rfl⟩
  refine leaves_cons (f := 84) (args := #[.pointer (some ⟨s, 4, none⟩)]) (by simp [settle]) (by simp [go_sem]) ?_
  refine (unlock_deferred ⟨s, 4, none⟩ _ _ ?_ (by simp [slow_frozen hs f1])).mono ?_
  · refine (World.cell?_setCell_other _ ⟨s, 3, none⟩ ⟨s, 4, none⟩ _ (by simp)).trans ?_
    rw [World.cell?_drew]
    exact slow_cell4 hs h1
  rintro e u' w'' ⟨rfl, rfl, rfl⟩
  simp [Leaves, settle, results, Try.results81, slowW]
set_option maxRecDepth 100000 in
set_option maxHeartbeats 1600000 in
/-- '(*sync.Once).Do', not yet done, the lock free. -/
theorem do_first (s : Nat) (pl : Addr) (hpb : ¬ s = pl.block) (x3 : Value) (w : World) (hs : s < w.heap.size) (hp : w.cell? pl = some (.pointer (some ⟨s, 0, none⟩)))
    (h0 : w.cell? ⟨s, 3, none⟩ = some (.int .u32 0)) (h1 : w.cell? ⟨s, 4, none⟩ = some (.int .i32 0)) (h3 : w.cell? ⟨s, 6, none⟩ = some x3)
    (f0 : w.frozen? ⟨s, 3, none⟩ = false) (f1 : w.frozen? ⟨s, 4, none⟩ = false) (f3 : w.frozen? ⟨s, 6, none⟩ = false) :
    Calls Try.prog 78 #[.pointer (some ⟨s, 3, none⟩), .func (.func 79) #[] #[.pointer (some pl)]] w fun e w' => e = .returned (.tuple #[]) ∧ w' = slowW w s := by
  have hl := run_call_load (P := Try.prog) Try.func82 (by kernel_rfl) (by kernel_rfl) (by kernel_rfl) .u32 (by kernel_rfl) h0
  have hnot : ∀ (x : Bool) (w : World), (Op.unary .not (.bool x)).run Try.prog w = .ok (.bool (!x)) w := fun _ _ => rfl
  go_enter Try.func78, Try.ntmps78
  go_wp2_with (first | (go_at_call 81; refine (slow_any s pl hpb x3 _ hs hp h0 h1 h3 f0 f1 f3).mono ?_; rintro e w' ⟨rfl, rfl⟩) | (go_at_call 80; go_in))
  go_end0
  exact ⟨rfl, rfl⟩
/-- '(*sync.Once).Do', done already: the function is not called. -/
theorem do_done (a : Addr) (fv : Value) (w : World) (h0 : w.cell? a = some (.int .u32 1)) :
    Calls Try.prog 78 #[.pointer (some a), fv] w fun e w' => e = .returned (.tuple #[]) ∧ w' = w := by
  have hl := run_call_load (P := Try.prog) Try.func82 (by kernel_rfl) (by kernel_rfl) (by kernel_rfl) .u32 (by kernel_rfl) h0
  have hnot : ∀ (x : Bool) (w : World), (Op.unary .not (.bool x)).run Try.prog w = .ok (.bool (!x)) w := fun _ _ => rfl
  go_enter Try.func78, Try.ntmps78
  go_wp2
  go_end0
  exact ⟨rfl, rfl⟩
end Go.Proofs.Ytailpphafoamfaa
