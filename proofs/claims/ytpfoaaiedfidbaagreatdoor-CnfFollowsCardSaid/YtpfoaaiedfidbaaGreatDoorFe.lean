/- The spreader has one clause more. -/
import Derived.Test.YtpfoaaiedfidbaaGreatDoorFd
namespace Go.Proofs.YtpfoaaiedfidbaaGreatDoor
open Go Go.RowKit Go.Maps

section
variable {B S bA bT : Nat} {g : Gh} {cs : List (List Int)} {ops tr sv : List Int} {atf : Int → List Int} {w w' : World}
theorem SpAt.retag (h : SpAt B S bA bT g cs ops tr sv atf w) (t : Nat) : SpAt B S bA bT { g with own := reown g.own w.heap.size t } cs ops tr sv atf w :=
  have hS4 := fun k (hk : k < w.heap.size) => reown_old (own := g.own) (t := t) hk
  { hS := h.hS
    ul := h.ul
    rc := h.rc
    rr := h.rr
    ro := h.ro
    rt := h.rt
    st := h.st
    gr := h.gr
    gd := h.gd
    hB := h.hB
    hT := h.hT
    hSB := h.hSB
    tS := (hS4 S h.ltS).trans h.tS
    tA := (hS4 bA h.ltA).trans h.tA
    tT := (hS4 bT h.st.lt).trans h.tT
    tc := fun k hk => (hS4 k (World.ownsRow.lt h.rc k hk).2).trans (h.tc k hk)
    tr_ := fun j hj k hk => (hS4 k ((h.rr j hj).lt k hk).2).trans (h.tr_ j hj k hk)
    to_ := fun k hk => (hS4 k (h.ro.lt k hk).2).trans (h.to_ k hk)
    tt := fun k hk => (hS4 k (h.rt.lt k hk).2).trans (h.tt k hk)
    tg := h.shuns t }
/-- The row of clauses, longer by a row of use 3. -/
theorem SpAt.clause (h : SpAt B S bA bT g cs ops tr sv atf w) {u v' : Value} {c : List Int} (hg : w.grownBy w' g.vc.ownBlock) (hrow : w'.ownsRow B 23 1 v' (g.us.length + 1) (g.us ++ [u])) (hl : v'.ownBlock = g.vc.ownBlock ∨ v'.ownBlock = some w.heap.size) (hu : Own w B u c) (hut : ∀ k, u.ownBlock = some k → g.own k = 3) :
    SpAt B S bA bT { g with vc := v', us := g.us ++ [u], own := reown g.own w.heap.size 8 } (cs ++ [c]) ops tr sv atf (w'.setCell ⟨S, 0, none⟩ v') := by
  have hr := h.tc
  have hS' : w'.heap[S]? = _ := (hg.block S h.ltS (h.ne hr h.tS (by decide))).trans h.hS
  have g2 := grown_set w' ⟨S, 0, none⟩ v'
  have hS4 := fun k (hk : k < w.heap.size) => reown_old (own := g.own) (t := 8) hk
  have hr2 : ∀ k, some S = some k → reown g.own w.heap.size 8 k = 5 := fun k e => by cases e; rw [hS4 S h.ltS]; exact h.tS
  have tc := use_new hr (fun k hk => (World.ownsRow.lt h.rc k hk).2) hl
  have to_ : ∀ k, g.vo.ownBlock = some k → reown g.own w.heap.size 8 k = 1 := fun k hk => by rw [hS4 k (h.ro.lt k hk).2]; exact h.to_ k hk
  have tt : ∀ k, g.vt.ownBlock = some k → reown g.own w.heap.size 8 k = 2 := fun k hk => by rw [hS4 k (h.rt.lt k hk).2]; exact h.tt k hk
  have tu : ∀ k, u.ownBlock = some k → reown g.own w.heap.size 8 k = 3 := fun k hk => by rw [hS4 k (hu.lt k hk).2]; exact hut k hk
  have trr : ∀ j, j < cs.length → ∀ k, (g.us.getD j (.slice none 0 0)).ownBlock = some k → reown g.own w.heap.size 8 k = 3 := fun j hj k hk => by rw [hS4 k ((h.rr j hj).lt k hk).2]; exact h.tr_ j hj k hk
  have hA := h.ltA
  have tA : reown g.own w.heap.size 8 bA = 6 := by rw [hS4 bA hA]; exact h.tA
  have tT : reown g.own w.heap.size 8 bT = 7 := by rw [hS4 bT h.st.lt]; exact h.tT
  have nA : some bA ≠ some S := fun e => by cases e; have := h.tS; rw [h.tA] at this; cases this
  have nT : some bT ≠ some S := fun e => by cases e; have := h.tS; rw [h.tT] at this; cases this
  have sh1 := (h.shuns 8).kept hg hA (h.ne hr h.tA (by decide))
  have gr1 := h.gr.kept hg (h.ne hr h.tA (by decide)) (h.tg.rowsOff fun j hj => by rw [hr j hj]; decide)
  have ul := h.ul
  have cases_ : ∀ j, j < (cs ++ [c]).length → (j < cs.length ∧ (g.us ++ [u]).getD j (.slice none 0 0) = g.us.getD j (.slice none 0 0) ∧ (cs ++ [c]).getD j [] = cs.getD j []) ∨ ((g.us ++ [u]).getD j (.slice none 0 0) = u ∧ (cs ++ [c]).getD j [] = c) := by
    intro j hj
    by_cases e : j < cs.length
    · left
      exact ⟨e, by simp [List.getD, List.getElem?_append_left (by omega : j < g.us.length)], by simp [List.getD, List.getElem?_append_left e]⟩
    · right
      have : j = cs.length := by simp at hj; omega
      subst this
      exact ⟨by simp [List.getD, ← ul], by simp [List.getD]⟩
  exact
  { hS := heap_set v' hS'
    ul := by simp [ul]
    rc := by
      have : (g.us ++ [u]).length = g.us.length + 1 := by simp
      show (w'.setCell ⟨S, 0, none⟩ v').ownsRow B 23 1 v' (g.us ++ [u]).length (g.us ++ [u])
      rw [this]
      exact rowApart hrow tc g2 hr2 (by decide)
    rr := fun j hj => by
      rcases cases_ j hj with ⟨h1, h2, h3⟩ | ⟨h2, h3⟩
      · show Own _ B ((g.us ++ [u]).getD j (.slice none 0 0)) ((cs ++ [c]).getD j [])
        rw [h2, h3]
        exact Own.apart (Own.apart (h.rr j h1) (h.tr_ j h1) hg hr (by decide)) (trr j h1) g2 hr2 (by decide)
      · show Own _ B ((g.us ++ [u]).getD j (.slice none 0 0)) ((cs ++ [c]).getD j [])
        rw [h2, h3]
        exact Own.apart (Own.apart hu hut hg hr (by decide)) tu g2 hr2 (by decide)
    ro := Own.apart (Own.apart h.ro h.to_ hg hr (by decide)) to_ g2 hr2 (by decide)
    rt := Own.apart (Own.apart h.rt h.tt hg hr (by decide)) tt g2 hr2 (by decide)
    st := (h.st.grown hg (h.ne hr h.tT (by decide))).grown g2 nT
    gr := gr1.kept g2 nA (sh1.rowsOff fun j hj => by rw [hr2 j hj]; decide)
    gd := h.gd
    hB := h.hB
    hT := h.hT
    hSB := h.hSB
    tS := hr2 S rfl
    tA := tA
    tT := tT
    tc := tc
    tr_ := fun j hj => by
      rcases cases_ j hj with ⟨h1, h2, h3⟩ | ⟨h2, h3⟩
      · show ∀ k, ((g.us ++ [u]).getD j (.slice none 0 0)).ownBlock = some k → _
        rw [h2]
        exact trr j h1
      · show ∀ k, ((g.us ++ [u]).getD j (.slice none 0 0)).ownBlock = some k → _
        rw [h2]
        exact tu
    to_ := to_
    tt := tt
    tg := sh1.kept g2 (Nat.lt_of_lt_of_le hA hg.size) nA }
end
/-- Where a literal stands, so many of a clause's literals put down. -/
def atK (atf : Int → List Int) (N : Int) (c : List Int) (k : Nat) : Int → List Int := fun y => if hasB (c.take k) y = true then atf y ++ [N] else atf y
theorem atK_zero (atf : Int → List Int) (N : Int) (c : List Int) : atK atf N c 0 = atf := by
  funext y
  simp [atK, hasB]
theorem atK_succ {atf : Int → List Int} {N x : Int} {c : List Int} {k : Nat} (hn : c.Nodup) (hk : k < c.length) (hx : c.getD k 0 = x) : (fun y => if y = x then atK atf N c k x ++ [N] else atK atf N c k y) = atK atf N c (k + 1) := by
  have hx' : c[k] = x := by rw [← hx]; simp [List.getD, List.getElem?_eq_getElem hk]
  have hnot : hasB (c.take k) x = false := by
    rw [hasB_no, ← hx']
    intro hm
    obtain ⟨j, hj, e⟩ := List.getElem_of_mem hm
    rw [List.getElem_take] at e
    have hjk : j < k := by simp at hj; omega
    have := (List.getElem_inj hn).1 e
    omega
  funext y
  have hs := take_has_snoc c k y x hk hx
  unfold atK
  rw [hs]
  by_cases e : y = x
  · subst e
    simp [hnot]
  · have : (x == y) = false := by simpa using fun h => e h.symm
    simp [e, this]
end Go.Proofs.YtpfoaaiedfidbaaGreatDoor
