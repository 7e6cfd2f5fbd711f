/- The spreader in memory: five cells, two maps, rows that lie apart. -/
import Derived.Test.YtpfoaaiedfidbaaGreatDoorEc
import Derived.Maps.GroupsBeside
namespace Go.Proofs.YtpfoaaiedfidbaaGreatDoor
open Go Go.RowKit Go.Maps

/-- The numbers that a datum of a row holds. -/
def numsOf {H : Type} : DataW H → List Int
  | .slice es _ => es.map fun d => match d with | .lit (.int _ z) => z | _ => 0
  | _ => []
theorem numsOf_row {H : Type} {w : World} {base : Nat} {v : Value} {zs : List Int} (h : w.ownsInts base 3 .i64 v zs) : numsOf (rowDatum (H := H) .i64 v zs) = zs := by
  rcases h.datum (H := H) with ⟨h1, h2⟩ | h1
  · rw [h1, h2]; rfl
  · rw [h1]
    simp [numsOf, ChangeShapes.lits, Function.comp_def]
/-- What stands where: the values in the spreader's cells, its clauses' rows, the map of places, and what each block is for. -/
structure Gh where
  vc : Value
  vo : Value
  vt : Value
  us : List Value
  n : Nat
  nT : Nat
  D : DataW Unit
  own : Nat → Nat
/-- The spreader at block S: its clauses, how many of each are open, what is true, where each literal stands. -/
structure SpAt (B S bA bT : Nat) (g : Gh) (cs : List (List Int)) (ops tr sv : List Int) (atf : Int → List Int) (w : World) : Prop where
  hS : w.heap[S]? = some (.cells #[g.vc, g.vo, .map (some bA), .map (some bT), g.vt] 51 (0, 0))
  ul : g.us.length = cs.length
  rc : w.ownsRow B 23 1 g.vc g.us.length g.us
  rr : ∀ j, j < cs.length → Own w B (g.us.getD j (.slice none 0 0)) (cs.getD j [])
  ro : Own w B g.vo ops
  rt : Own w B g.vt tr
  st : SetAt w bT g.nT sv
  gr : w.ownsGroups Tryz.prog 3 (bA + 1) 3 .i64 bA g.n g.D
  gd : ∀ x, numsOf (g.D.atKey (.int .i64 x) .nil) = atf x
  hB : B ≤ bA
  hT : B ≤ bT
  hSB : B ≤ S
  tS : g.own S = 5
  tA : g.own bA = 6
  tT : g.own bT = 7
  tc : ∀ k, g.vc.ownBlock = some k → g.own k = 8
  tr_ : ∀ j, j < cs.length → ∀ k, (g.us.getD j (.slice none 0 0)).ownBlock = some k → g.own k = 3
  to_ : ∀ k, g.vo.ownBlock = some k → g.own k = 1
  tt : ∀ k, g.vt.ownBlock = some k → g.own k = 2
  tg : w.Shuns bA fun k => g.own k ≠ 4
/-- New blocks are for t. -/
def reown (own : Nat → Nat) (N t : Nat) : Nat → Nat := fun k => if k < N then own k else t
theorem reown_old {own : Nat → Nat} {N t k : Nat} (h : k < N) : reown own N t k = own k := by simp [reown, h]
theorem reown_new {own : Nat → Nat} {N t k : Nat} (h : N ≤ k) : reown own N t k = t := by simp [reown]; omega
section
variable {B S bA bT : Nat} {g : Gh} {cs : List (List Int)} {ops tr sv : List Int} {atf : Int → List Int} {w w' : World}
theorem SpAt.ltS (h : SpAt B S bA bT g cs ops tr sv atf w) : S < w.heap.size := (Array.getElem?_eq_some_iff.1 h.hS).1
theorem SpAt.ltA (h : SpAt B S bA bT g cs ops tr sv atf w) : bA < w.heap.size := by
  obtain ⟨es, clock, hb, _⟩ := h.gr
  exact (Array.getElem?_eq_some_iff.1 hb).1
/-- A row of another use is kept. -/
theorem rowApart {B n t t' : Nat} {e : TypeId} {v : Value} {xs : List Value} {row : Option Nat} {own : Nat → Nat} (h : w.ownsRow B e 1 v n xs) (ht : ∀ k, v.ownBlock = some k → own k = t) (hg : w.grownBy w' row) (hr : ∀ k, row = some k → own k = t') (hne : t ≠ t') : w'.ownsRow B e 1 v n xs := by
  refine h.kept hg ?_
  cases hb : v.ownBlock with
  | none => exact .inl rfl
  | some k =>
    refine .inr fun e => hne ?_
    rw [← ht k hb, hr k e.symm]
theorem Own.apart {B t t' : Nat} {v : Value} {xs : List Int} {row : Option Nat} {own : Nat → Nat} (h : Own w B v xs) (ht : ∀ k, v.ownBlock = some k → own k = t) (hg : w.grownBy w' row) (hr : ∀ k, row = some k → own k = t') (hne : t ≠ t') : Own w' B v xs := rowApart h ht hg hr hne
theorem SpAt.ne (_ : SpAt B S bA bT g cs ops tr sv atf w) {row : Option Nat} {t' : Nat} (hr : ∀ k, row = some k → g.own k = t') {k t : Nat} (hk : g.own k = t) (hne : t ≠ t') : some k ≠ row := fun e => hne (by rw [← hk, hr k e.symm])
/-- New blocks, and nothing else. -/
theorem SpAt.keep (h : SpAt B S bA bT g cs ops tr sv atf w) (hg : w.grownBy w' none) : SpAt B S bA bT g cs ops tr sv atf w' where
  hS := (hg.block S h.ltS (by simp)).trans h.hS
  ul := h.ul
  rc := h.rc.kept hg (by cases g.vc.ownBlock <;> simp)
  rr := fun j hj => (h.rr j hj).kept hg (by cases (g.us.getD j (.slice none 0 0)).ownBlock <;> simp)
  ro := h.ro.kept hg (by cases g.vo.ownBlock <;> simp)
  rt := h.rt.kept hg (by cases g.vt.ownBlock <;> simp)
  st := h.st.grown hg (by simp)
  gr := h.gr.kept hg (by simp) (fun es clock _ x _ => by cases x.val.ownBlock <;> simp)
  gd := h.gd
  hB := h.hB
  hT := h.hT
  hSB := h.hSB
  tS := h.tS
  tA := h.tA
  tT := h.tT
  tc := h.tc
  tr_ := h.tr_
  to_ := h.to_
  tt := h.tt
  tg := h.tg.kept hg h.ltA (by simp)
theorem SpAt.alloc (h : SpAt B S bA bT g cs ops tr sv atf w) (o : Obj) : SpAt B S bA bT g cs ops tr sv atf (w.alloc o) := h.keep (World.grownBy_alloc _ _ _)
theorem grown_below (hb : Below w.heap.size w w') : w.grownBy w' none := ⟨hb.os, hb.tape, hb.output, hb.size, fun k hk _ => hb.block k hk⟩
theorem SpAt.below (h : SpAt B S bA bT g cs ops tr sv atf w) (hb : Below w.heap.size w w') : SpAt B S bA bT g cs ops tr sv atf w' := h.keep (grown_below hb)
theorem grown_set (w : World) (p : Addr) (u : Value) : w.grownBy (w.setCell p u) (some p.block) := ⟨rfl, rfl, rfl, by simp [World.setCell], fun k _ hk => Below.heap_setCell _ _ _ _ (fun e => hk (by rw [e]))⟩
theorem heap_set {S i : Nat} {cs5 : Array Value} {t : TypeId} (u : Value) (h : w.heap[S]? = some (.cells cs5 t (0, 0))) : (w.setCell ⟨S, i, none⟩ u).heap[S]? = some (.cells (cs5.setIfInBounds i u) t (0, 0)) := by
  simp [World.setCell, Array.getElem?_modify, h]
/-- The set of what is true, written. -/
theorem SpAt.told (h : SpAt B S bA bT g cs ops tr sv atf w) {sv' : List Int} {m : Nat} (hg : w.grownBy w' (some bT)) (hst : SetAt w' bT m sv') : SpAt B S bA bT { g with nT := m } cs ops tr sv' atf w' :=
  have hr : ∀ k, some bT = some k → g.own k = 7 := fun k e => by cases e; exact h.tT
  { hS := (hg.block S h.ltS (h.ne hr h.tS (by decide))).trans h.hS
    ul := h.ul
    rc := rowApart h.rc h.tc hg hr (by decide)
    rr := fun j hj => Own.apart (h.rr j hj) (h.tr_ j hj) hg hr (by decide)
    ro := Own.apart h.ro h.to_ hg hr (by decide)
    rt := Own.apart h.rt h.tt hg hr (by decide)
    st := hst
    gr := h.gr.kept hg (h.ne hr h.tA (by decide)) (h.tg.rowsOff fun j hj => by rw [hr j hj]; decide)
    gd := h.gd
    hB := h.hB
    hT := h.hT
    hSB := h.hSB
    tS := h.tS
    tA := h.tA
    tT := h.tT
    tc := h.tc
    tr_ := h.tr_
    to_ := h.to_
    tt := h.tt
    tg := h.tg.kept hg h.ltA (h.ne hr h.tA (by decide)) }
/-- Uses of blocks behind an append of a row of use t. -/
theorem use_new {own : Nat → Nat} {N t : Nat} {v v' : Value} (ht : ∀ k, v.ownBlock = some k → own k = t) (hlt : ∀ k, v.ownBlock = some k → k < N) (hl : v'.ownBlock = v.ownBlock ∨ v'.ownBlock = some N) : ∀ k, v'.ownBlock = some k → reown own N t k = t := by
  intro k hk
  rcases hl with h | h
  · rw [h] at hk
    rw [reown_old (hlt k hk)]
    exact ht k hk
  · rw [h] at hk
    cases hk
    exact reown_new (Nat.le_refl _)
theorem SpAt.shuns (h : SpAt B S bA bT g cs ops tr sv atf w) (t : Nat) : w.Shuns bA fun k => reown g.own w.heap.size t k ≠ 4 :=
  h.tg.reno h.gr fun k hk => by
    by_cases hlt : k < w.heap.size
    · rw [reown_old hlt] at hk; exact .inl hk
    · exact .inr (by omega)
/-- The row of what is true, longer. -/
theorem SpAt.trail (h : SpAt B S bA bT g cs ops tr sv atf w) {v' : Value} {tr' : List Int} (hg : w.grownBy w' g.vt.ownBlock) (hrow : Own w' B v' tr') (hl : v'.ownBlock = g.vt.ownBlock ∨ v'.ownBlock = some w.heap.size) :
    SpAt B S bA bT { g with vt := v', own := reown g.own w.heap.size 2 } cs ops tr' sv atf (w'.setCell ⟨S, 4, none⟩ v') := by
  have hr := h.tt
  have hS' : w'.heap[S]? = _ := (hg.block S h.ltS (h.ne hr h.tS (by decide))).trans h.hS
  have g2 := grown_set w' ⟨S, 4, none⟩ v'
  have hS4 := fun k (hk : k < w.heap.size) => reown_old (own := g.own) (t := 2) hk
  have hr2 : ∀ k, some S = some k → reown g.own w.heap.size 2 k = 5 := fun k e => by cases e; rw [hS4 S h.ltS]; exact h.tS
  have tc : ∀ k, g.vc.ownBlock = some k → reown g.own w.heap.size 2 k = 8 := fun k hk => by rw [hS4 k (World.ownsRow.lt h.rc k hk).2]; exact h.tc k hk
  have trr : ∀ j, j < cs.length → ∀ k, (g.us.getD j (.slice none 0 0)).ownBlock = some k → reown g.own w.heap.size 2 k = 3 := fun j hj k hk => by rw [hS4 k ((h.rr j hj).lt k hk).2]; exact h.tr_ j hj k hk
  have to_ : ∀ k, g.vo.ownBlock = some k → reown g.own w.heap.size 2 k = 1 := fun k hk => by rw [hS4 k (h.ro.lt k hk).2]; exact h.to_ k hk
  have tt := use_new hr (fun k hk => (h.rt.lt k hk).2) hl
  have hA := h.ltA
  have tA : reown g.own w.heap.size 2 bA = 6 := by rw [hS4 bA hA]; exact h.tA
  have tT : reown g.own w.heap.size 2 bT = 7 := by rw [hS4 bT h.st.lt]; exact h.tT
  have nA : some bA ≠ some S := fun e => by cases e; have := h.tS; rw [h.tA] at this; cases this
  have nT : some bT ≠ some S := fun e => by cases e; have := h.tS; rw [h.tT] at this; cases this
  have sh1 := (h.shuns 2).kept hg hA (h.ne hr h.tA (by decide))
  have gr1 := h.gr.kept hg (h.ne hr h.tA (by decide)) (h.tg.rowsOff fun j hj => by rw [hr j hj]; decide)
  exact
  { hS := heap_set v' hS'
    ul := h.ul
    rc := rowApart (rowApart h.rc h.tc hg hr (by decide)) tc g2 hr2 (by decide)
    rr := fun j hj => Own.apart (Own.apart (h.rr j hj) (h.tr_ j hj) hg hr (by decide)) (trr j hj) g2 hr2 (by decide)
    ro := Own.apart (Own.apart h.ro h.to_ hg hr (by decide)) to_ g2 hr2 (by decide)
    rt := Own.apart hrow tt g2 hr2 (by decide)
    st := (h.st.grown hg (h.ne hr h.tT (by decide))).grown g2 nT
    gr := gr1.kept g2 nA (sh1.rowsOff fun j hj => by rw [hr2 j hj]; decide)
    gd := h.gd
    hB := h.hB
    hT := h.hT
    hSB := h.hSB
    tS := hr2 S rfl
    tA := tA
    tT := tT
    tc := tc
    tr_ := trr
    to_ := to_
    tt := tt
    tg := sh1.kept g2 (Nat.lt_of_lt_of_le hA hg.size) nA }
/-- The row of how many are open, longer. -/
theorem SpAt.opened (h : SpAt B S bA bT g cs ops tr sv atf w) {v' : Value} {ops' : List Int} (hg : w.grownBy w' g.vo.ownBlock) (hrow : Own w' B v' ops') (hl : v'.ownBlock = g.vo.ownBlock ∨ v'.ownBlock = some w.heap.size) :
    SpAt B S bA bT { g with vo := v', own := reown g.own w.heap.size 1 } cs ops' tr sv atf (w'.setCell ⟨S, 1, none⟩ v') := by
  have hr := h.to_
  have hS' : w'.heap[S]? = _ := (hg.block S h.ltS (h.ne hr h.tS (by decide))).trans h.hS
  have g2 := grown_set w' ⟨S, 1, none⟩ v'
  have hS4 := fun k (hk : k < w.heap.size) => reown_old (own := g.own) (t := 1) hk
  have hr2 : ∀ k, some S = some k → reown g.own w.heap.size 1 k = 5 := fun k e => by cases e; rw [hS4 S h.ltS]; exact h.tS
  have tc : ∀ k, g.vc.ownBlock = some k → reown g.own w.heap.size 1 k = 8 := fun k hk => by rw [hS4 k (World.ownsRow.lt h.rc k hk).2]; exact h.tc k hk
  have trr : ∀ j, j < cs.length → ∀ k, (g.us.getD j (.slice none 0 0)).ownBlock = some k → reown g.own w.heap.size 1 k = 3 := fun j hj k hk => by rw [hS4 k ((h.rr j hj).lt k hk).2]; exact h.tr_ j hj k hk
  have tt : ∀ k, g.vt.ownBlock = some k → reown g.own w.heap.size 1 k = 2 := fun k hk => by rw [hS4 k (h.rt.lt k hk).2]; exact h.tt k hk
  have to_ := use_new hr (fun k hk => (h.ro.lt k hk).2) hl
  have hA := h.ltA
  have tA : reown g.own w.heap.size 1 bA = 6 := by rw [hS4 bA hA]; exact h.tA
  have tT : reown g.own w.heap.size 1 bT = 7 := by rw [hS4 bT h.st.lt]; exact h.tT
  have nA : some bA ≠ some S := fun e => by cases e; have := h.tS; rw [h.tA] at this; cases this
  have nT : some bT ≠ some S := fun e => by cases e; have := h.tS; rw [h.tT] at this; cases this
  have sh1 := (h.shuns 1).kept hg hA (h.ne hr h.tA (by decide))
  have gr1 := h.gr.kept hg (h.ne hr h.tA (by decide)) (h.tg.rowsOff fun j hj => by rw [hr j hj]; decide)
  exact
  { hS := heap_set v' hS'
    ul := h.ul
    rc := rowApart (rowApart h.rc h.tc hg hr (by decide)) tc g2 hr2 (by decide)
    rr := fun j hj => Own.apart (Own.apart (h.rr j hj) (h.tr_ j hj) hg hr (by decide)) (trr j hj) g2 hr2 (by decide)
    ro := Own.apart hrow to_ g2 hr2 (by decide)
    rt := Own.apart (Own.apart h.rt h.tt hg hr (by decide)) tt g2 hr2 (by decide)
    st := (h.st.grown hg (h.ne hr h.tT (by decide))).grown g2 nT
    gr := gr1.kept g2 nA (sh1.rowsOff fun j hj => by rw [hr2 j hj]; decide)
    gd := h.gd
    hB := h.hB
    hT := h.hT
    hSB := h.hSB
    tS := hr2 S rfl
    tA := tA
    tT := tT
    tc := tc
    tr_ := trr
    to_ := to_
    tt := tt
    tg := sh1.kept g2 (Nat.lt_of_lt_of_le hA hg.size) nA }
/-- How many are open of one, written. -/
theorem SpAt.stored (h : SpAt B S bA bT g cs ops tr sv atf w) {ops' : List Int} {k : Nat} (hk : g.vo.ownBlock = some k) (hg : w.grownBy w' (some k)) (hrow : Own w' B g.vo ops') :
    SpAt B S bA bT g cs ops' tr sv atf w' := by
  have hr : ∀ j, some k = some j → g.own j = 1 := fun j e => by cases e; exact h.to_ k hk
  exact
  { hS := (hg.block S h.ltS (h.ne hr h.tS (by decide))).trans h.hS
    ul := h.ul
    rc := rowApart h.rc h.tc hg hr (by decide)
    rr := fun j hj => Own.apart (h.rr j hj) (h.tr_ j hj) hg hr (by decide)
    ro := hrow
    rt := Own.apart h.rt h.tt hg hr (by decide)
    st := h.st.grown hg (h.ne hr h.tT (by decide))
    gr := h.gr.kept hg (h.ne hr h.tA (by decide)) (h.tg.rowsOff fun j hj => by rw [hr j hj]; decide)
    gd := h.gd
    hB := h.hB
    hT := h.hT
    hSB := h.hSB
    tS := h.tS
    tA := h.tA
    tT := h.tT
    tc := h.tc
    tr_ := h.tr_
    to_ := h.to_
    tt := h.tt
    tg := h.tg.kept hg h.ltA (h.ne hr h.tA (by decide)) }
end
end Go.Proofs.YtpfoaaiedfidbaaGreatDoor
