/- Where a literal stands: one clause more. -/
import Derived.Test.YtpfoaaiedfidbaaGreatDoorFb
namespace Go.Proofs.YtpfoaaiedfidbaaGreatDoor
open Go Go.RowKit Go.Maps Go.WideElems Go.MapKept
open Go.ChangeMaps (setBlock heap_setBlock_same)

theorem zero23 (w : World) : (zeroValue 23).run Tryz.prog w = .ok (.slice none 0 0) w := by kernel_rfl
/-- A look into the map of places: what comes, the way back, and that it lies apart. -/
theorem groups_look {w : World} {base b n : Nat} {D : DataW Unit} {x : Int} (hown : w.ownsGroups Tryz.prog 3 base 3 .i64 b n D) (hn : n < maxLen) (hx : mayB x = true) :
    ∃ v zs, (Instr.lookup 48 (.map (some b)) (.int .i64 x) false).run Tryz.prog w = .ok v w ∧ D.atKey (.int .i64 x) .nil = rowDatum .i64 v zs ∧ w.ownsInts base 3 .i64 v zs ∧ zs.length ≤ n ∧
      w.groupBack Tryz.prog 48 3 base 3 .i64 b n D (.int .i64 x) (.int .i64 x) v ∧ ∀ No : Nat → Prop, w.Shuns b No → ∀ k, v.ownBlock = some k → ¬ No k := by
  obtain ⟨v, zs, hrun, hat, hoi, hzl, hback⟩ := hown.at key3 Tryz.underlying48 (zero23 w) hn (keyOf_may hx)
  refine ⟨v, zs, hrun, hat, hoi, hzl, hback, fun No hs k hk => ?_⟩
  obtain ⟨es, clock, hb, F, _⟩ := hown
  rcases Maps.fit_look false key3 Tryz.underlying48 (zero23 w) hb F (keyOf_may hx) with ⟨h1, _⟩ | ⟨e0, y, hm, _, h1, _⟩
  · rw [h1] at hrun
    have : v = .slice none 0 0 := by simpa using hrun.symm
    rw [this] at hk
    cases hk
  · rw [h1] at hrun
    have : v = e0.val := by simpa using hrun.symm
    rw [this] at hk
    exact hs es clock hb e0 hm k hk
/-- Behind the store the map's rows still lie apart. -/
theorem back_shuns {w0 w w2 : World} {base b n : Nat} {D : DataW Unit} {x : Int} {u v' : Value} {zs : List Int} {No : Nat → Prop} (hown : w0.ownsGroups Tryz.prog 3 base 3 .i64 b n D) (hn : n < maxLen) (hx : mayB x = true) (hu : w0.ownsInts base 3 .i64 u zs) (hsh : w0.Shuns b No) (hno : ∀ k, v'.ownBlock = some k → ¬ No k)
    (hgr : w0.grownBy w u.ownBlock) (hrun : (Instr.mapUpdate 48 (.map (some b)) (.int .i64 x) v').run Tryz.prog w = .ok () w2) : w2.Shuns b No := by
  obtain ⟨es, clock, hb, F, hs, _, hbb, _⟩ := hown
  have hlt : b < w0.heap.size := (Array.getElem?_eq_some_iff.1 hb).1
  have hne : some b ≠ u.ownBlock := fun e => by have := (hu.1.lt b e.symm).1; omega
  have hb1 := (hgr.block b hlt hne).trans hb
  obtain ⟨es', clock', hb2, hwho⟩ := stored_who key3 Tryz.underlying48 hb1 F (Nat.lt_of_le_of_lt hs hn) (keyOf_may hx) hrun
  intro es2 clock2 h2 y hy k hk
  rw [hb2] at h2
  obtain ⟨rfl, rfl⟩ : es' = es2 ∧ clock' = clock2 := by simpa using h2
  rcases hwho y hy with ⟨h3, _⟩ | ⟨_, h3⟩
  · exact hsh es clock hb y h3 k hk
  · rw [h3] at hk
    exact hno k hk
theorem groups_isMap {w : World} {base b n : Nat} {D : DataW Unit} (h : w.ownsGroups Tryz.prog 3 base 3 .i64 b n D) : IsMap D := by
  obtain ⟨es, clock, _, _, _, rfl, _⟩ := h
  exact ⟨_, rfl⟩
section
variable {B S bA bT : Nat} {g : Gh} {cs : List (List Int)} {ops tr sv : List Int} {atf : Int → List Int} {w w1 w2 : World}
/-- One more clause in which a literal stands. -/
theorem SpAt.placed (h : SpAt B S bA bT g cs ops tr sv atf w) {x N : Int} {v v' : Value} {zs : List Int} (hx : mayB x = true) (hN : (Lit.int .i64 N).wf = true) (hn : g.n < maxLen)
    (hat : g.D.atKey (.int .i64 x) .nil = rowDatum .i64 v zs) (hoi : w.ownsInts (bA + 1) 3 .i64 v zs) (hzl : zs.length ≤ g.n) (hback : w.groupBack Tryz.prog 48 3 (bA + 1) 3 .i64 bA g.n g.D (.int .i64 x) (.int .i64 x) v) (hsh : ∀ No : Nat → Prop, w.Shuns bA No → ∀ k, v.ownBlock = some k → ¬ No k)
    (hg : w.grownBy w1 v.ownBlock) (hown' : w1.ownsRow (bA + 1) 3 1 v' (zs.length + 1) (zs.map (Value.int .i64) ++ [.int .i64 N])) (hloc : v'.ownBlock = v.ownBlock ∨ ∃ k, v'.ownBlock = some k ∧ w.heap.size ≤ k) :
    ∃ w2, (Instr.mapUpdate 48 (.map (some bA)) (.int .i64 x) v').run Tryz.prog w1 = .ok () w2 ∧ w1.grownBy w2 (some bA) ∧
      SpAt B S bA bT { g with n := g.n + 1, D := g.D.put (.int .i64 x) (rowDatum .i64 v' (zs ++ [N])), own := reown g.own w.heap.size 4 } cs ops tr sv (fun y => if y = x then atf x ++ [N] else atf y) w2 := by
  have hap := hoi.appended hown' hN
  obtain ⟨w2, hrun, r1, r2⟩ := hback w1 v' (zs ++ [N]) hg hap (by simp; omega) hloc
  refine ⟨w2, hrun, r2, ?_⟩
  have hr : ∀ k, v.ownBlock = some k → g.own k = 4 := fun k hk => Classical.byContradiction fun e => hsh _ h.tg k hk e
  have hvlt : ∀ k, v.ownBlock = some k → k < w.heap.size := fun k hk => (hoi.1.lt k hk).2
  have hS4 := fun k (hk : k < w.heap.size) => reown_old (own := g.own) (t := 4) hk
  have hA := h.ltA
  have tA : reown g.own w.heap.size 4 bA = 6 := by rw [hS4 bA hA]; exact h.tA
  have hr2 : ∀ k, some bA = some k → reown g.own w.heap.size 4 k = 6 := fun k e => by cases e; exact tA
  have tS : reown g.own w.heap.size 4 S = 5 := by rw [hS4 S h.ltS]; exact h.tS
  have tT : reown g.own w.heap.size 4 bT = 7 := by rw [hS4 bT h.st.lt]; exact h.tT
  have tc : ∀ k, g.vc.ownBlock = some k → reown g.own w.heap.size 4 k = 8 := fun k hk => by rw [hS4 k (World.ownsRow.lt h.rc k hk).2]; exact h.tc k hk
  have trr : ∀ j, j < cs.length → ∀ k, (g.us.getD j (.slice none 0 0)).ownBlock = some k → reown g.own w.heap.size 4 k = 3 := fun j hj k hk => by rw [hS4 k ((h.rr j hj).lt k hk).2]; exact h.tr_ j hj k hk
  have to_ : ∀ k, g.vo.ownBlock = some k → reown g.own w.heap.size 4 k = 1 := fun k hk => by rw [hS4 k (h.ro.lt k hk).2]; exact h.to_ k hk
  have tt : ∀ k, g.vt.ownBlock = some k → reown g.own w.heap.size 4 k = 2 := fun k hk => by rw [hS4 k (h.rt.lt k hk).2]; exact h.tt k hk
  have nS : some S ≠ some bA := fun e => by cases e; have := h.tS; rw [h.tA] at this; cases this
  have nT : some bT ≠ some bA := fun e => by cases e; have := h.tT; rw [h.tA] at this; cases this
  have hax : atf x = zs := by rw [← h.gd x, hat]; exact numsOf_row hoi
  have hv' : ∀ k, v'.ownBlock = some k → ¬ (reown g.own w.heap.size 4 k ≠ 4) := by
    intro k hk
    rcases hloc with e | ⟨k', e, hk'⟩
    · rw [e] at hk
      rw [hS4 k (hvlt k hk), hr k hk]
      simp
    · rw [e] at hk
      cases hk
      rw [reown_new hk']
      simp
  exact
  { hS := (r2.block S (Nat.lt_of_lt_of_le h.ltS hg.size) nS).trans ((hg.block S h.ltS (h.ne hr h.tS (by decide))).trans h.hS)
    ul := h.ul
    rc := rowApart (rowApart h.rc h.tc hg hr (by decide)) tc r2 hr2 (by decide)
    rr := fun j hj => Own.apart (Own.apart (h.rr j hj) (h.tr_ j hj) hg hr (by decide)) (trr j hj) r2 hr2 (by decide)
    ro := Own.apart (Own.apart h.ro h.to_ hg hr (by decide)) to_ r2 hr2 (by decide)
    rt := Own.apart (Own.apart h.rt h.tt hg hr (by decide)) tt r2 hr2 (by decide)
    st := (h.st.grown hg (h.ne hr h.tT (by decide))).grown r2 nT
    gr := r1
    gd := fun y => by
      by_cases e : y = x
      · subst e
        rw [if_pos rfl, atKey_put_same (groups_isMap h.gr) (by simp [WideAt.IsKeyLit]), numsOf_row hap, hax]
      · rw [if_neg e, atKey_put_other (by simpa using e), h.gd y]
    hB := h.hB
    hT := h.hT
    hSB := h.hSB
    tS := tS
    tA := tA
    tT := tT
    tc := tc
    tr_ := trr
    to_ := to_
    tt := tt
    tg := back_shuns h.gr hn hx hoi (h.shuns 4) hv' hg hrun }
end
end Go.Proofs.YtpfoaaiedfidbaaGreatDoor
