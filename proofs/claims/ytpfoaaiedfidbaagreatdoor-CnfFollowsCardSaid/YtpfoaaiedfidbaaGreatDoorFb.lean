/- The spreader makes a literal true. -/
import Derived.Test.YtpfoaaiedfidbaaGreatDoorFa
import Derived.Test.YtpfoaaiedfidbaaGreatDoorEd
namespace Go.Proofs.YtpfoaaiedfidbaaGreatDoor
open Go Go.RowKit Go.Maps

section
variable {B S bA bT : Nat} {g : Gh} {cs : List (List Int)} {ops tr sv : List Int} {atf : Int → List Int} {w w' : World}
theorem five {cs5 : Array Value} {t : TypeId} (h : w.heap[S]? = some (.cells cs5 t (0, 0))) (i : Nat) : w.cell? ⟨S, i, none⟩ = cs5[i]? ∧ w.frozen? ⟨S, i, none⟩ = false :=
  ⟨cell_of_row w S i cs5 t (0, 0) h, by simp [World.frozen?, h]⟩
theorem SpAt.c0 (h : SpAt B S bA bT g cs ops tr sv atf w) : w.cell? ⟨S, 0, none⟩ = some g.vc := (five h.hS 0).1
theorem SpAt.c1 (h : SpAt B S bA bT g cs ops tr sv atf w) : w.cell? ⟨S, 1, none⟩ = some g.vo := (five h.hS 1).1
theorem SpAt.c2 (h : SpAt B S bA bT g cs ops tr sv atf w) : w.cell? ⟨S, 2, none⟩ = some (.map (some bA)) := (five h.hS 2).1
theorem SpAt.c3 (h : SpAt B S bA bT g cs ops tr sv atf w) : w.cell? ⟨S, 3, none⟩ = some (.map (some bT)) := (five h.hS 3).1
theorem SpAt.c4 (h : SpAt B S bA bT g cs ops tr sv atf w) : w.cell? ⟨S, 4, none⟩ = some g.vt := (five h.hS 4).1
theorem SpAt.f (h : SpAt B S bA bT g cs ops tr sv atf w) (i : Nat) : w.frozen? ⟨S, i, none⟩ = false := (five h.hS i).2
/-- What else the rows of the map of places hold stays. -/
def Keep4 (own : Nat → Nat) (w w' : World) : Prop := ∀ k, k < w.heap.size → own k = 4 → w'.heap[k]? = w.heap[k]?
/-- The spreader behind a call: more may be true, nothing else has turned. -/
def SpPost (B S bA bT : Nat) (g : Gh) (cs : List (List Int)) (ops tr : List Int) (atf : Int → List Int) (w w' : World) : Prop :=
  ∃ g', SpAt B S bA bT g' cs ops tr tr atf w' ∧ (∀ k, k < w.heap.size → g'.own k = g.own k) ∧ Keep4 g.own w w' ∧ Below B w w'
end
set_option maxHeartbeats 1600000 in
set_option maxRecDepth 100000 in
theorem tell_any {B S bA bT : Nat} {g : Gh} {cs : List (List Int)} {ops tr : List Int} {atf : Int → List Int} (x : Int) (w : World) (h : SpAt B S bA bT g cs ops tr tr atf w) (hx : mayB x = true) (hl : tr.length ≤ 100000) (hn : g.nT ≤ 1000000) :
    Calls Tryz.prog 27 #[.pointer (some ⟨S, 0, none⟩), .int .i64 x] w fun e w' => e = .returned (.tuple #[]) ∧ ∃ g', SpAt B S bA bT g' cs ops (tr ++ [x]) (tr ++ [x]) atf w' ∧ g'.nT = g.nT + 1 ∧ g'.n = g.n ∧ (∀ k, k < w.heap.size → g'.own k = g.own k) ∧ Keep4 g.own w w' ∧ Below B w w' := by
  obtain ⟨i0, hi, hz0, hz1, hz2⟩ := info_parts info3
  have H := Lib.hid h
  obtain ⟨D, hown, hD, hh⟩ := h.st
  have HO := Lib.hid hown
  have HD := Lib.hid hD
  have HH := Lib.hid hh
  have HK := Lib.hid (keyOf_may hx)
  have HR := Lib.hid (show g.nT < maxLen by unfold maxLen; omega)
  have c3 := h.c3
  have hlS := h.ltS
  clear h hown hD hh hx
  obtain ⟨At, ct, ev⟩ := H.out.rt.form
  have HE := Lib.hid ev
  clear ev
  have HB1 : Hid (B ≤ w.heap.size) := Lib.hid (by have := H.out.hSB; omega)
  have HL := Lib.hid (show tr.length ≤ 1000000 by omega)
  go_enter Tryz.func27, Tryz.ntmps27
  go_wp2_with (first
    | (at_mapUpdate
       refine wpList_mapUpdate_own _ rfl _ _ _ 49 rfl 3 73 key3 Tryz.underlying49 (unitElem (H := Unit)) bT g.nT D rfl HO.out HR.out _ _ _ rfl rfl HK.out (.agg []) [] unitElem_mk ?_
       intro w1 hown1 hgrow1
       have H1 := Lib.hid (H.out.told hgrow1 (SetAt.put HD.out HH.out hown1))
       have HG1 := Lib.hid hgrow1
       have c4 : w1.cell? ⟨S, 4, none⟩ = some (.slice At tr.length ct) := by rw [← HE.out]; exact H1.out.c4
       have hS1 := H1.out.ltS
       have HA1 := Lib.hid (H1.out.alloc (.cells #[.int .i64 x] 3))
       have Q1 := Lib.hid (show B ≤ (w1.alloc (.cells #[.int .i64 x] 3)).heap.size from Nat.le_trans HB1.out (Nat.le_trans hgrow1.size (by simp)))
       have R1 := Lib.hid (show (w1.alloc (.cells #[.int .i64 x] 3)).ownsRow B 3 1 (.slice At tr.length ct) tr.length (encs tr) by rw [← HE.out]; exact HA1.out.rt)
       clear hown1 hgrow1)
    | (at_builtin
       refine wpList_push _ rfl (.tmp 14) (.tmp 16) 23 rfl 3 i0 (.int .i64 0) 8 Tryz.underlying23 hi hz0 hz1 hz2 rfl (by decide) B (.slice At tr.length ct) tr.length (encs tr) rfl R1.out w1.heap.size 1 (.int .i64 x) rfl (cell_new _ _ _) rfl HL.out Q1.out ?_
       intro v2 w2 hown2 hgrow2 hloc2
       have HO2 := Lib.hid (Own.push hown2)
       obtain ⟨A2, c2, e2⟩ := HO2.out.form
       rw [List.length_append, show [x].length = 1 from rfl] at e2
       subst e2
       have HG2 := Lib.hid hgrow2
       have HL2 := Lib.hid hloc2
       have hgt := hgrow2
       rw [← HE.out] at hgt
       have HGT := Lib.hid hgt
       have hb2 := (hgt.block S HA1.out.ltS (HA1.out.ne HA1.out.tt HA1.out.tS (by decide))).trans HA1.out.hS
       have f4 := (five hb2 4).2
       have d4 : w2.cell? ⟨S, 4, none⟩ = some (.slice At tr.length ct) := by rw [← HE.out]; exact (five hb2 4).1
       clear hown2 hgrow2 hloc2 hgt hb2))
  go_end0
  have HT := HA1.out.trail HGT.out HO2.out (by rw [← HE.out] at HL2; exact HL2.out)
  have hsz : w.heap.size ≤ (w1.alloc (.cells #[.int .i64 x] 3)).heap.size := Nat.le_trans HG1.out.size (by simp)
  refine ⟨rfl, { g with nT := g.nT + 1, vt := .slice A2 (tr.length + 1) c2, own := reown g.own (w1.alloc (.cells #[.int .i64 x] 3)).heap.size 2 }, HT, rfl, rfl, ?_, fun k hk h4 => ?_, ?_⟩
  · intro k hk
    exact reown_old (Nat.lt_of_lt_of_le hk hsz)
  · have hk1 : k < (w1.alloc (.cells #[.int .i64 x] 3)).heap.size := Nat.lt_of_lt_of_le hk hsz
    have n1 : some k ≠ some bT := fun e => by cases e; have := H.out.tT; rw [h4] at this; cases this
    have nS : k ≠ S := fun e => by cases e; have := H.out.tS; rw [h4] at this; cases this
    have n2 : some k ≠ g.vt.ownBlock := fun e => by have := H.out.tt k e.symm; rw [h4] at this; cases this
    rw [Below.heap_setCell _ _ _ _ nS, HGT.out.block k hk1 n2, Below.heap_alloc _ _ _ (Nat.lt_of_lt_of_le hk HG1.out.size)]
    exact HG1.out.block k hk n1
  · have b1 := (Below.refl B w).grown HG1.out HB1.out (fun k hk => by cases hk; exact H.out.hT)
    have b2 := (b1.alloc (Nat.le_trans HB1.out HG1.out.size) (.cells #[.int .i64 x] 3)).grown HGT.out Q1.out (fun k hk => (H.out.rt.lt k hk).1)
    exact b2.setCell H.out.hSB _
end Go.Proofs.YtpfoaaiedfidbaaGreatDoor
