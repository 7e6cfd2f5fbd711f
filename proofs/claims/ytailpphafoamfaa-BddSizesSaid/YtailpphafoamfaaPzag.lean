/- What is needed. What a diagram needs. A diagram is put into a store, node by node: it is what it was. What a node of a draft has become. -/
import Derived.IntWalk
import Derived.Test.YtailpphafoamfaaPzaf
set_option linter.all false
namespace Go.Proofs.Ytailpphafoamfaa
open Go Go.RowKit Go.Maps


def boolC (m : List Bool) : Array Value := (m.map Value.bool).toArray
structure NEnv where
  d : Nat
  b2 : Nat
  b6 : Nat
  b7 : Nat
  bn : Nat
/-- What is marked as needed. -/
structure NeedAt (w0 w : World) (g : SG) (D : DG) (E : NEnv) (m : List Bool) (many : Nat) : Prop where
  gr : w0.grownBy w none
  hd : D.d < w0.heap.size
  c2 : w.heap[E.b2]? = some (.cells #[.pointer (some ⟨D.d, 0, none⟩)] 94 (0, 0))
  c6 : w.heap[E.b6]? = some (.cells #[.slice (some ⟨E.bn, 0, none⟩) m.length m.length] 32 (0, 0))
  c7 : w.heap[E.b7]? = some (.cells #[.int .i64 (many : Int)] 3 (0, 0))
  cn : w.heap[E.bn]? = some (.cells (boolC m) 4 (0, 0))
  ge : w0.heap.size ≤ E.b2 ∧ w0.heap.size ≤ E.b6 ∧ w0.heap.size ≤ E.b7 ∧ w0.heap.size ≤ E.bn
  ne : E.b2 ≠ E.b6 ∧ E.b2 ≠ E.b7 ∧ E.b2 ≠ E.bn ∧ E.b6 ≠ E.b7 ∧ E.b6 ≠ E.bn ∧ E.b7 ≠ E.bn
section
variable {w0 w w' : World} {o : Nat → Nat} {g : SG} {D : DG} {E : NEnv} {m : List Bool} {many : Nat}
theorem cell_of {w : World} {b i : Nat} {cs : Array Value} {t : TypeId} {fr : Nat × Nat} (h : w.heap[b]? = some (.cells cs t fr)) : w.cell? ⟨b, i, none⟩ = cs[i]? := by unfold World.cell?; rw [h]; rfl
theorem frz_of {w : World} {b i : Nat} {cs : Array Value} {t : TypeId} (h : w.heap[b]? = some (.cells cs t (0, 0))) : w.frozen? ⟨b, i, none⟩ = false := by unfold World.frozen?; rw [h]; simp
theorem grown_out {w w' : World} {b : Nat} (hg : w0.grownBy w none) (h : w.grownBy w' (some b)) (hb : w0.heap.size ≤ b) : w0.grownBy w' none :=
  ⟨h.os.trans hg.os, h.tape.trans hg.tape, h.output.trans hg.output, Nat.le_trans hg.size h.size, fun k hk _ => (h.block k (Nat.lt_of_lt_of_le hk hg.size) (by simp; omega)).trans (grown_far hg hk)⟩
theorem boolC_at {j : Nat} (h : j < m.length) : (boolC m)[j]? = some (.bool (m.getD j true)) := by
  simp [boolC, List.getElem?_eq_getElem h]
theorem NeedAt.drew (h : NeedAt w0 w g D E m many) : NeedAt w0 (World.drew w) g D E m many := ⟨grown_trans h.gr (grown_drewN w 1), h.hd, h.c2, h.c6, h.c7, h.cn, h.ge, h.ne⟩
/-- One more is marked. -/
theorem NeedAt.mark (h : NeedAt w0 w g D E m many) (j : Nat) : NeedAt w0 ((w.setCell ⟨E.bn, j, none⟩ (.bool true)).setCell ⟨E.b7, 0, none⟩ (.int .i64 ((many + 1 : Nat) : Int))) g D E (m.set j true) (many + 1) := by
  have g1 := grown_set w ⟨E.bn, j, none⟩ (.bool true)
  have g2 := grown_set (w.setCell ⟨E.bn, j, none⟩ (.bool true)) ⟨E.b7, 0, none⟩ (.int .i64 ((many + 1 : Nat) : Int))
  have lt : ∀ {b : Nat} {x : Obj}, w.heap[b]? = some x → b < w.heap.size := fun h => (Array.getElem?_eq_some_iff.1 h).1
  obtain ⟨n1, n2, n3, n4, n5, n6⟩ := h.ne
  have mv : ∀ {b : Nat} {x : Obj}, w.heap[b]? = some x → b ≠ E.bn → b ≠ E.b7 → ((w.setCell ⟨E.bn, j, none⟩ (.bool true)).setCell ⟨E.b7, 0, none⟩ (.int .i64 ((many + 1 : Nat) : Int))).heap[b]? = some x := fun {b x} hb h1 h2 =>
    (g2.block b (Nat.lt_of_lt_of_le (lt hb) g1.size) (by simpa using h2)).trans ((g1.block b (lt hb) (by simpa using h1)).trans hb)
  refine ⟨grown_out (grown_out h.gr g1 h.ge.2.2.2) g2 h.ge.2.2.1, h.hd, mv h.c2 n3 n2, by rw [List.length_set]; exact mv h.c6 n5 n4, ?_, ?_, h.ge, h.ne⟩
  · exact heap_set _ ((g1.block E.b7 (lt h.c7) (by simpa using n6)).trans h.c7)
  · rw [Below.heap_setCell _ _ _ _ (by simpa using n6.symm), heap_set _ h.cn]
    simp [boolC, List.map_set]
def NeedPost (w0 : World) (g : SG) (D : DG) (E : NEnv) (m : List Bool) (many n : Nat) (e : Ending) (w' : World) : Prop := e = .returned (.tuple #[]) ∧ NeedAt w0 w' g D E (needN g.ns.length m many n).1 (needN g.ns.length m many n).2
set_option maxHeartbeats 8000000 in
set_option maxRecDepth 100000 in
theorem need_low (h : NeedAt w0 w g D E m many) (hd : DraftAt w0 o g D) {n : Nat} (hm : m.length = D.ds.length) (hn : n < g.ns.length + D.ds.length) (hl : g.ns.length + D.ds.length ≤ 33554432) (hmany : many ≤ 33554432) (hlo : n < g.ns.length) : Calls Try.prog 73 #[.int .i32 (n : Int), .pointer (some ⟨E.b2, 0, none⟩), .pointer (some ⟨E.b6, 0, none⟩), .pointer (some ⟨E.b7, 0, none⟩)] w (NeedPost w0 g D E m many n) := by
  have c2 : w.cell? ⟨E.b2, 0, none⟩ = some (.pointer (some ⟨D.d, 0, none⟩)) := (cell_of h.c2).trans rfl
  have d1 : w.cell? ⟨D.d, 1, none⟩ = some (.int .i32 (g.ns.length : Int)) := (World.cell?_of_block (a := ⟨D.d, 1, none⟩) (grown_far h.gr h.hd)).trans hd.c1
  have HN := Lib.hid h
  have q1 : ¬ ((n : Nat) : Int) ≥ (g.ns.length : Int) := by omega
  have q2 : (n : Int) < (g.ns.length : Int) := by omega
  have e0 : needN g.ns.length m many n = (m, many) := if_neg (by omega)
  have HE := Lib.hid (show NeedPost w0 g D E m many n (.returned (.tuple #[])) (World.drew w) from ⟨rfl, by rw [e0]; exact h.drew⟩)
  clear h hd hm hn hl hmany hlo e0
  go_enter Try.func73, Try.ntmps73
  go_wp2
  refine wp_region_T (S := fun w' => ∀ k ∈ [E.b2, D.d], w'.heap[k]? = w.heap[k]?) (tail := fun _ => false) (by kernel_rfl) ?_
  change wpAnyT _ _ _ _ _ _ _ _ _ (World.drew w)
  have BD := Lib.hid (show ∀ k ∈ [E.b2, D.d], (World.drew w).heap[k]? = w.heap[k]? from fun _ _ => rfl)
  refine tk 0 5 (.int .i32 ((n : Nat) : Int)) BD.out ?y0 ?_
  case y0 =>
    intro w' hw'
    go_simp
  try simp only [Act.put, List.setIfInBounds_toArray, List.set_cons_zero, List.set_cons_succ]
  refine tk 1 6 (.pointer (some ⟨D.d, 0, none⟩)) BD.out ?y1 ?_
  case y1 =>
    intro w' hw'
    have y0 := (World.cell?_of_block (a := ⟨E.b2, 0, none⟩) (hw' _ (by simp))).trans c2
    go_simp
  try simp only [Act.put, List.setIfInBounds_toArray, List.set_cons_zero, List.set_cons_succ]
  refine tk 2 7 (.pointer (some ⟨D.d, 0, none⟩)) BD.out ?y2 ?_
  case y2 =>
    intro w' hw'
    go_simp
  try simp only [Act.put, List.setIfInBounds_toArray, List.set_cons_zero, List.set_cons_succ]
  refine tk 3 8 (.pointer (some ⟨D.d, 1, none⟩)) BD.out ?y3 ?_
  case y3 =>
    intro w' hw'
    go_simp
  try simp only [Act.put, List.setIfInBounds_toArray, List.set_cons_zero, List.set_cons_succ]
  refine tk 4 9 (.int .i32 (g.ns.length : Int)) BD.out ?y4 ?_
  case y4 =>
    intro w' hw'
    have y0 := (World.cell?_of_block (a := ⟨D.d, 1, none⟩) (hw' _ (by simp))).trans d1
    go_simp
  try simp only [Act.put, List.setIfInBounds_toArray, List.set_cons_zero, List.set_cons_succ]
  refine tk 5 10 (.bool false) BD.out ?y5 ?_
  case y5 =>
    intro w' hw'
    go_simp
    omega
  try simp only [Act.put, List.setIfInBounds_toArray, List.set_cons_zero, List.set_cons_succ]
  refine tk 6 11 (.bool false) BD.out ?y6 ?_
  case y6 =>
    intro w' hw'
    go_simp
  try simp only [Act.put, List.setIfInBounds_toArray, List.set_cons_zero, List.set_cons_succ]
  refine sk 7 12 BD.out ?_
  try simp only [Act.put, List.setIfInBounds_toArray, List.set_cons_zero, List.set_cons_succ]
  refine sk 8 13 BD.out ?_
  try simp only [Act.put, List.setIfInBounds_toArray, List.set_cons_zero, List.set_cons_succ]
  refine sk 9 14 BD.out ?_
  try simp only [Act.put, List.setIfInBounds_toArray, List.set_cons_zero, List.set_cons_succ]
  refine sk 10 15 BD.out ?_
  try simp only [Act.put, List.setIfInBounds_toArray, List.set_cons_zero, List.set_cons_succ]
  refine sk 11 16 BD.out ?_
  try simp only [Act.put, List.setIfInBounds_toArray, List.set_cons_zero, List.set_cons_succ]
  refine sk 12 17 BD.out ?_
  try simp only [Act.put, List.setIfInBounds_toArray, List.set_cons_zero, List.set_cons_succ]
  refine sk 13 18 BD.out ?_
  try simp only [Act.put, List.setIfInBounds_toArray, List.set_cons_zero, List.set_cons_succ]
  refine sk 14 19 BD.out ?_
  try simp only [Act.put, List.setIfInBounds_toArray, List.set_cons_zero, List.set_cons_succ]
  refine sk 15 20 BD.out ?_
  try simp only [Act.put, List.setIfInBounds_toArray, List.set_cons_zero, List.set_cons_succ]
  refine sk 16 21 BD.out ?_
  try simp only [Act.put, List.setIfInBounds_toArray, List.set_cons_zero, List.set_cons_succ]
  refine tk 17 22 (.bool false) BD.out ?y17 ?_
  case y17 =>
    intro w' hw'
    go_simp
  try simp only [Act.put, List.setIfInBounds_toArray, List.set_cons_zero, List.set_cons_succ]
  refine dn ?_
  go_wp2
  go_end0
  exact HE.out
set_option maxHeartbeats 8000000 in
set_option maxRecDepth 100000 in
theorem need_had (h : NeedAt w0 w g D E m many) (hd : DraftAt w0 o g D) {n : Nat} (hm : m.length = D.ds.length) (hn : n < g.ns.length + D.ds.length) (hl : g.ns.length + D.ds.length ≤ 33554432) (hmany : many ≤ 33554432) (hhi : g.ns.length ≤ n) (hmk : m.getD (n - g.ns.length) true = true) : Calls Try.prog 73 #[.int .i32 (n : Int), .pointer (some ⟨E.b2, 0, none⟩), .pointer (some ⟨E.b6, 0, none⟩), .pointer (some ⟨E.b7, 0, none⟩)] w (NeedPost w0 g D E m many n) := by
  have c2 : w.cell? ⟨E.b2, 0, none⟩ = some (.pointer (some ⟨D.d, 0, none⟩)) := (cell_of h.c2).trans rfl
  have d1 : w.cell? ⟨D.d, 1, none⟩ = some (.int .i32 (g.ns.length : Int)) := (World.cell?_of_block (a := ⟨D.d, 1, none⟩) (grown_far h.gr h.hd)).trans hd.c1
  have HN := Lib.hid h
  obtain ⟨j, rfl⟩ : ∃ j, n = g.ns.length + j := ⟨n - g.ns.length, by omega⟩
  have hj : j < m.length := by omega
  have c6 : w.cell? ⟨E.b6, 0, none⟩ = some (.slice (some ⟨E.bn, 0, none⟩) m.length m.length) := (cell_of h.c6).trans rfl
  have cj : w.cell? ⟨E.bn, j, none⟩ = some (.bool true) := by rw [cell_of h.cn, boolC_at hj]; have hmk' := hmk; rw [Nat.add_sub_cancel_left] at hmk'; rw [hmk']
  have q1 : ((g.ns.length + j : Nat) : Int) ≥ (g.ns.length : Int) := by omega
  have q2 : ¬ ((g.ns.length + j : Nat) : Int) < (g.ns.length : Int) := by omega
  have q3 : (j : Int) < (m.length : Int) := by omega
  have QW := Lib.hid (show IntKind.i32.wrap (((g.ns.length + j : Nat) : Int) - (g.ns.length : Int)) = (j : Int) from (IntWalk.i32_in _ (by omega)).trans (by omega))
  have hsub : g.ns.length + j - g.ns.length = j := by omega
  have e0 : needN g.ns.length m many (g.ns.length + j) = (m, many) := if_neg (by rw [hmk]; simp)
  have HE := Lib.hid (show NeedPost w0 g D E m many (g.ns.length + j) (.returned (.tuple #[])) (World.drew w) from ⟨rfl, by rw [e0]; exact h.drew⟩)
  clear h hd hm hn hl hmany hmk hhi e0 hsub hj
  generalize g.ns.length + j = n at *
  obtain ⟨ml, hml⟩ : ∃ ml, m.length = ml := ⟨_, rfl⟩
  rw [hml] at c6 q3
  clear hml
  go_enter Try.func73, Try.ntmps73
  go_wp2
  refine wp_region_T (S := fun w' => ∀ k ∈ [E.b2, D.d, E.b6, E.bn], w'.heap[k]? = w.heap[k]?) (tail := fun _ => false) (by kernel_rfl) ?_
  change wpAnyT _ _ _ _ _ _ _ _ _ (World.drew w)
  have BD := Lib.hid (show ∀ k ∈ [E.b2, D.d, E.b6, E.bn], (World.drew w).heap[k]? = w.heap[k]? from fun _ _ => rfl)
  refine tk 0 5 (.int .i32 ((n : Nat) : Int)) BD.out ?y0 ?_
  case y0 =>
    intro w' hw'
    go_simp
  try simp only [Act.put, List.setIfInBounds_toArray, List.set_cons_zero, List.set_cons_succ]
  refine tk 1 6 (.pointer (some ⟨D.d, 0, none⟩)) BD.out ?y1 ?_
  case y1 =>
    intro w' hw'
    have y0 := (World.cell?_of_block (a := ⟨E.b2, 0, none⟩) (hw' _ (by simp))).trans c2
    go_simp
  try simp only [Act.put, List.setIfInBounds_toArray, List.set_cons_zero, List.set_cons_succ]
  refine tk 2 7 (.pointer (some ⟨D.d, 0, none⟩)) BD.out ?y2 ?_
  case y2 =>
    intro w' hw'
    go_simp
  try simp only [Act.put, List.setIfInBounds_toArray, List.set_cons_zero, List.set_cons_succ]
  refine tk 3 8 (.pointer (some ⟨D.d, 1, none⟩)) BD.out ?y3 ?_
  case y3 =>
    intro w' hw'
    go_simp
  try simp only [Act.put, List.setIfInBounds_toArray, List.set_cons_zero, List.set_cons_succ]
  refine tk 4 9 (.int .i32 (g.ns.length : Int)) BD.out ?y4 ?_
  case y4 =>
    intro w' hw'
    have y0 := (World.cell?_of_block (a := ⟨D.d, 1, none⟩) (hw' _ (by simp))).trans d1
    go_simp
  try simp only [Act.put, List.setIfInBounds_toArray, List.set_cons_zero, List.set_cons_succ]
  refine tk 5 10 (.bool true) BD.out ?y5 ?_
  case y5 =>
    intro w' hw'
    go_simp
  try simp only [Act.put, List.setIfInBounds_toArray, List.set_cons_zero, List.set_cons_succ]
  refine tk 6 11 (.bool true) BD.out ?y6 ?_
  case y6 =>
    intro w' hw'
    go_simp
  try simp only [Act.put, List.setIfInBounds_toArray, List.set_cons_zero, List.set_cons_succ]
  refine tk 7 12 (.slice (some ⟨E.bn, 0, none⟩) ml ml) BD.out ?y7 ?_
  case y7 =>
    intro w' hw'
    have y0 := (World.cell?_of_block (a := ⟨E.b6, 0, none⟩) (hw' _ (by simp))).trans c6
    go_simp
  try simp only [Act.put, List.setIfInBounds_toArray, List.set_cons_zero, List.set_cons_succ]
  refine tk 8 13 (.int .i32 ((n : Nat) : Int)) BD.out ?y8 ?_
  case y8 =>
    intro w' hw'
    go_simp
  try simp only [Act.put, List.setIfInBounds_toArray, List.set_cons_zero, List.set_cons_succ]
  refine tk 9 14 (.pointer (some ⟨D.d, 0, none⟩)) BD.out ?y9 ?_
  case y9 =>
    intro w' hw'
    have y0 := (World.cell?_of_block (a := ⟨E.b2, 0, none⟩) (hw' _ (by simp))).trans c2
    go_simp
  try simp only [Act.put, List.setIfInBounds_toArray, List.set_cons_zero, List.set_cons_succ]
  refine tk 10 15 (.pointer (some ⟨D.d, 0, none⟩)) BD.out ?y10 ?_
  case y10 =>
    intro w' hw'
    go_simp
  try simp only [Act.put, List.setIfInBounds_toArray, List.set_cons_zero, List.set_cons_succ]
  refine tk 11 16 (.pointer (some ⟨D.d, 1, none⟩)) BD.out ?y11 ?_
  case y11 =>
    intro w' hw'
    go_simp
  try simp only [Act.put, List.setIfInBounds_toArray, List.set_cons_zero, List.set_cons_succ]
  refine tk 12 17 (.int .i32 (g.ns.length : Int)) BD.out ?y12 ?_
  case y12 =>
    intro w' hw'
    have y0 := (World.cell?_of_block (a := ⟨D.d, 1, none⟩) (hw' _ (by simp))).trans d1
    go_simp
  try simp only [Act.put, List.setIfInBounds_toArray, List.set_cons_zero, List.set_cons_succ]
  refine tk 13 18 (.int .i32 (j : Int)) BD.out ?y13 ?_
  case y13 =>
    intro w' hw'
    go_simp
    exact QW.out
  try simp only [Act.put, List.setIfInBounds_toArray, List.set_cons_zero, List.set_cons_succ]
  refine tk 14 19 (.pointer (some ⟨E.bn, j, none⟩)) BD.out ?y14 ?_
  case y14 =>
    intro w' hw'
    go_simp
  try simp only [Act.put, List.setIfInBounds_toArray, List.set_cons_zero, List.set_cons_succ]
  refine tk 15 20 (.bool true) BD.out ?y15 ?_
  case y15 =>
    intro w' hw'
    have y0 := (World.cell?_of_block (a := ⟨E.bn, j, none⟩) (hw' _ (by simp))).trans cj
    go_simp
  try simp only [Act.put, List.setIfInBounds_toArray, List.set_cons_zero, List.set_cons_succ]
  refine tk 16 21 (.bool false) BD.out ?y16 ?_
  case y16 =>
    intro w' hw'
    have hnot : ∀ (x : Bool) (w : World), (Op.unary .not (.bool x)).run Try.prog w = .ok (.bool (!x)) w := fun _ _ => rfl
    go_simp
  try simp only [Act.put, List.setIfInBounds_toArray, List.set_cons_zero, List.set_cons_succ]
  refine tk 17 22 (.bool false) BD.out ?y17 ?_
  case y17 =>
    intro w' hw'
    go_simp
  try simp only [Act.put, List.setIfInBounds_toArray, List.set_cons_zero, List.set_cons_succ]
  refine dn ?_
  go_wp2
  go_end0
  exact HE.out
set_option maxHeartbeats 8000000 in
set_option maxRecDepth 100000 in
theorem need_new (h : NeedAt w0 w g D E m many) (hd : DraftAt w0 o g D) {n : Nat} (hm : m.length = D.ds.length) (hn : n < g.ns.length + D.ds.length) (hl : g.ns.length + D.ds.length ≤ 33554432) (hmany : many ≤ 33554432) (hhi : g.ns.length ≤ n) (hmk : m.getD (n - g.ns.length) true = false) : Calls Try.prog 73 #[.int .i32 (n : Int), .pointer (some ⟨E.b2, 0, none⟩), .pointer (some ⟨E.b6, 0, none⟩), .pointer (some ⟨E.b7, 0, none⟩)] w (NeedPost w0 g D E m many n) := by
  have c2 : w.cell? ⟨E.b2, 0, none⟩ = some (.pointer (some ⟨D.d, 0, none⟩)) := (cell_of h.c2).trans rfl
  have d1 : w.cell? ⟨D.d, 1, none⟩ = some (.int .i32 (g.ns.length : Int)) := (World.cell?_of_block (a := ⟨D.d, 1, none⟩) (grown_far h.gr h.hd)).trans hd.c1
  have HN := Lib.hid h
  obtain ⟨j, rfl⟩ : ∃ j, n = g.ns.length + j := ⟨n - g.ns.length, by omega⟩
  have hj : j < m.length := by omega
  have c6 : w.cell? ⟨E.b6, 0, none⟩ = some (.slice (some ⟨E.bn, 0, none⟩) m.length m.length) := (cell_of h.c6).trans rfl
  have cj : w.cell? ⟨E.bn, j, none⟩ = some (.bool false) := by rw [cell_of h.cn, boolC_at hj]; have hmk' := hmk; rw [Nat.add_sub_cancel_left] at hmk'; rw [hmk']
  have q1 : ((g.ns.length + j : Nat) : Int) ≥ (g.ns.length : Int) := by omega
  have q2 : ¬ ((g.ns.length + j : Nat) : Int) < (g.ns.length : Int) := by omega
  have q3 : (j : Int) < (m.length : Int) := by omega
  have QW := Lib.hid (show IntKind.i32.wrap (((g.ns.length + j : Nat) : Int) - (g.ns.length : Int)) = (j : Int) from (IntWalk.i32_in _ (by omega)).trans (by omega))
  have hsub : g.ns.length + j - g.ns.length = j := by omega
  have e0 : needN g.ns.length m many (g.ns.length + j) = (m.set j true, many + 1) := by unfold needN; rw [if_pos ⟨by omega, hmk⟩, hsub]
  have HE := Lib.hid (show NeedPost w0 g D E m many (g.ns.length + j) (.returned (.tuple #[])) _ from ⟨rfl, by rw [e0]; exact (h.drew.drew).mark j⟩)
  have HW := Lib.hid (show wrap64 ((many : Int) + 1) = ((many + 1 : Nat) : Int) by unfold wrap64; omega)
  obtain ⟨m1, hm1⟩ : ∃ m1, many + 1 = m1 := ⟨_, rfl⟩
  rw [hm1] at HW HE
  clear hm1
  have c7 : w.cell? ⟨E.b7, 0, none⟩ = some (.int .i64 (many : Int)) := (cell_of h.c7).trans rfl
  have f7 : w.frozen? ⟨E.b7, 0, none⟩ = false := frz_of h.c7
  have fn : w.frozen? ⟨E.bn, j, none⟩ = false := frz_of h.cn
  have HNE := Lib.hid h.ne.2.2.2.2.2
  clear h hd hm hn hl hmany hmk hhi e0 hsub hj
  generalize g.ns.length + j = n at *
  obtain ⟨ml, hml⟩ : ∃ ml, m.length = ml := ⟨_, rfl⟩
  rw [hml] at c6 q3
  clear hml
  go_enter Try.func73, Try.ntmps73
  go_wp2
  refine wp_region_T (S := fun w' => ∀ k ∈ [E.b2, D.d, E.b6, E.bn], w'.heap[k]? = w.heap[k]?) (tail := fun _ => false) (by kernel_rfl) ?_
  change wpAnyT _ _ _ _ _ _ _ _ _ (World.drew w)
  have BD := Lib.hid (show ∀ k ∈ [E.b2, D.d, E.b6, E.bn], (World.drew w).heap[k]? = w.heap[k]? from fun _ _ => rfl)
  refine tk 0 5 (.int .i32 ((n : Nat) : Int)) BD.out ?y0 ?_
  case y0 =>
    intro w' hw'
    go_simp
  try simp only [Act.put, List.setIfInBounds_toArray, List.set_cons_zero, List.set_cons_succ]
  refine tk 1 6 (.pointer (some ⟨D.d, 0, none⟩)) BD.out ?y1 ?_
  case y1 =>
    intro w' hw'
    have y0 := (World.cell?_of_block (a := ⟨E.b2, 0, none⟩) (hw' _ (by simp))).trans c2
    go_simp
  try simp only [Act.put, List.setIfInBounds_toArray, List.set_cons_zero, List.set_cons_succ]
  refine tk 2 7 (.pointer (some ⟨D.d, 0, none⟩)) BD.out ?y2 ?_
  case y2 =>
    intro w' hw'
    go_simp
  try simp only [Act.put, List.setIfInBounds_toArray, List.set_cons_zero, List.set_cons_succ]
  refine tk 3 8 (.pointer (some ⟨D.d, 1, none⟩)) BD.out ?y3 ?_
  case y3 =>
    intro w' hw'
    go_simp
  try simp only [Act.put, List.setIfInBounds_toArray, List.set_cons_zero, List.set_cons_succ]
  refine tk 4 9 (.int .i32 (g.ns.length : Int)) BD.out ?y4 ?_
  case y4 =>
    intro w' hw'
    have y0 := (World.cell?_of_block (a := ⟨D.d, 1, none⟩) (hw' _ (by simp))).trans d1
    go_simp
  try simp only [Act.put, List.setIfInBounds_toArray, List.set_cons_zero, List.set_cons_succ]
  refine tk 5 10 (.bool true) BD.out ?y5 ?_
  case y5 =>
    intro w' hw'
    go_simp
  try simp only [Act.put, List.setIfInBounds_toArray, List.set_cons_zero, List.set_cons_succ]
  refine tk 6 11 (.bool true) BD.out ?y6 ?_
  case y6 =>
    intro w' hw'
    go_simp
  try simp only [Act.put, List.setIfInBounds_toArray, List.set_cons_zero, List.set_cons_succ]
  refine tk 7 12 (.slice (some ⟨E.bn, 0, none⟩) ml ml) BD.out ?y7 ?_
  case y7 =>
    intro w' hw'
    have y0 := (World.cell?_of_block (a := ⟨E.b6, 0, none⟩) (hw' _ (by simp))).trans c6
    go_simp
  try simp only [Act.put, List.setIfInBounds_toArray, List.set_cons_zero, List.set_cons_succ]
  refine tk 8 13 (.int .i32 ((n : Nat) : Int)) BD.out ?y8 ?_
  case y8 =>
    intro w' hw'
    go_simp
  try simp only [Act.put, List.setIfInBounds_toArray, List.set_cons_zero, List.set_cons_succ]
  refine tk 9 14 (.pointer (some ⟨D.d, 0, none⟩)) BD.out ?y9 ?_
  case y9 =>
    intro w' hw'
    have y0 := (World.cell?_of_block (a := ⟨E.b2, 0, none⟩) (hw' _ (by simp))).trans c2
    go_simp
  try simp only [Act.put, List.setIfInBounds_toArray, List.set_cons_zero, List.set_cons_succ]
  refine tk 10 15 (.pointer (some ⟨D.d, 0, none⟩)) BD.out ?y10 ?_
  case y10 =>
    intro w' hw'
    go_simp
  try simp only [Act.put, List.setIfInBounds_toArray, List.set_cons_zero, List.set_cons_succ]
  refine tk 11 16 (.pointer (some ⟨D.d, 1, none⟩)) BD.out ?y11 ?_
  case y11 =>
    intro w' hw'
    go_simp
  try simp only [Act.put, List.setIfInBounds_toArray, List.set_cons_zero, List.set_cons_succ]
  refine tk 12 17 (.int .i32 (g.ns.length : Int)) BD.out ?y12 ?_
  case y12 =>
    intro w' hw'
    have y0 := (World.cell?_of_block (a := ⟨D.d, 1, none⟩) (hw' _ (by simp))).trans d1
    go_simp
  try simp only [Act.put, List.setIfInBounds_toArray, List.set_cons_zero, List.set_cons_succ]
  refine tk 13 18 (.int .i32 (j : Int)) BD.out ?y13 ?_
  case y13 =>
    intro w' hw'
    go_simp
    exact QW.out
  try simp only [Act.put, List.setIfInBounds_toArray, List.set_cons_zero, List.set_cons_succ]
  refine tk 14 19 (.pointer (some ⟨E.bn, j, none⟩)) BD.out ?y14 ?_
  case y14 =>
    intro w' hw'
    go_simp
  try simp only [Act.put, List.setIfInBounds_toArray, List.set_cons_zero, List.set_cons_succ]
  refine tk 15 20 (.bool false) BD.out ?y15 ?_
  case y15 =>
    intro w' hw'
    have y0 := (World.cell?_of_block (a := ⟨E.bn, j, none⟩) (hw' _ (by simp))).trans cj
    go_simp
  try simp only [Act.put, List.setIfInBounds_toArray, List.set_cons_zero, List.set_cons_succ]
  refine tk 16 21 (.bool true) BD.out ?y16 ?_
  case y16 =>
    intro w' hw'
    have hnot : ∀ (x : Bool) (w : World), (Op.unary .not (.bool x)).run Try.prog w = .ok (.bool (!x)) w := fun _ _ => rfl
    go_simp
  try simp only [Act.put, List.setIfInBounds_toArray, List.set_cons_zero, List.set_cons_succ]
  refine tk 17 22 (.bool true) BD.out ?y17 ?_
  case y17 =>
    intro w' hw'
    go_simp
  try simp only [Act.put, List.setIfInBounds_toArray, List.set_cons_zero, List.set_cons_succ]
  refine dn ?_
  clear BD
  obtain ⟨wa, hwa⟩ : ∃ wa, World.drew w = wa := ⟨_, rfl⟩
  replace c2 := (show (World.drew w).cell? _ = _ from c2)
  replace d1 := (show (World.drew w).cell? _ = _ from d1)
  replace c6 := (show (World.drew w).cell? _ = _ from c6)
  replace c7 := (show (World.drew w).cell? _ = _ from c7)
  replace cj := (show (World.drew w).cell? _ = _ from cj)
  replace f7 := (show (World.drew w).frozen? _ = _ from f7)
  replace fn := (show (World.drew w).frozen? _ = _ from fn)
  rw [hwa] at HE c2 d1 c6 c7 cj f7 fn ⊢
  clear hwa
  go_wp2
  refine wp_region_T (S := fun w' => ∀ k ∈ [E.b2, D.d, E.b6, E.bn], w'.heap[k]? = wa.heap[k]?) (tail := fun j => decide (8 ≤ j)) (by kernel_rfl) ?_
  change wpAnyT _ _ _ _ _ _ _ _ _ (World.drew wa)
  have BD := Lib.hid (show ∀ k ∈ [E.b2, D.d, E.b6, E.bn], (World.drew wa).heap[k]? = wa.heap[k]? from fun _ _ => rfl)
  refine tk 0 23 (.slice (some ⟨E.bn, 0, none⟩) ml ml) BD.out ?y0 ?_
  case y0 =>
    intro w' hw'
    have y0 := (World.cell?_of_block (a := ⟨E.b6, 0, none⟩) (hw' _ (by simp))).trans c6
    go_simp
  try simp only [Act.put, List.setIfInBounds_toArray, List.set_cons_zero, List.set_cons_succ]
  refine tk 1 24 (.int .i32 ((n : Nat) : Int)) BD.out ?y1 ?_
  case y1 =>
    intro w' hw'
    go_simp
  try simp only [Act.put, List.setIfInBounds_toArray, List.set_cons_zero, List.set_cons_succ]
  refine tk 2 25 (.pointer (some ⟨D.d, 0, none⟩)) BD.out ?y2 ?_
  case y2 =>
    intro w' hw'
    have y0 := (World.cell?_of_block (a := ⟨E.b2, 0, none⟩) (hw' _ (by simp))).trans c2
    go_simp
  try simp only [Act.put, List.setIfInBounds_toArray, List.set_cons_zero, List.set_cons_succ]
  refine tk 3 26 (.pointer (some ⟨D.d, 0, none⟩)) BD.out ?y3 ?_
  case y3 =>
    intro w' hw'
    go_simp
  try simp only [Act.put, List.setIfInBounds_toArray, List.set_cons_zero, List.set_cons_succ]
  refine tk 4 27 (.pointer (some ⟨D.d, 1, none⟩)) BD.out ?y4 ?_
  case y4 =>
    intro w' hw'
    go_simp
  try simp only [Act.put, List.setIfInBounds_toArray, List.set_cons_zero, List.set_cons_succ]
  refine tk 5 28 (.int .i32 (g.ns.length : Int)) BD.out ?y5 ?_
  case y5 =>
    intro w' hw'
    have y0 := (World.cell?_of_block (a := ⟨D.d, 1, none⟩) (hw' _ (by simp))).trans d1
    go_simp
  try simp only [Act.put, List.setIfInBounds_toArray, List.set_cons_zero, List.set_cons_succ]
  refine tk 6 29 (.int .i32 (j : Int)) BD.out ?y6 ?_
  case y6 =>
    intro w' hw'
    go_simp
    exact QW.out
  try simp only [Act.put, List.setIfInBounds_toArray, List.set_cons_zero, List.set_cons_succ]
  refine tk 7 30 (.pointer (some ⟨E.bn, j, none⟩)) BD.out ?y7 ?_
  case y7 =>
    intro w' hw'
    go_simp
  try simp only [Act.put, List.setIfInBounds_toArray, List.set_cons_zero, List.set_cons_succ]
  have c7x : (World.drew wa).cell? ⟨E.b7, 0, none⟩ = some (.int .i64 (many : Int)) := c7
  have f7x : (World.drew wa).frozen? ⟨E.b7, 0, none⟩ = false := f7
  have cjx : (World.drew wa).cell? ⟨E.bn, j, none⟩ = some (.bool false) := cj
  have fnx : (World.drew wa).frozen? ⟨E.bn, j, none⟩ = false := fn
  clear c7 f7 cj fn
  generalize World.drew wa = wb at *
  refine on 8 (fun K hK => ?_)
  go_simp
  refine hK.out _ _ (fun h => absurd h (by decide)) ?_
  clear hK K
  try simp only [Act.put, List.setIfInBounds_toArray, List.set_cons_zero, List.set_cons_succ]
  refine dn ?_
  have c7' : (wb.setCell ⟨E.bn, j, none⟩ (.bool true)).cell? ⟨E.b7, 0, none⟩ = some (.int .i64 (many : Int)) := (World.cell?_setCell_other _ _ _ _ (fun e => HNE.out.symm (congrArg Addr.block e))).trans c7x
  have qw := HW.out
  go_wp2
  go_end0
  exact HE.out
theorem need_any (h : NeedAt w0 w g D E m many) (hd : DraftAt w0 o g D) {n : Nat} (hm : m.length = D.ds.length) (hn : n < g.ns.length + D.ds.length) (hl : g.ns.length + D.ds.length ≤ 33554432) (hmany : many ≤ 33554432) : Calls Try.prog 73 #[.int .i32 (n : Int), .pointer (some ⟨E.b2, 0, none⟩), .pointer (some ⟨E.b6, 0, none⟩), .pointer (some ⟨E.b7, 0, none⟩)] w (NeedPost w0 g D E m many n) := by
  by_cases hlo : n < g.ns.length
  · exact need_low h hd hm hn hl hmany hlo
  · cases hmk : m.getD (n - g.ns.length) true with
    | true => exact need_had h hd hm hn hl hmany (by omega) hmk
    | false => exact need_new h hd hm hn hl hmany (by omega) hmk
end

end Go.Proofs.Ytailpphafoamfaa
namespace Go.Proofs.Ytailpphafoamfaa
open Go Go.RowKit Go.Maps


section
variable {w0 w w' : World} {o : Nat → Nat} {g : SG} {D : DG} {E : NEnv} {m : List Bool} {many f k : Nat}
theorem info4 : (Try.prog.info? 4).map (fun i => (i.zero, i.size, i.bytes)) = some (some (.bool false), 1, 1) := by kernel_rfl
theorem mk_bools (n : Nat) (hn : n ≤ 33554432) (w : World) : (Instr.makeSlice 32 (.int .i64 (n : Int)) (.int .i64 (n : Int))).run Try.prog w = .ok (.slice (some ⟨w.heap.size, 0, none⟩) n n) (w.alloc (.cells (boolC (List.replicate n false)) 4)) := by
  obtain ⟨i0, hi, hz0, hz1, hz2⟩ := info_parts info4
  have hr := run_make (P := Try.prog) w 32 4 i0 (.bool false) Try.underlying32 hi hz0 .i64 .i64 n n (by omega) (Int.le_refl _) (by rw [hz2]; omega) (by omega)
  simp only [Int.toNat_natCast] at hr
  rw [hr, hz1]
  have e : madeCells (Value.bool false).cells (n * 1) = boolC (List.replicate n false) := by
    apply Array.toList_inj.1
    rw [Nat.mul_one]
    exact (toList_madeCells_one (.bool false) n).trans (by simp [boolC])
  rw [e]
def needW0 (w : World) (d n : Nat) : World := (((w.alloc (.cells #[.pointer (some ⟨d, 0, none⟩)] 94)).alloc (.cells (boolC (List.replicate n false)) 4)).alloc (.cells #[.slice (some ⟨w.heap.size + 1, 0, none⟩) n n] 32)).alloc (.cells #[.int .i64 0] 3)
theorem needW0_at (hs : DS w o g D) : NeedAt w (needW0 w D.d D.ds.length) g D ⟨D.d, w.heap.size, w.heap.size + 1 + 1, w.heap.size + 1 + 1 + 1, w.heap.size + 1⟩ (List.replicate D.ds.length false) 0 := by
  have s1 : ∀ (w : World) (x : Obj), (w.alloc x).heap = w.heap.push x := fun _ _ => rfl
  have hg : w.grownBy (needW0 w D.d D.ds.length) none := grown_trans (grown_trans (grown_trans (grown_alloc _ _) (grown_alloc _ _)) (grown_alloc _ _)) (grown_alloc _ _)
  refine ⟨hg, hs.dr.ltd, ?_, ?_, ?_, ?_, ⟨by simp, by simp; omega, by simp; omega, by simp⟩, ⟨by simp only [ne_eq]; omega, by simp only [ne_eq]; omega, by simp, by simp, by simp only [ne_eq]; omega, by simp only [ne_eq]; omega⟩⟩
  · unfold needW0
    simp only [s1, Array.size_push, Array.getElem?_push]
    rw [if_neg (by omega), if_neg (by omega), if_neg (by omega), if_pos trivial]
  · unfold needW0
    simp only [s1, Array.size_push, Array.getElem?_push, List.length_replicate]
    rw [if_neg (by omega), if_pos trivial]
  · unfold needW0
    simp only [s1, Array.size_push, Array.getElem?_push]
    rw [if_pos trivial]
    simp
  · unfold needW0
    simp only [s1, Array.size_push, Array.getElem?_push]
    rw [if_neg (by omega), if_neg (by omega), if_pos trivial]
def slotI : Nat → Value
  | 0 => .int .i64 (-1)
  | j + 1 => .int .i64 (j : Int)
structure LoopIn (w wr : World) (g : SG) (D : DG) (E : NEnv) (f k : Nat) (m : List Bool) (many : Nat) : Prop where
  at_ : NeedAt w wr g D E m many
  inv : NInv g.V g.ns.length f D.ds (2 ^ (g.V - ask (lst g D) f)) m many k
  le : k ≤ D.ds.length
theorem LoopIn.cap (h : LoopIn w w' g D E f k m many) (hd : DS w o g D) : many ≤ 16777216 := by
  have := h.inv.many
  have h2 := wsum_le m m.length
  have h3 := h.inv.len
  have h4 := hd.dr.most
  omega
def NeededPost (w : World) (g : SG) (D : DG) (f : Nat) (e : Ending) (w' : World) : Prop :=
  ∃ (bn : Nat) (m : List Bool) (many : Nat), e = .returned (.tuple #[.slice (some ⟨bn, 0, none⟩) m.length m.length, .int .i64 (many : Int)]) ∧ w.grownBy w' none ∧ w'.heap[bn]? = some (.cells (boolC m) 4 (0, 0)) ∧ w.heap.size ≤ bn ∧ NInv g.V g.ns.length f D.ds (2 ^ (g.V - ask (lst g D) f)) m many 0
set_option maxHeartbeats 8000000 in
set_option maxRecDepth 100000 in
theorem needed_any (hs : DS w o g D) {f : Nat} (hf : f < (lst g D).length) : Calls Try.prog 60 #[.pointer (some ⟨D.d, 0, none⟩), .int .i32 (f : Int)] w (NeededPost w g D f) := by
  have hmk := fun w => mk_bools D.ds.length (by have := hs.dr.most; omega) w
  have hmf : ∀ (fn : Fn) (first cap : Array Value) (w : World), (Instr.makeFunc fn first cap).run Try.prog w = .ok (.func fn first cap) w := fun _ _ _ _ => rfl
  have c2 := hs.dr.c2
  obtain ⟨A, c, hv0⟩ : ∃ A c, D.val = .slice A D.ds.length c := by
    obtain ⟨-, h1⟩ := hs.dr.row
    rcases h1 with ⟨h1, h3⟩ | ⟨gx, cap, cur, h1, -⟩
    · exact ⟨none, 0, by rw [h1, h3]⟩
    · exact ⟨_, _, h1⟩
  rw [hv0] at c2
  have ld := hs.dr.ltd
  have HC2 := Lib.hid c2
  have HS := Lib.hid hs
  have HF := Lib.hid hf
  have hmost := hs.dr.most
  have qn : (D.ds.length : Int) ≤ 16777216 := by omega
  clear hs hf hmost
  go_enter Try.func60, Try.ntmps60
  go_wp2_with fail
  change Calls _ _ _ (needW0 w D.d D.ds.length) _
  refine (need_any (needW0_at HS.out) HS.out.dr (by simp) (by have := HF.out; unfold lst at this; simpa using this) (by have := HS.out.len; unfold lst at this; simpa using this) (by decide)).mono ?_
  rintro e w1 ⟨rfl, h1⟩
  have HI := Lib.hid (show LoopIn w w1 g D ⟨D.d, w.heap.size, w.heap.size + 1 + 1, w.heap.size + 1 + 1 + 1, w.heap.size + 1⟩ f D.ds.length _ _ from ⟨h1, NInv.start HS.out.wf HF.out, Nat.le_refl _⟩)
  obtain ⟨B, hB⟩ : ∃ B, w.heap.size = B := ⟨_, rfl⟩
  rw [hB] at HI ⊢
  have HBS := Lib.hid hB
  obtain ⟨b6, hb6⟩ : ∃ b6, B + 1 + 1 = b6 := ⟨_, rfl⟩
  obtain ⟨b7, hb7⟩ : ∃ b7, B + 1 + 1 + 1 = b7 := ⟨_, rfl⟩
  obtain ⟨bn, hbn⟩ : ∃ bn, B + 1 = bn := ⟨_, rfl⟩
  obtain ⟨E, hE⟩ : ∃ E : NEnv, (⟨D.d, B, b6, b7, bn⟩ : NEnv) = E := ⟨_, rfl⟩
  have HEE := Lib.hid (show E.b2 = B ∧ E.b6 = b6 ∧ E.b7 = b7 ∧ E.bn = bn from by rw [← hE]; exact ⟨rfl, rfl, rfl, rfl⟩)
  rw [hb7, hb6, hbn, hE] at HI
  rw [hb7, hb6, hbn]
  obtain ⟨m1, hm1⟩ : ∃ m1, (needN g.ns.length (List.replicate D.ds.length false) 0 f).1 = m1 := ⟨_, rfl⟩
  obtain ⟨k1, hk1⟩ : ∃ k1, (needN g.ns.length (List.replicate D.ds.length false) 0 f).2 = k1 := ⟨_, rfl⟩
  rw [hm1, hk1] at HI
  clear hm1 hk1 h1 hE hb6 hb7 hbn hB c2 ld hmk
  have c2 : w1.cell? ⟨B, 0, none⟩ = some (.pointer (some ⟨D.d, 0, none⟩)) := by
    have := HI.out.at_.c2
    rw [HEE.out.1] at this
    exact (cell_of this).trans rfl
  have d2 : w1.cell? ⟨D.d, 2, none⟩ = some (.slice A D.ds.length c) := (World.cell?_of_block (a := ⟨D.d, 2, none⟩) (grown_far HI.out.at_.gr HI.out.at_.hd)).trans HC2.out
  go_wp2
  have HSV := Lib.hid hv0
  clear hv0 c2 d2
  go_loopw [9] (fun v wr => ∃ (k : Nat) (m : List Bool) (many : Nat), v = .int .i64 ((k : Int) - 1) ∧ Hid (LoopIn w wr g D E f k m many)) (fun v _ => (intOf v + 1).toNat)
  case atStart => exact ⟨D.ds.length, m1, k1, rfl, HI⟩
  case round =>
    obtain ⟨k, m, many, hvk, hI⟩ := hrel
    have HIR := hI
    have lc := HIR.out.at_
    have c2 : wr.cell? ⟨B, 0, none⟩ = some (.pointer (some ⟨D.d, 0, none⟩)) := by
      have := lc.c2
      rw [HEE.out.1] at this
      exact (cell_of this).trans rfl
    have d2 : wr.cell? ⟨D.d, 2, none⟩ = some (.slice A D.ds.length c) := (World.cell?_of_block (a := ⟨D.d, 2, none⟩) (grown_far lc.gr lc.hd)).trans HC2.out
    have c6 : wr.cell? ⟨b6, 0, none⟩ = some (.slice (some ⟨bn, 0, none⟩) D.ds.length D.ds.length) := by
      have := lc.c6
      rw [HEE.out.2.1, HEE.out.2.2.2, HIR.out.inv.len] at this
      exact (cell_of this).trans rfl
    have c7 : wr.cell? ⟨b7, 0, none⟩ = some (.int .i64 (many : Int)) := by
      have := lc.c7
      rw [HEE.out.2.2.1] at this
      exact (cell_of this).trans rfl
    clear lc hI
    rcases k with _ | j
    · have e : ((0 : Nat) : Int) - 1 = -1 := rfl
      rw [e] at hvk
      subst hvk
      have HR := Lib.hid (show NeededPost w g D f (.returned (.tuple #[.slice (some ⟨bn, 0, none⟩) D.ds.length D.ds.length, .int .i64 (many : Int)])) (World.drew wr) from ⟨bn, m, many, by rw [HIR.out.inv.len], grown_trans HIR.out.at_.gr (grown_drewN wr 1), by have := HIR.out.at_.cn; rw [HEE.out.2.2.2] at this; exact this, by have := HIR.out.at_.ge.2.2.2; rw [HEE.out.2.2.2] at this; exact this, HIR.out.inv⟩)
      clear c2 d2
      go_wp2
      refine wp_region_T (S := fun w' => ∀ k ∈ [b6, b7], w'.heap[k]? = wr.heap[k]?) (tail := fun _ => false) (by kernel_rfl) ?_
      change wpAnyT _ _ _ _ _ _ _ _ _ (World.drew wr)
      have BD := Lib.hid (show ∀ k ∈ [b6, b7], (World.drew wr).heap[k]? = wr.heap[k]? from fun _ _ => rfl)
      refine tk 0 54 (.slice (some ⟨bn, 0, none⟩) D.ds.length D.ds.length) BD.out ?y0 ?_
      case y0 =>
        intro w' hw'
        have y0 := (World.cell?_of_block (a := ⟨b6, 0, none⟩) (hw' _ (by simp))).trans c6
        go_simp
      try simp only [Act.put, List.setIfInBounds_toArray, List.set_cons_zero, List.set_cons_succ]
      refine tk 1 55 (.int .i64 ((many : Nat) : Int)) BD.out ?y1 ?_
      case y1 =>
        intro w' hw'
        have y0 := (World.cell?_of_block (a := ⟨b7, 0, none⟩) (hw' _ (by simp))).trans c7
        go_simp
      try simp only [Act.put, List.setIfInBounds_toArray, List.set_cons_zero, List.set_cons_succ]
      refine tk 2 4 (.slice (some ⟨bn, 0, none⟩) D.ds.length D.ds.length) BD.out ?y2 ?_
      case y2 =>
        intro w' hw'
        go_simp
      try simp only [Act.put, List.setIfInBounds_toArray, List.set_cons_zero, List.set_cons_succ]
      refine tk 3 5 (.int .i64 ((many : Nat) : Int)) BD.out ?y3 ?_
      case y3 =>
        intro w' hw'
        go_simp
      try simp only [Act.put, List.setIfInBounds_toArray, List.set_cons_zero, List.set_cons_succ]
      refine dn ?_
      go_wp2
      go_ret2
      exact HR.out
    · have e : ((j + 1 : Nat) : Int) - 1 = (j : Int) := by omega
      rw [e] at hvk
      subst hvk
      have hjl : j < D.ds.length := HIR.out.le
      obtain ⟨n, hn⟩ := get_lt hjl
      obtain ⟨gx, cc, hvv, k0, k1', k2, hx⟩ := row_node HS.out.dr.row hn
      have hAc : A = some ⟨gx, 0, none⟩ ∧ c = cc := by
        have := HSV.out.symm.trans hvv
        simp at this
        exact this
      obtain ⟨rfl, rfl⟩ := hAc
      have r1 := (World.cell?_of_block (a := ⟨gx, j * 3 + 1, none⟩) (grown_far HIR.out.at_.gr hx)).trans k1'
      have HK2 := Lib.hid k2
      have HX := Lib.hid hx
      have HNN := Lib.hid hn
      have q1 : (j : Int) < (D.ds.length : Int) := by omega
      have HQ := Lib.hid (show (j : Int) ≤ 16777216 from by omega)
      have cj : ∀ b, m.getD j true = b → wr.cell? ⟨bn, j, none⟩ = some (.bool b) := fun b hb => by
        have := HIR.out.at_.cn
        rw [HEE.out.2.2.2] at this
        rw [cell_of this, boolC_at (by rw [HIR.out.inv.len]; exact hjl), hb]
      have hgd : m.getD j false = m.getD j true := by
        have : j < m.length := by rw [HIR.out.inv.len]; exact hjl
        simp [List.getD_eq_getElem?_getD, this]
      cases hmb : m.getD j true with
      | false =>
        have cjb := cj false hmb
        have HI2 := Lib.hid (show LoopIn w wr g D E f j m many from ⟨HIR.out.at_, HIR.out.inv.skip (hgd.trans hmb), by omega⟩)
        clear hvv k0 k1' k2 hx hn hjl cj hmb hgd r1 d2 c2 c7 e
        have qj := HQ.out
        go_wp2
        go_roundw
        case rel => exact ⟨j, m, many, rfl, HI2⟩
        case measure => simp [intOf]
      | true =>
        have cjb := cj true hmb
        have HMB := Lib.hid (hgd.trans hmb)
        have HLL := Lib.hid (show n.a < g.ns.length + D.ds.length ∧ n.b < g.ns.length + D.ds.length ∧ g.ns.length + D.ds.length ≤ 33554432 from by
          have hn' : (lst g D)[g.ns.length + j]? = some n := by unfold lst; rw [List.getElem?_append_right (by omega), Nat.add_sub_cancel_left]; exact hn
          have h2 := HS.out.st.wf.two
          have h3 := HS.out.wf.nd _ n (by omega) hn'
          have h4 := HS.out.len
          unfold lst at h4
          rw [List.length_append] at h4
          omega)
        have HNA := Lib.hid (need_any (n := n.a) HIR.out.at_ HS.out.dr HIR.out.inv.len HLL.out.1 HLL.out.2.2 (Nat.le_trans (HIR.out.cap HS.out) (by decide)))
        rw [HEE.out.1, HEE.out.2.1, HEE.out.2.2.1] at HNA
        clear hvv k0 k1' k2 hx hn hjl cj hmb hgd c7 e
        go_wp2_with fail
        refine (HNA.out).mono ?_
        rintro ee w5 ⟨rfl, h5⟩
        have H5 := Lib.hid h5
        have c2' : w5.cell? ⟨B, 0, none⟩ = some (.pointer (some ⟨D.d, 0, none⟩)) := by
          have := h5.c2
          rw [HEE.out.1] at this
          exact (cell_of this).trans rfl
        have d2' : w5.cell? ⟨D.d, 2, none⟩ = some (.slice (some ⟨gx, 0, none⟩) D.ds.length c) := (World.cell?_of_block (a := ⟨D.d, 2, none⟩) (grown_far h5.gr h5.hd)).trans HC2.out
        have r2 := (World.cell?_of_block (a := ⟨gx, j * 3 + 2, none⟩) (grown_far h5.gr HX.out)).trans HK2.out
        have HNB := Lib.hid (need_any (n := n.b) h5 HS.out.dr (by rw [needN_len]; exact HIR.out.inv.len) HLL.out.2.1 HLL.out.2.2 (by
          have h1 := needN_many (n := n.a) (first := g.ns.length) (many := many) (m := m) (by rw [HIR.out.inv.len]; exact HLL.out.1) HIR.out.inv.many
          have h2 := wsum_le (needN g.ns.length m many n.a).1 m.length
          have h3 := HIR.out.inv.len
          have h4 := HS.out.dr.most
          omega))
        rw [HEE.out.1, HEE.out.2.1, HEE.out.2.2.1] at HNB
        clear h5 c2 d2 c6 r1 cjb HNA
        go_wp2_with fail
        refine (HNB.out).mono ?_
        rintro ee w6 ⟨rfl, h6⟩
        have HI2 := Lib.hid (show LoopIn w w6 g D E f j _ _ from ⟨h6, HIR.out.inv.step HS.out.st.wf.two HS.out.wf HNN.out HMB.out, by have := HIR.out.le; omega⟩)
        clear h6 c2' d2' r2 HNB
        have qj := HQ.out
        go_wp2
        go_roundw
        case rel => exact ⟨j, _, _, rfl, HI2⟩
        case measure => simp [intOf]
end

end Go.Proofs.Ytailpphafoamfaa
namespace Go.Proofs.Ytailpphafoamfaa

def numN (first : Nat) (kept : List Nat) (n : Nat) : Nat := if n < first then n else kept.getD (n - first) 0
structure KInv (V : Nat) (ns ds : List Nd) (m : List Bool) (i : Nat) (nsI : List Nd) (kept : List Nat) : Prop where
  wf : WF V nsI
  pre : ∃ K, nsI = ns ++ K
  kl : kept.length = ds.length
  ok : ∀ j n, j < i → ds[j]? = some n → m.getD j false = true → ns.length ≤ kept.getD j 0 ∧ kept.getD j 0 < nsI.length ∧ nsI[kept.getD j 0]? = some ⟨n.v, numN ns.length kept n.a, numN ns.length kept n.b⟩ ∧ ∀ w, ev nsI (kept.getD j 0) w = ev (ns ++ ds) (ns.length + j) w
  inj : ∀ j k, j < i → k < i → m.getD j false = true → m.getD k false = true → kept.getD j 0 = kept.getD k 0 → j = k
  sur : ∀ x, ns.length ≤ x → x < nsI.length → ∃ j, j < i ∧ m.getD j false = true ∧ kept.getD j 0 = x
  cnt : nsI.length = ns.length + wsum (fun _ => 1) m i
section
variable {V : Nat} {ns ds : List Nd} {m : List Bool} {i : Nat} {nsI : List Nd} {kept : List Nat}
theorem KInv.start (h : WF V ns) : KInv V ns ds m 0 ns (List.replicate ds.length 0) where
  wf := h
  pre := ⟨[], by simp⟩
  kl := by simp
  ok := fun j n hj => by omega
  inj := fun j k hj => by omega
  sur := fun x h1 h2 => by omega
  cnt := rfl
theorem KInv.skip (h : KInv V ns ds m i nsI kept) (hm : m.getD i false = false) : KInv V ns ds m (i + 1) nsI kept where
  wf := h.wf
  pre := h.pre
  kl := h.kl
  ok := fun j n hj hn hb => by
    by_cases e : j = i
    · subst e; rw [hm] at hb; cases hb
    · exact h.ok j n (by omega) hn hb
  inj := fun j k hj hk hb hb' => by
    have h1 : j ≠ i := fun e => by subst e; rw [hm] at hb; cases hb
    have h2 : k ≠ i := fun e => by subst e; rw [hm] at hb'; cases hb'
    exact h.inj j k (by omega) (by omega) hb hb'
  sur := fun x h1 h2 => by
    obtain ⟨j, hj, r⟩ := h.sur x h1 h2
    exact ⟨j, by omega, r⟩
  cnt := by
    unfold wsum
    rw [hm]
    exact h.cnt
theorem pre_le (h : ∃ K, nsI = ns ++ K) : ns.length ≤ nsI.length := by
  obtain ⟨K, rfl⟩ := h
  simp
/-- What a child that is there, or kept, has become. -/
structure ChildOk (ns ds nsI : List Nd) (kept : List Nat) (c : Nat) : Prop where
  lt : numN ns.length kept c < nsI.length
  ask : ask nsI (numN ns.length kept c) = ask (ns ++ ds) c
  ev : ∀ w, ev nsI (numN ns.length kept c) w = ev (ns ++ ds) c w
theorem KInv.child (hw : WF V (ns ++ ds)) (hns : WF V ns) (h : KInv V ns ds m i nsI kept) {c : Nat} (hc : c < ns.length + i) (hil : i ≤ ds.length) (hm : ns.length ≤ c → m.getD (c - ns.length) false = true) : ChildOk ns ds nsI kept c := by
  obtain ⟨K, hK⟩ := h.pre
  by_cases hlo : c < ns.length
  · have e : numN ns.length kept c = c := if_pos hlo
    refine ⟨?_, ?_, fun w => ?_⟩
    · rw [e, hK]; simp; omega
    · rw [e, hK, ask_app hlo, ask_app hlo]
    · have := h.wf
      rw [hK] at this
      rw [e, hK, ev_app hns this w c hlo, ev_app hns hw w c hlo]
  · have e : numN ns.length kept c = kept.getD (c - ns.length) 0 := if_neg hlo
    obtain ⟨n, hn⟩ := get_lt (L := ds) (i := c - ns.length) (by omega)
    obtain ⟨h1, h2, h3, h4⟩ := h.ok _ n (by omega) hn (hm (by omega))
    refine ⟨by rw [e]; exact h2, ?_, fun w => ?_⟩
    · rw [e, ask_at h3]
      have : (ns ++ ds)[c]? = some n := by rw [List.getElem?_append_right (by omega)]; exact hn
      rw [ask_at this]
    · rw [e, h4]
      congr 1
      omega
theorem KInv.num_inj (h : KInv V ns ds m i nsI kept) {a b : Nat} (ha : a < ns.length + i) (hb : b < ns.length + i) (hil : i ≤ ds.length) (ma : ns.length ≤ a → m.getD (a - ns.length) false = true) (mb : ns.length ≤ b → m.getD (b - ns.length) false = true) (he : numN ns.length kept a = numN ns.length kept b) : a = b := by
  have lo : ∀ c, c < ns.length + i → ns.length ≤ c → (ns.length ≤ c → m.getD (c - ns.length) false = true) → ns.length ≤ kept.getD (c - ns.length) 0 := fun c hc hle hm => by
    obtain ⟨n, hn⟩ := get_lt (L := ds) (i := c - ns.length) (by omega)
    exact (h.ok _ n (by omega) hn (hm hle)).1
  unfold numN at he
  by_cases h1 : a < ns.length
  · rw [if_pos h1] at he
    by_cases h2 : b < ns.length
    · rw [if_pos h2] at he; exact he
    · rw [if_neg h2] at he
      have := lo b hb (by omega) mb
      omega
  · rw [if_neg h1] at he
    by_cases h2 : b < ns.length
    · rw [if_pos h2] at he
      have := lo a ha (by omega) ma
      omega
    · rw [if_neg h2] at he
      have := h.inj _ _ (by omega) (by omega) (ma (by omega)) (mb (by omega)) he
      omega
theorem getD_set_ne {kept : List Nat} {i j x : Nat} (h : j ≠ i) : (kept.set i x).getD j 0 = kept.getD j 0 := by
  rw [List.getD_eq_getElem?_getD, List.getElem?_set_ne (Ne.symm h), ← List.getD_eq_getElem?_getD]
theorem getD_set_eq {kept : List Nat} {i x : Nat} (h : i < kept.length) : (kept.set i x).getD i 0 = x := by
  simp [List.getD_eq_getElem?_getD, h]
theorem numN_set {first : Nat} {i x c : Nat} (h : c < first + i) : numN first (kept.set i x) c = numN first kept c := by
  unfold numN
  by_cases h1 : c < first
  · rw [if_pos h1, if_pos h1]
  · rw [if_neg h1, if_neg h1, getD_set_ne (by omega)]
/-- A node that is needed is put: what is to be, and what is then. -/
theorem KInv.new (h2n : 2 ≤ ns.length) (hw : WF V (ns ++ ds)) (hns : WF V ns) (h : KInv V ns ds m i nsI kept) {n : Nd} (hn : ds[i]? = some n) (hm : m.getD i false = true) (clo : ∀ j n, ds[j]? = some n → m.getD j false = true → (ns.length ≤ n.a → m.getD (n.a - ns.length) false = true) ∧ (ns.length ≤ n.b → m.getD (n.b - ns.length) false = true)) :
    WF V (nsI ++ [⟨n.v, numN ns.length kept n.a, numN ns.length kept n.b⟩]) ∧ ∀ x, 2 ≤ x → nsI[x]? ≠ some ⟨n.v, numN ns.length kept n.a, numN ns.length kept n.b⟩ := by
  have hi := (List.getElem?_eq_some_iff.1 hn).1
  have hn' : (ns ++ ds)[ns.length + i]? = some n := by rw [List.getElem?_append_right (by omega), Nat.add_sub_cancel_left]; exact hn
  obtain ⟨a1, a2, a3, a4, a5, a6⟩ := hw.nd _ n (by omega) hn'
  obtain ⟨ha, hb⟩ := clo i n hn hm
  have ca := h.child hw hns a2 (Nat.le_of_lt hi) ha
  have cb := h.child hw hns a3 (Nat.le_of_lt hi) hb
  have hnew : ∀ x, 2 ≤ x → nsI[x]? ≠ some ⟨n.v, numN ns.length kept n.a, numN ns.length kept n.b⟩ := by
    intro x hx hxn
    have hxl := (List.getElem?_eq_some_iff.1 hxn).1
    by_cases hlo : x < ns.length
    · obtain ⟨K, hK⟩ := h.pre
      have hx2 : ns[x]? = some ⟨n.v, numN ns.length kept n.a, numN ns.length kept n.b⟩ := by rw [hK, List.getElem?_append_left hlo] at hxn; exact hxn
      obtain ⟨b1, b2, b3, -⟩ := hns.nd x _ hx hx2
      simp only at b2 b3
      have low : ∀ c, c < ns.length + i → (ns.length ≤ c → m.getD (c - ns.length) false = true) → numN ns.length kept c < ns.length → numN ns.length kept c = c := fun c hc hm hl => by
        by_cases hcl : c < ns.length
        · exact if_pos hcl
        · exfalso
          have e : numN ns.length kept c = kept.getD (c - ns.length) 0 := if_neg hcl
          obtain ⟨n', hn'⟩ := get_lt (L := ds) (i := c - ns.length) (by omega)
          have := (h.ok _ n' (by omega) hn' (hm (by omega))).1
          omega
      rw [low n.a a2 ha (by omega), low n.b a3 hb (by omega)] at hx2
      have : (ns ++ ds)[x]? = some n := by rw [List.getElem?_append_left hlo, hx2]
      have := hw.inj x (ns.length + i) n hx (by omega) this hn'
      omega
    · obtain ⟨j, hj, hmj, hkj⟩ := h.sur x (by omega) hxl
      obtain ⟨n', hn2⟩ := get_lt (L := ds) (i := j) (by omega)
      obtain ⟨-, -, h3, -⟩ := h.ok j n' hj hn2 hmj
      rw [hkj, hxn] at h3
      have hn2' : (ns ++ ds)[ns.length + j]? = some n' := by rw [List.getElem?_append_right (by omega), Nat.add_sub_cancel_left]; exact hn2
      obtain ⟨b1, b2, b3, -⟩ := hw.nd _ n' (by omega) hn2'
      simp only [Option.some.injEq, Nd.mk.injEq] at h3
      obtain ⟨e1, e2, e3⟩ := h3
      obtain ⟨ha', hb'⟩ := clo j n' hn2 hmj
      have q2 := h.num_inj a2 (by omega) (Nat.le_of_lt hi) ha ha' e2
      have q3 := h.num_inj a3 (by omega) (Nat.le_of_lt hi) hb hb' e3
      have : n = n' := by cases n; cases n'; simp_all
      subst this
      have := hw.inj _ _ n (by omega) (by omega) hn' hn2'
      omega
  exact ⟨h.wf.push a1 ca.lt cb.lt (fun e => a4 (h.num_inj a2 a3 (Nat.le_of_lt hi) ha hb e)) (by rw [ca.ask]; exact a5) (by rw [cb.ask]; exact a6) hnew, hnew⟩
theorem KInv.put (h2n : 2 ≤ ns.length) (hw : WF V (ns ++ ds)) (hns : WF V ns) (h : KInv V ns ds m i nsI kept) {n : Nd} (hn : ds[i]? = some n) (hm : m.getD i false = true) (clo : ∀ j n, ds[j]? = some n → m.getD j false = true → (ns.length ≤ n.a → m.getD (n.a - ns.length) false = true) ∧ (ns.length ≤ n.b → m.getD (n.b - ns.length) false = true)) :
    KInv V ns ds m (i + 1) (nsI ++ [⟨n.v, numN ns.length kept n.a, numN ns.length kept n.b⟩]) (kept.set i nsI.length) := by
  obtain ⟨hwf, hnew⟩ := h.new h2n hw hns hn hm clo
  have hi := (List.getElem?_eq_some_iff.1 hn).1
  have hik : i < kept.length := by rw [h.kl]; exact hi
  have hn' : (ns ++ ds)[ns.length + i]? = some n := by rw [List.getElem?_append_right (by omega), Nat.add_sub_cancel_left]; exact hn
  obtain ⟨a1, a2, a3, a4, a5, a6⟩ := hw.nd _ n (by omega) hn'
  obtain ⟨ha, hb⟩ := clo i n hn hm
  have ca := h.child hw hns a2 (Nat.le_of_lt hi) ha
  have cb := h.child hw hns a3 (Nat.le_of_lt hi) hb
  have hle := pre_le h.pre
  refine ⟨hwf, ?_, by rw [List.length_set]; exact h.kl, fun j n' hj hn2 hb2 => ?_, fun j k hj hk hb1 hb2 he => ?_, fun x h1 h2 => ?_, ?_⟩
  · obtain ⟨K, rfl⟩ := h.pre
    exact ⟨K ++ _, List.append_assoc _ _ _⟩
  · by_cases e : j = i
    · subst e
      rw [hn] at hn2
      cases hn2
      rw [getD_set_eq hik]
      refine ⟨hle, by simp, ?_, fun w => ?_⟩
      · rw [numN_set a2, numN_set a3]
        simp
      · have hx : (nsI ++ [(⟨n.v, numN ns.length kept n.a, numN ns.length kept n.b⟩ : Nd)])[nsI.length]? = some ⟨n.v, numN ns.length kept n.a, numN ns.length kept n.b⟩ := by simp
        rw [hwf.ev_node w (by omega) hx, hw.ev_node w (by omega) hn']
        simp only
        rw [ev_app h.wf hwf w _ ca.lt, ev_app h.wf hwf w _ cb.lt, ca.ev, cb.ev]
    · have hjl := (List.getElem?_eq_some_iff.1 hn2).1
      obtain ⟨c1, c2, c3, c4⟩ := h.ok j n' (by omega) hn2 hb2
      have hn2' : (ns ++ ds)[ns.length + j]? = some n' := by rw [List.getElem?_append_right (by omega), Nat.add_sub_cancel_left]; exact hn2
      obtain ⟨b1, b2, b3, -⟩ := hw.nd _ n' (by omega) hn2'
      rw [getD_set_ne e]
      refine ⟨c1, by rw [List.length_append]; omega, ?_, fun w => ?_⟩
      · rw [List.getElem?_append_left c2, numN_set (by omega), numN_set (by omega)]
        exact c3
      · rw [ev_app h.wf hwf w _ c2]
        exact c4 w
  · have lt : ∀ j, j < i → m.getD j false = true → kept.getD j 0 < nsI.length := fun j hj hb => by
      obtain ⟨n', hn2⟩ := get_lt (L := ds) (i := j) (by omega)
      exact (h.ok j n' hj hn2 hb).2.1
    by_cases e1 : j = i
    · by_cases e2 : k = i
      · omega
      · rw [e1, getD_set_eq hik, getD_set_ne e2] at he
        have := lt k (by omega) hb2
        omega
    · by_cases e2 : k = i
      · rw [e2, getD_set_eq hik, getD_set_ne e1] at he
        have := lt j (by omega) hb1
        omega
      · rw [getD_set_ne e1, getD_set_ne e2] at he
        exact h.inj j k (by omega) (by omega) hb1 hb2 he
  · by_cases e : x = nsI.length
    · exact ⟨i, by omega, hm, by rw [getD_set_eq hik, e]⟩
    · obtain ⟨j, hj, hmj, hkj⟩ := h.sur x h1 (by simp at h2; omega)
      exact ⟨j, by omega, hmj, by rw [getD_set_ne (by omega)]; exact hkj⟩
  · unfold wsum
    rw [hm]
    have := h.cnt
    simp
    omega
/-- Which nodes are new: the one itself, and those to which a new one leads. -/
def Src (lo : Nat) (L : List Nd) (r : Nat) : Prop := ∀ x, lo ≤ x → x < L.length → x = r ∨ ∃ y n, lo ≤ y ∧ L[y]? = some n ∧ (n.a = x ∨ n.b = x)
theorem KInv.src {f : Nat} (h : KInv V ns ds m ds.length nsI kept) (hl : Led ns.length f ds m) : Src ns.length nsI (numN ns.length kept f) := by
  intro x h1 h2
  obtain ⟨j, hj, hmj, hkj⟩ := h.sur x h1 h2
  rcases hl j hmj with e | ⟨k, n, hn, hmk, hc⟩
  · left
    unfold numN
    rw [if_neg (by omega), ← e, Nat.add_sub_cancel_left, hkj]
  · right
    obtain ⟨c1, c2, c3, -⟩ := h.ok k n (List.getElem?_eq_some_iff.1 hn).1 hn hmk
    have hx : numN ns.length kept (ns.length + j) = x := by
      unfold numN
      rw [if_neg (by omega), Nat.add_sub_cancel_left, hkj]
    refine ⟨kept.getD k 0, _, c1, c3, ?_⟩
    rcases hc with hc | hc
    · left; show numN ns.length kept n.a = x; rw [hc]; exact hx
    · right; show numN ns.length kept n.b = x; rw [hc]; exact hx
end
end Go.Proofs.Ytailpphafoamfaa
namespace Go.Proofs.Ytailpphafoamfaa
open Go Go.RowKit Go.Maps


def intC (m : List Nat) : Array Value := (m.map fun (n : Nat) => Value.int .i32 (n : Int)).toArray
section
variable {w w' : World} {d first b2 b8 bk n : Nat} {kept : List Nat}
/-- What the numbering closure has caught. -/
structure NumAt (w : World) (d first b2 b8 bk : Nat) (kept : List Nat) : Prop where
  c2 : w.cell? ⟨b2, 0, none⟩ = some (.pointer (some ⟨d, 0, none⟩))
  d1 : w.cell? ⟨d, 1, none⟩ = some (.int .i32 (first : Int))
  c8 : w.cell? ⟨b8, 0, none⟩ = some (.slice (some ⟨bk, 0, none⟩) kept.length kept.length)
  ck : w.heap[bk]? = some (.cells (intC kept) 21 (0, 0))
theorem intC_at {j : Nat} (h : j < kept.length) : (intC kept)[j]? = some (.int .i32 ((kept.getD j 0 : Nat) : Int)) := by
  simp [intC, List.getElem?_eq_getElem h]
def NumPost (w : World) (first : Nat) (kept : List Nat) (n : Nat) (e : Ending) (w' : World) : Prop := e = .returned (.int .i32 ((numN first kept n : Nat) : Int)) ∧ w.grownBy w' none
set_option maxHeartbeats 8000000 in
set_option maxRecDepth 100000 in
theorem num_low (h : NumAt w d first b2 b8 bk kept) (hn : n < first) : Calls Try.prog 61 #[.int .i32 (n : Int), .pointer (some ⟨b2, 0, none⟩), .pointer (some ⟨b8, 0, none⟩)] w (NumPost w first kept n) := by
  have c2 := h.c2
  have d1 := h.d1
  have q : (n : Int) < (first : Int) := by omega
  have HE := Lib.hid (show NumPost w first kept n (.returned (.int .i32 (n : Int))) w from ⟨by unfold numN; rw [if_pos hn], World.grownBy.refl _ _⟩)
  clear h hn
  go_enter Try.func61, Try.ntmps61
  go_wp2
  go_ret
  exact HE.out
set_option maxHeartbeats 8000000 in
set_option maxRecDepth 100000 in
theorem num_high (h : NumAt w d first b2 b8 bk kept) (hn : first ≤ n) (hl : n < first + kept.length) (hb : first + kept.length ≤ 33554432) : Calls Try.prog 61 #[.int .i32 (n : Int), .pointer (some ⟨b2, 0, none⟩), .pointer (some ⟨b8, 0, none⟩)] w (NumPost w first kept n) := by
  obtain ⟨j, rfl⟩ : ∃ j, n = first + j := ⟨n - first, by omega⟩
  have c2 := h.c2
  have d1 := h.d1
  have c8 := h.c8
  obtain ⟨x, hx⟩ : ∃ x, kept.getD j 0 = x := ⟨_, rfl⟩
  have cj : w.cell? ⟨bk, j, none⟩ = some (.int .i32 (x : Int)) := by rw [cell_of h.ck, intC_at (by omega), hx]
  have q1 : ¬ ((first + j : Nat) : Int) < (first : Int) := by omega
  have q3 : (j : Int) < (kept.length : Int) := by omega
  have QW := Lib.hid (show IntKind.i32.wrap (((first + j : Nat) : Int) - (first : Int)) = (j : Int) from (IntWalk.i32_in _ (by omega)).trans (by omega))
  have HE := Lib.hid (show NumPost w first kept (first + j) (.returned (.int .i32 (x : Int))) (World.drew w) from ⟨by unfold numN; rw [if_neg (by omega), Nat.add_sub_cancel_left, hx], grown_drewN w 1⟩)
  obtain ⟨kl, hkl⟩ : ∃ kl, kept.length = kl := ⟨_, rfl⟩
  rw [hkl] at c8 q3
  clear h hn hl hb hx hkl
  generalize first + j = n at *
  go_enter Try.func61, Try.ntmps61
  go_wp2
  refine wp_region_T (S := fun w' => ∀ k ∈ [b2, d, b8, bk], w'.heap[k]? = w.heap[k]?) (tail := fun _ => false) (by kernel_rfl) ?_
  change wpAnyT _ _ _ _ _ _ _ _ _ (World.drew w)
  have BD := Lib.hid (show ∀ k ∈ [b2, d, b8, bk], (World.drew w).heap[k]? = w.heap[k]? from fun _ _ => rfl)
  refine tk 0 12 (.slice (some ⟨bk, 0, none⟩) kl kl) BD.out ?y0 ?_
  case y0 =>
    intro w' hw'
    have y0 := (World.cell?_of_block (a := ⟨b8, 0, none⟩) (hw' _ (by simp))).trans c8
    go_simp
  try simp only [Act.put, List.setIfInBounds_toArray, List.set_cons_zero, List.set_cons_succ]
  refine tk 1 13 (.int .i32 ((n : Nat) : Int)) BD.out ?y1 ?_
  case y1 =>
    intro w' hw'
    go_simp
  try simp only [Act.put, List.setIfInBounds_toArray, List.set_cons_zero, List.set_cons_succ]
  refine tk 2 14 (.pointer (some ⟨d, 0, none⟩)) BD.out ?y2 ?_
  case y2 =>
    intro w' hw'
    have y0 := (World.cell?_of_block (a := ⟨b2, 0, none⟩) (hw' _ (by simp))).trans c2
    go_simp
  try simp only [Act.put, List.setIfInBounds_toArray, List.set_cons_zero, List.set_cons_succ]
  refine tk 3 15 (.pointer (some ⟨d, 0, none⟩)) BD.out ?y3 ?_
  case y3 =>
    intro w' hw'
    go_simp
  try simp only [Act.put, List.setIfInBounds_toArray, List.set_cons_zero, List.set_cons_succ]
  refine tk 4 16 (.pointer (some ⟨d, 1, none⟩)) BD.out ?y4 ?_
  case y4 =>
    intro w' hw'
    go_simp
  try simp only [Act.put, List.setIfInBounds_toArray, List.set_cons_zero, List.set_cons_succ]
  refine tk 5 17 (.int .i32 (first : Int)) BD.out ?y5 ?_
  case y5 =>
    intro w' hw'
    have y0 := (World.cell?_of_block (a := ⟨d, 1, none⟩) (hw' _ (by simp))).trans d1
    go_simp
  try simp only [Act.put, List.setIfInBounds_toArray, List.set_cons_zero, List.set_cons_succ]
  refine tk 6 18 (.int .i32 (j : Int)) BD.out ?y6 ?_
  case y6 =>
    intro w' hw'
    go_simp
    exact QW.out
  try simp only [Act.put, List.setIfInBounds_toArray, List.set_cons_zero, List.set_cons_succ]
  refine tk 7 19 (.pointer (some ⟨bk, j, none⟩)) BD.out ?y7 ?_
  case y7 =>
    intro w' hw'
    go_simp
  try simp only [Act.put, List.setIfInBounds_toArray, List.set_cons_zero, List.set_cons_succ]
  refine tk 8 20 (.int .i32 (x : Int)) BD.out ?y8 ?_
  case y8 =>
    intro w' hw'
    have y0 := (World.cell?_of_block (a := ⟨bk, j, none⟩) (hw' _ (by simp))).trans cj
    go_simp
  try simp only [Act.put, List.setIfInBounds_toArray, List.set_cons_zero, List.set_cons_succ]
  refine tk 9 4 (.int .i32 (x : Int)) BD.out ?y9 ?_
  case y9 =>
    intro w' hw'
    go_simp
  try simp only [Act.put, List.setIfInBounds_toArray, List.set_cons_zero, List.set_cons_succ]
  refine dn ?_
  go_wp2
  go_ret
  exact HE.out
theorem num_any (h : NumAt w d first b2 b8 bk kept) (hl : n < first + kept.length) (hb : first + kept.length ≤ 33554432) : Calls Try.prog 61 #[.int .i32 (n : Int), .pointer (some ⟨b2, 0, none⟩), .pointer (some ⟨b8, 0, none⟩)] w (NumPost w first kept n) := by
  by_cases hn : n < first
  · exact num_low h hn
  · exact num_high h (by omega) hl hb
end

end Go.Proofs.Ytailpphafoamfaa
