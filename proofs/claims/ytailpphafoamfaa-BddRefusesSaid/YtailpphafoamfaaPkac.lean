/- A node by its number. What combining makes: the mathematics. A store and its draft: what becomes of them. -/
import Derived.Test.YtailpphafoamfaaPkab
set_option linter.all false
namespace Go.Proofs.Ytailpphafoamfaa
open Go Go.RowKit Go.Maps


section
variable {M : List Nd} {w w' : World} {o : Nat → Nat} {g : SG} {D : DG}
theorem keep_none (T : Nat → Bool) {w w' : World} (o : Nat → Nat) (h : w.grownBy w' none) : Keep T w o w' o := Keep.grown h (by simp) (fun _ _ => rfl)
theorem StoreM.grown (h : StoreM M w o g) (hg : w.grownBy w' none) : StoreM M w' o g := h.keep (T := fun _ => false) (keep_none _ o hg) ⟨rfl, rfl, rfl⟩ (fun b hb => h.new b (Nat.le_trans hg.size hb))
theorem DraftAt.grown (h : DraftAt w o g D) (hg : w.grownBy w' none) : DraftAt w' o g D := h.keep (T := fun _ => false) (keep_none _ o hg) ⟨rfl, rfl, rfl⟩
theorem row_node {v : Value} {L : List Nd} (h : w.ownsRow 0 63 3 v L.length (cellsN L)) {i : Nat} {n : Nd} (hn : L[i]? = some n) :
    ∃ gx c, v = .slice (some ⟨gx, 0, none⟩) L.length c ∧ w.cell? ⟨gx, i * 3, none⟩ = some (.int .i32 (n.v : Int)) ∧ w.cell? ⟨gx, i * 3 + 1, none⟩ = some (.int .i32 (n.a : Int)) ∧ w.cell? ⟨gx, i * 3 + 2, none⟩ = some (.int .i32 (n.b : Int)) ∧ gx < w.heap.size := by
  have hi := (List.getElem?_eq_some_iff.1 hn).1
  obtain ⟨gx, c, rfl, -, hlt⟩ := h.form (by omega)
  obtain ⟨h1, h2, h3⟩ := cellsN_at hn
  refine ⟨gx, c, rfl, ?_, ?_, ?_, hlt⟩
  · rw [h.cellAt _ (by omega), Nat.mul_comm]; exact h1
  · rw [h.cellAt _ (by omega), Nat.mul_comm]; exact h2
  · rw [h.cellAt _ (by omega), Nat.mul_comm]; exact h3
theorem DraftAt.cell (h : DraftAt w o g D) {i : Nat} {v : Value} (hv : (dCells g D)[i]? = some v) : w.cell? ⟨D.d, i, none⟩ = some v := by
  simp [World.cell?, h.cells, hv]
theorem DraftAt.frz (h : DraftAt w o g D) (i : Nat) : w.frozen? ⟨D.d, i, none⟩ = false := by simp [World.frozen?, h.cells]
theorem DraftAt.c0 (h : DraftAt w o g D) : w.cell? ⟨D.d, 0, none⟩ = some (.pointer (some ⟨g.s, 0, none⟩)) := h.cell rfl
theorem DraftAt.c1 (h : DraftAt w o g D) : w.cell? ⟨D.d, 1, none⟩ = some (.int .i32 (g.ns.length : Int)) := h.cell rfl
theorem DraftAt.c2 (h : DraftAt w o g D) : w.cell? ⟨D.d, 2, none⟩ = some D.val := h.cell rfl
theorem DraftAt.c3 (h : DraftAt w o g D) : w.cell? ⟨D.d, 3, none⟩ = some (.map (some D.dm)) := h.cell rfl
theorem DraftAt.c4 (h : DraftAt w o g D) : w.cell? ⟨D.d, 4, none⟩ = some (.int .i64 (D.most : Int)) := h.cell rfl
theorem DraftAt.c5 (h : DraftAt w o g D) : w.cell? ⟨D.d, 5, none⟩ = some (.bool D.full) := h.cell rfl
def AtPost (w : World) (n : Nd) (e : Ending) (w' : World) : Prop := e = .returned (ndV n) ∧ w.grownBy w' none
set_option maxHeartbeats 8000000 in
set_option maxRecDepth 100000 in
theorem at_any (h : StoreAt w o g) (hd : DraftAt w o g D) {i : Nat} {n : Nd} (hn : (g.ns ++ D.ds)[i]? = some n) : Calls Try.prog 70 #[.pointer (some ⟨D.d, 0, none⟩), .int .i32 (i : Int)] w (AtPost w n) := by
  have c0 := hd.c0
  have c1 := hd.c1
  have hs := h.lts
  have hsd := hd.ltd
  have hbd := h.bd
  have hmost := hd.most
  by_cases hi : i < g.ns.length
  · rw [List.getElem?_append_left hi] at hn
    obtain ⟨gx, c, hv, k0, k1, k2, hx⟩ := row_node h.row hn
    have s2 := h.cell2
    rw [hv] at s2
    have q1 : (i : Int) < (g.ns.length : Int) := by omega
    clear h hd hn hv hmost hbd
    go_enter Try.func70, Try.ntmps70
    go_wp2
    refine bodyPost_ret (v := ndV n) ?_ rfl ⟨rfl, grown_alloc _ _⟩
    obtain ⟨y0, y1, y2⟩ := box3 w (.int .i32 (n.v : Int)) (.int .i32 (n.a : Int)) (.int .i32 (n.b : Int)) 63
    simp [results, Try.results70, go_sem, y0, y1, y2, ndV]
  · obtain ⟨j, rfl⟩ : ∃ j, i = g.ns.length + j := ⟨i - g.ns.length, by omega⟩
    rw [List.getElem?_append_right (by omega), Nat.add_sub_cancel_left] at hn
    obtain ⟨gx, c, hv, k0, k1, k2, hx⟩ := row_node hd.row hn
    have d2 := hd.c2
    rw [hv] at d2
    have hj := (List.getElem?_eq_some_iff.1 hn).1
    have q1 : ¬ ((g.ns.length + j : Nat) : Int) < (g.ns.length : Int) := by omega
    have QW := Lib.hid (show IntKind.i32.wrap (((g.ns.length + j : Nat) : Int) - (g.ns.length : Int)) = (j : Int) from (IntWalk.i32_in _ (by omega)).trans (by omega))
    have q2 : (j : Int) < (D.ds.length : Int) := by omega
    have HGA := Lib.hid (grown_alloc w (.cells #[.int .i32 0, .int .i32 0, .int .i32 0] 63))
    have HY := Lib.hid (box3 w (.int .i32 0) (.int .i32 0) (.int .i32 0) 63)
    have HH := Lib.hid (MapKept.heap_alloc w (.cells #[.int .i32 0, .int .i32 0, .int .i32 0] 63)).1
    have hne : gx ≠ w.heap.size := by omega
    have hne2 : D.d ≠ w.heap.size := by omega
    clear h hd hv hmost hbd hi hn hj
    generalize g.ns.length + j = i at *
    go_enter Try.func70, Try.ntmps70
    go_wp2
    obtain ⟨B, hB⟩ : ∃ B, w.heap.size = B := ⟨_, rfl⟩
    obtain ⟨wa, hwa⟩ : ∃ wa, w.alloc (.cells #[.int .i32 0, .int .i32 0, .int .i32 0] 63) = wa := ⟨_, rfl⟩
    rw [hwa] at HGA HY HH
    rw [hB] at HY HH hne hne2
    rw [hwa, hB]
    have HBS := Lib.hid hB
    have HBA := Lib.hid (show B < wa.heap.size from by rw [← hwa, ← hB]; simp)
    have hc := HGA.out
    replace c1 := (World.cell?_of_block (a := ⟨D.d, 1, none⟩) (hc.block _ (by show D.d < _; omega) (by simp))).trans c1
    replace d2 := (World.cell?_of_block (a := ⟨D.d, 2, none⟩) (hc.block _ (by show D.d < _; omega) (by simp))).trans d2
    replace k0 := (World.cell?_of_block (a := ⟨gx, j * 3, none⟩) (hc.block _ (by show gx < _; omega) (by simp))).trans k0
    replace k1 := (World.cell?_of_block (a := ⟨gx, j * 3 + 1, none⟩) (hc.block _ (by show gx < _; omega) (by simp))).trans k1
    replace k2 := (World.cell?_of_block (a := ⟨gx, j * 3 + 2, none⟩) (hc.block _ (by show gx < _; omega) (by simp))).trans k2
    clear hwa hB hc c0
    refine wp_region_T (S := fun w' => ∀ k ∈ [D.d, gx], w'.heap[k]? = wa.heap[k]?) (tail := fun j => decide (12 ≤ j)) (by kernel_rfl) ?_
    change wpAnyT _ _ _ _ _ _ _ _ _ (World.drew wa)
    have BD := Lib.hid (show ∀ k ∈ [D.d, gx], (World.drew wa).heap[k]? = wa.heap[k]? from fun _ _ => rfl)
    refine tk 0 21 (.pointer (some ⟨D.d, 0, none⟩)) BD.out ?y0 ?_
    case y0 =>
      intro w' hw'
      go_simp
    try simp only [Act.put, List.setIfInBounds_toArray, List.set_cons_zero, List.set_cons_succ]
    refine tk 1 22 (.pointer (some ⟨D.d, 0, none⟩)) BD.out ?y1 ?_
    case y1 =>
      intro w' hw'
      go_simp
    try simp only [Act.put, List.setIfInBounds_toArray, List.set_cons_zero, List.set_cons_succ]
    refine tk 2 23 (.pointer (some ⟨D.d, 2, none⟩)) BD.out ?y2 ?_
    case y2 =>
      intro w' hw'
      go_simp
    try simp only [Act.put, List.setIfInBounds_toArray, List.set_cons_zero, List.set_cons_succ]
    refine tk 3 24 (.slice (some ⟨gx, 0, none⟩) D.ds.length c) BD.out ?y3 ?_
    case y3 =>
      intro w' hw'
      have y0 := (World.cell?_of_block (a := ⟨D.d, 2, none⟩) (hw' _ (by simp))).trans d2
      go_simp
    try simp only [Act.put, List.setIfInBounds_toArray, List.set_cons_zero, List.set_cons_succ]
    refine tk 4 25 (.int .i32 ((i : Nat) : Int)) BD.out ?y4 ?_
    case y4 =>
      intro w' hw'
      go_simp
    try simp only [Act.put, List.setIfInBounds_toArray, List.set_cons_zero, List.set_cons_succ]
    refine tk 5 26 (.pointer (some ⟨D.d, 0, none⟩)) BD.out ?y5 ?_
    case y5 =>
      intro w' hw'
      go_simp
    try simp only [Act.put, List.setIfInBounds_toArray, List.set_cons_zero, List.set_cons_succ]
    refine tk 6 27 (.pointer (some ⟨D.d, 0, none⟩)) BD.out ?y6 ?_
    case y6 =>
      intro w' hw'
      go_simp
    try simp only [Act.put, List.setIfInBounds_toArray, List.set_cons_zero, List.set_cons_succ]
    refine tk 7 28 (.pointer (some ⟨D.d, 1, none⟩)) BD.out ?y7 ?_
    case y7 =>
      intro w' hw'
      go_simp
    try simp only [Act.put, List.setIfInBounds_toArray, List.set_cons_zero, List.set_cons_succ]
    refine tk 8 29 (.int .i32 (g.ns.length : Int)) BD.out ?y8 ?_
    case y8 =>
      intro w' hw'
      have y0 := (World.cell?_of_block (a := ⟨D.d, 1, none⟩) (hw' _ (by simp))).trans c1
      go_simp
    try simp only [Act.put, List.setIfInBounds_toArray, List.set_cons_zero, List.set_cons_succ]
    refine tk 9 30 (.int .i32 (j : Int)) BD.out ?y9 ?_
    case y9 =>
      intro w' hw'
      go_simp
      exact QW.out
    try simp only [Act.put, List.setIfInBounds_toArray, List.set_cons_zero, List.set_cons_succ]
    refine tk 10 31 (.pointer (some ⟨gx, j * 3, none⟩)) BD.out ?y10 ?_
    case y10 =>
      intro w' hw'
      go_simp
    try simp only [Act.put, List.setIfInBounds_toArray, List.set_cons_zero, List.set_cons_succ]
    refine tk 11 32 (.agg #[.int .i32 (n.v : Int), .int .i32 (n.a : Int), .int .i32 (n.b : Int)]) BD.out ?y11 ?_
    case y11 =>
      intro w' hw'
      have z0 := (World.cell?_of_block (a := ⟨gx, j * 3, none⟩) (hw' gx (by simp))).trans k0
      have z1 := (World.cell?_of_block (a := ⟨gx, j * 3 + 1, none⟩) (hw' gx (by simp))).trans k1
      have z2 := (World.cell?_of_block (a := ⟨gx, j * 3 + 2, none⟩) (hw' gx (by simp))).trans k2
      go_simp
    try simp only [Act.put, List.setIfInBounds_toArray, List.set_cons_zero, List.set_cons_succ]
    obtain ⟨y0, y1, y2⟩ := HY.out
    have f0 : wa.frozen? ⟨B, 0, none⟩ = false := by simp [World.frozen?, HH.out]
    have f1 : wa.frozen? ⟨B, 1, none⟩ = false := by simp [World.frozen?, HH.out]
    have f2 : wa.frozen? ⟨B, 2, none⟩ = false := by simp [World.frozen?, HH.out]
    refine on 12 (fun K hK => ?_)
    go_simp
    refine hK.out _ _ (fun h => absurd h (by decide)) ?_
    clear hK K
    try simp only [Act.put, List.setIfInBounds_toArray, List.set_cons_zero, List.set_cons_succ]
    refine dn ?_
    go_wp2
    have e0 : (((wa.setCell ⟨B, 0, none⟩ (.int .i32 (n.v : Int))).setCell ⟨B, 1, none⟩ (.int .i32 (n.a : Int))).setCell ⟨B, 2, none⟩ (.int .i32 (n.b : Int))).heap[B]? = some (.cells #[.int .i32 (n.v : Int), .int .i32 (n.a : Int), .int .i32 (n.b : Int)] 63 (0, 0)) := heap_set _ (heap_set _ (heap_set _ HH.out))
    refine bodyPost_ret (v := ndV n) ?_ rfl ⟨rfl, ?_⟩
    · have z : ∀ i v, (#[.int .i32 (n.v : Int), .int .i32 (n.a : Int), .int .i32 (n.b : Int)] : Array Value)[i]? = some v → (World.drew (((wa.setCell ⟨B, 0, none⟩ (.int .i32 (n.v : Int))).setCell ⟨B, 1, none⟩ (.int .i32 (n.a : Int))).setCell ⟨B, 2, none⟩ (.int .i32 (n.b : Int)))).cell? ⟨B, i, none⟩ = some v := fun i v hv => by
        rw [World.cell?_drew]
        unfold World.cell?
        rw [e0]
        exact hv
      have z0 := z 0 _ rfl
      have z1 := z 1 _ rfl
      have z2 := z 2 _ rfl
      clear z e0 y0 y1 y2 HH f0 f1 f2
      generalize World.drew (((wa.setCell ⟨B, 0, none⟩ (.int .i32 (n.v : Int))).setCell ⟨B, 1, none⟩ (.int .i32 (n.a : Int))).setCell ⟨B, 2, none⟩ (.int .i32 (n.b : Int))) = wz at *
      simp [results, Try.results70, go_sem, z0, z1, z2, ndV]
    · have h1 := grown_set wa ⟨B, 0, none⟩ (.int .i32 (n.v : Int))
      have h2 := grown_set (wa.setCell ⟨B, 0, none⟩ (.int .i32 (n.v : Int))) ⟨B, 1, none⟩ (.int .i32 (n.a : Int))
      have h3 := grown_set ((wa.setCell ⟨B, 0, none⟩ (.int .i32 (n.v : Int))).setCell ⟨B, 1, none⟩ (.int .i32 (n.a : Int))) ⟨B, 2, none⟩ (.int .i32 (n.b : Int))
      have h4 := grown_trans (grown_trans (grown_trans (grown_any (row := some B) HGA.out) h1) h2) h3
      exact ⟨h4.os, h4.tape, h4.output, h4.size, fun k hk _ => h4.block k hk (by rw [← HBS.out]; simp; omega)⟩
end

end Go.Proofs.Ytailpphafoamfaa
namespace Go.Proofs.Ytailpphafoamfaa

def leadN (n : Nd) (b : Bool) : Nat := if b then n.b else n.a
def NodeIs (L : List Nd) (n : Nd) (r : Nat) : Prop := (n.a = n.b ∧ r = n.a) ∨ (n.a ≠ n.b ∧ 2 ≤ r ∧ L[r]? = some n)
def dec (L : List Nd) (f v : Nat) (b : Bool) : Nat := match L[f]? with
  | none => f
  | some n => if n.v = v then leadN n b else f
def chosenN (f g h : Nat) : Nat × Bool := if f = 1 ∨ g = h then (g, true) else if f = 0 then (h, true) else if (g = 1 ∨ g = f) ∧ (h = 0 ∨ h = f) then (f, true) else (0, false)
def alikeN (f g : Nat) : Nat × Bool := if f = g then (1, true) else if f = 1 then (g, true) else if g = 1 then (f, true) else (0, decide (f ≤ 1 ∧ g ≤ 1))
def m3 (L : List Nd) (f g h : Nat) : Nat := min (ask L f) (min (ask L g) (ask L h))
/-- What is settled at once is right; what isn't has a node among the three. -/
structure Settles (st : Nat → Nat → Nat → Nat × Bool) (op : Bool → Bool → Bool → Bool) : Prop where
  yes : ∀ {V : Nat} {L : List Nd}, WF V L → ∀ f g h, f < L.length → g < L.length → h < L.length → (st f g h).2 = true → (st f g h).1 < L.length ∧ m3 L f g h ≤ ask L (st f g h).1 ∧ ∀ m, ev L (st f g h).1 m = op (ev L f m) (ev L g m) (ev L h m)
  no : ∀ f g h, (st f g h).2 = false → 2 ≤ f ∨ 2 ≤ g ∨ 2 ≤ h
structure CombIs (op : Bool → Bool → Bool → Bool) (L : List Nd) (f g h r : Nat) : Prop where
  lt : r < L.length
  ask : m3 L f g h ≤ ask L r
  ev : ∀ m, ev L r m = op (ev L f m) (ev L g m) (ev L h m)
def iteB (x y z : Bool) : Bool := if x then y else z
def iffB (x y _ : Bool) : Bool := x == y
theorem m3_le {V : Nat} {L : List Nd} (h : WF V L) {a b c : Nat} (ha : a < L.length) : m3 L a b c ≤ V := by
  have := h.ask_le ha
  unfold m3
  omega
theorem chosen_settles : Settles chosenN iteB where
  yes := fun {V L} w f g h hf hg hh hs => by
    have h2 := w.two
    have hv := m3_le w (b := g) (c := h) hf
    by_cases e1 : f = 1 ∨ g = h
    · have e : chosenN f g h = (g, true) := if_pos e1
      rw [e]
      refine ⟨hg, by simp only [m3]; omega, fun m => ?_⟩
      rcases e1 with rfl | rfl
      · rw [ev1]; rfl
      · cases ev L f m <;> rfl
    · by_cases e2 : f = 0
      · have e : chosenN f g h = (h, true) := by unfold chosenN; rw [if_neg e1, if_pos e2]
        rw [e]
        refine ⟨hh, by simp only [m3]; omega, fun m => ?_⟩
        rw [e2, ev0]; rfl
      · by_cases e3 : (g = 1 ∨ g = f) ∧ (h = 0 ∨ h = f)
        · have e : chosenN f g h = (f, true) := by unfold chosenN; rw [if_neg e1, if_neg e2, if_pos e3]
          rw [e]
          refine ⟨hf, by simp only [m3]; omega, fun m => ?_⟩
          obtain ⟨e4, e5⟩ := e3
          rcases e4 with rfl | rfl <;> rcases e5 with rfl | rfl <;> simp [iteB, ev1, ev0] <;> cases ev L _ m <;> rfl
        · have e : chosenN f g h = (0, false) := by unfold chosenN; rw [if_neg e1, if_neg e2, if_neg e3]
          rw [e] at hs
          cases hs
  no := fun f g h hs => by
    apply Classical.byContradiction
    intro hc
    unfold chosenN at hs
    split at hs
    · cases hs
    · split at hs
      · cases hs
      · omega
theorem alike_settles : Settles (fun f g _ => alikeN f g) iffB where
  yes := fun {V L} w f g h hf hg hh hs => by
    have h2 := w.two
    have hv := m3_le w (b := g) (c := h) hf
    by_cases e1 : f = g
    · have e : alikeN f g = (1, true) := if_pos e1
      rw [e]
      refine ⟨by simp only; omega, by rw [w.ask1]; exact hv, fun m => ?_⟩
      rw [ev1, e1]
      simp [iffB]
    · by_cases e2 : f = 1
      · have e : alikeN f g = (g, true) := by unfold alikeN; rw [if_neg e1, if_pos e2]
        rw [e]
        refine ⟨hg, by simp only [m3]; omega, fun m => ?_⟩
        rw [e2, ev1]
        simp [iffB]
      · by_cases e3 : g = 1
        · have e : alikeN f g = (f, true) := by unfold alikeN; rw [if_neg e1, if_neg e2, if_pos e3]
          rw [e]
          refine ⟨hf, by simp only [m3]; omega, fun m => ?_⟩
          rw [e3, ev1]
          simp [iffB]
        · have e : alikeN f g = (0, decide (f ≤ 1 ∧ g ≤ 1)) := by unfold alikeN; rw [if_neg e1, if_neg e2, if_neg e3]
          rw [e] at hs
          simp at hs
          omega
  no := fun f g h hs => by
    apply Classical.byContradiction
    intro hc
    have hs : (alikeN f g).2 = false := hs
    unfold alikeN at hs
    split at hs
    · cases hs
    · split at hs
      · cases hs
      · split at hs
        · cases hs
        · simp at hs
          omega
section
variable {V : Nat} {L K : List Nd} {op : Bool → Bool → Bool → Bool}
theorem m3_app {f g h : Nat} (hf : f < L.length) (hg : g < L.length) (hh : h < L.length) : m3 (L ++ K) f g h = m3 L f g h := by
  unfold m3
  rw [ask_app hf, ask_app hg, ask_app hh]
theorem CombIs.app {f g h r : Nat} (c : CombIs op L f g h r) (w : WF V L) (w' : WF V (L ++ K)) (hf : f < L.length) (hg : g < L.length) (hh : h < L.length) : CombIs op (L ++ K) f g h r :=
  ⟨by have := c.lt; simp only [List.length_append]; omega, by rw [m3_app hf hg hh, ask_app c.lt]; exact c.ask, fun m => by rw [ev_app w w' m r c.lt, ev_app w w' m f hf, ev_app w w' m g hg, ev_app w w' m h hh]; exact c.ev m⟩
theorem dec_app {f v : Nat} {b : Bool} (hf : f < L.length) : dec (L ++ K) f v b = dec L f v b := by
  unfold dec
  rw [List.getElem?_append_left hf]
theorem WF.dec_lt (w : WF V L) {f v : Nat} (b : Bool) (hf : f < L.length) (hv : v < V) : dec L f v b < L.length := by
  obtain ⟨n, hn⟩ := get_lt hf
  unfold dec
  rw [hn]
  simp only
  split
  · rename_i e
    by_cases h2 : 2 ≤ f
    · obtain ⟨a1, a2, a3, -⟩ := w.nd f n h2 hn
      unfold leadN
      split <;> omega
    · have := ask_at hn
      rw [w.ask_end (by omega)] at this
      omega
  · exact hf
theorem WF.dec_ask (w : WF V L) {f v : Nat} (b : Bool) (hf : f < L.length) (hv : v < V) (hle : v ≤ ask L f) : v < ask L (dec L f v b) := by
  obtain ⟨n, hn⟩ := get_lt hf
  have ha := ask_at hn
  unfold dec
  rw [hn]
  simp only
  split
  · rename_i e
    by_cases h2 : 2 ≤ f
    · obtain ⟨a1, a2, a3, a4, a5, a6⟩ := w.nd f n h2 hn
      unfold leadN
      split <;> omega
    · rw [w.ask_end (by omega)] at ha
      omega
  · omega
theorem WF.dec_ev (w : WF V L) {f v : Nat} (b : Bool) (hf : f < L.length) (hv : v < V) (m : Nat → Bool) (hm : m v = b) : ev L (dec L f v b) m = ev L f m := by
  obtain ⟨n, hn⟩ := get_lt hf
  unfold dec
  rw [hn]
  simp only
  split
  · rename_i e
    by_cases h2 : 2 ≤ f
    · rw [w.ev_node m h2 hn, e, hm]
      unfold leadN
      cases b <;> rfl
    · have := ask_at hn
      rw [w.ask_end (by omega)] at this
      omega
  · rfl
/-- A node of two that are right for a variable's two ways is right. -/
theorem WF.comb (w : WF V L) {f g h v r0 r1 r : Nat} (hf : f < L.length) (hg : g < L.length) (hh : h < L.length) (hv : v < V) (hm : m3 L f g h = v)
    (c0 : CombIs op L (dec L f v false) (dec L g v false) (dec L h v false) r0) (c1 : CombIs op L (dec L f v true) (dec L g v true) (dec L h v true) r1) (hr : NodeIs L ⟨v, r0, r1⟩ r) : CombIs op L f g h r := by
  have hev : ∀ m, (if m v then ev L r1 m else ev L r0 m) = op (ev L f m) (ev L g m) (ev L h m) := by
    intro m
    by_cases hb : m v = true
    · rw [if_pos hb, c1.ev, w.dec_ev true hf hv m hb, w.dec_ev true hg hv m hb, w.dec_ev true hh hv m hb]
    · have hb' : m v = false := by simpa using hb
      rw [if_neg hb, c0.ev, w.dec_ev false hf hv m hb', w.dec_ev false hg hv m hb', w.dec_ev false hh hv m hb']
  have hk : ∀ b, v < m3 L (dec L f v b) (dec L g v b) (dec L h v b) := fun b => by
    have h1 : v ≤ ask L f ∧ v ≤ ask L g ∧ v ≤ ask L h := by unfold m3 at hm; omega
    have := w.dec_ask b hf hv h1.1
    have := w.dec_ask b hg hv h1.2.1
    have := w.dec_ask b hh hv h1.2.2
    unfold m3
    omega
  rcases hr with ⟨e1, e2⟩ | ⟨e1, h2, hn⟩
  · simp only at e1 e2
    subst e2
    have h0 := hk false
    have h3 := c0.ask
    refine ⟨c0.lt, by rw [hm]; omega, fun m => ?_⟩
    rw [← hev m]
    rw [← e1]
    split <;> rfl
  · refine ⟨(List.getElem?_eq_some_iff.1 hn).1, by rw [hm, ask_at hn]; exact Nat.le_refl _, fun m => ?_⟩
    rw [w.ev_node m h2 hn]
    exact hev m
theorem WF.m3_dec (w : WF V L) {f g h v : Nat} (b : Bool) (hf : f < L.length) (hg : g < L.length) (hh : h < L.length) (hv : v < V) (hm : m3 L f g h = v) : v < m3 L (dec L f v b) (dec L g v b) (dec L h v b) := by
  have h1 : v ≤ ask L f ∧ v ≤ ask L g ∧ v ≤ ask L h := by unfold m3 at hm; omega
  have := w.dec_ask b hf hv h1.1
  have := w.dec_ask b hg hv h1.2.1
  have := w.dec_ask b hh hv h1.2.2
  unfold m3
  omega
theorem pow_two {V v a b : Nat} (hv : v < V) (ha : v < a) (hb : v < b) : 2 ^ (V - a) + 2 ^ (V - b) ≤ 2 ^ (V - v) := by
  have h1 : 2 ^ (V - a) ≤ 2 ^ (V - v - 1) := Nat.pow_le_pow_right (by decide) (by omega)
  have h2 : 2 ^ (V - b) ≤ 2 ^ (V - v - 1) := Nat.pow_le_pow_right (by decide) (by omega)
  have h3 : 2 ^ (V - v) = 2 ^ (V - v - 1) + 2 ^ (V - v - 1) := by
    obtain ⟨k, hk⟩ : ∃ k, V - v = k + 1 := ⟨V - v - 1, by omega⟩
    rw [hk, Nat.add_sub_cancel, Nat.pow_succ]
    omega
  omega
theorem pow_pos' (k : Nat) : 1 ≤ 2 ^ k := Nat.one_le_two_pow
end
end Go.Proofs.Ytailpphafoamfaa
namespace Go.Proofs.Ytailpphafoamfaa
open Go Go.RowKit Go.Maps


section
variable {M : List Nd} {w w' : World} {o o' : Nat → Nat} {g g' g'' : SG} {D D' D'' : DG}
structure DS (w : World) (o : Nat → Nat) (g : SG) (D : DG) : Prop where
  st : StoreAt w o g
  dr : DraftAt w o g D
theorem DS.grown (h : DS w o g D) (hg : w.grownBy w' none) : DS w' o g D := ⟨h.st.grown hg, h.dr.grown hg⟩
theorem DS.alloc (h : DS w o g D) (x : Obj) : DS (w.alloc x) o g D := h.grown (grown_alloc _ _)
theorem DS.drew (h : DS w o g D) : DS (World.drew w) o g D := h.grown (grown_drewN w 1)
/-- The blocks of a store and its draft. -/
def Td (t : Nat) : Bool := decide (1 ≤ t ∧ t ≤ 6)
theorem td_of {T : Nat → Bool} (ht : ∀ t, T t = true → 1 ≤ t ∧ t ≤ 6) : ∀ t, Td t = false → T t = false := fun t h => by
  cases hT : T t with
  | false => rfl
  | true =>
    have := ht t hT
    unfold Td at h
    rw [decide_eq_true this] at h
    cases h
/-- What becomes of a store and a draft: nodes more in the draft alone. -/
structure Ext (g : SG) (D : DG) (g' : SG) (D' : DG) : Prop where
  s : g'.s = g.s
  V : g'.V = g.V
  room : g'.room = g.room
  ns : g'.ns = g.ns
  W : g.W ≤ g'.W
  d : D'.d = D.d
  most : D'.most = D.most
  ds : ∃ K, D'.ds = D.ds ++ K
  full : D.full = true → D'.full = true
theorem Ext.refl (g : SG) (D : DG) : Ext g D g D := ⟨rfl, rfl, rfl, rfl, Nat.le_refl _, rfl, rfl, ⟨[], by simp⟩, id⟩
theorem Ext.trans (h : Ext g D g' D') (k : Ext g' D' g'' D'') : Ext g D g'' D'' :=
  ⟨k.s.trans h.s, k.V.trans h.V, k.room.trans h.room, k.ns.trans h.ns, Nat.le_trans h.W k.W, k.d.trans h.d, k.most.trans h.most, by
    obtain ⟨K, h1⟩ := h.ds
    obtain ⟨K', h2⟩ := k.ds
    exact ⟨K ++ K', by rw [h2, h1, List.append_assoc]⟩, fun e => k.full (h.full e)⟩
def lst (g : SG) (D : DG) : List Nd := g.ns ++ D.ds
theorem Ext.ex (h : Ext g D g' D') : ∃ K, lst g' D' = lst g D ++ K := by
  obtain ⟨K, h1⟩ := h.ds
  exact ⟨K, by unfold lst; rw [h.ns, h1, List.append_assoc]⟩
structure NodeOut (w : World) (o : Nat → Nat) (g : SG) (D : DG) (n : Nd) (r : Nat) (w' : World) (o' : Nat → Nat) (g' : SG) (D' : DG) : Prop where
  ds : DS w' o' g' D'
  keep : Keep Td w o w' o'
  ext : Ext g D g' D'
  lt : r < (lst g' D').length
  len : D'.ds.length ≤ D.ds.length + 1
  W1 : g'.W ≤ g.W + 1
  W2 : n.a ≠ n.b → g'.W = g.W + 1
  is : (r = 0 ∧ D'.full = true) ∨ NodeIs (lst g' D') n r
def NodePost (w : World) (o : Nat → Nat) (g : SG) (D : DG) (n : Nd) (e : Ending) (w' : World) : Prop :=
  ∃ r o' g' D', e = .returned (.int .i32 ((r : Nat) : Int)) ∧ NodeOut w o g D n r w' o' g' D'
theorem box_cells {B : Nat} {x y z : Value} {t : TypeId} {fr : Nat × Nat} (h : w.heap[B]? = some (.cells #[x, y, z] t fr)) : w.cell? ⟨B, 0, none⟩ = some x ∧ w.cell? ⟨B, 1, none⟩ = some y ∧ w.cell? ⟨B, 2, none⟩ = some z := by
  unfold World.cell?
  rw [h]
  exact ⟨rfl, rfl, rfl⟩
theorem works_wrap (n : Nat) : IntKind.u64.wrap (((n % 18446744073709551616 : Nat) : Int) + 1) = (((n + 1) % 18446744073709551616 : Nat) : Int) := by
  simp only [IntKind.wrap, IntKind.bits, IntKind.signed]
  simp
/-- One more that was looked for. -/
theorem StoreM.works (h : StoreM M w o g) : StoreM M (w.setCell ⟨g.s, 7, none⟩ (.int .u64 (IntKind.u64.wrap (((g.W % 18446744073709551616 : Nat) : Int) + 1)))) o { g with W := g.W + 1 } ∧ Keep (· == 1) w o (w.setCell ⟨g.s, 7, none⟩ (.int .u64 (IntKind.u64.wrap (((g.W % 18446744073709551616 : Nat) : Int) + 1)))) o := by
  rw [works_wrap]
  have hg := grown_set w ⟨g.s, 7, none⟩ (.int .u64 (((g.W + 1) % 18446744073709551616 : Nat) : Int))
  have hk : Keep (· == 1) w o (w.setCell ⟨g.s, 7, none⟩ (.int .u64 (((g.W + 1) % 18446744073709551616 : Nat) : Int))) o := Keep.grown hg (fun k e => by cases e; rw [h.os]; rfl) (fun _ _ => rfl)
  have ks : ∀ {k t' : Nat}, k < w.heap.size → o k = t' → t' ≠ 1 → (w.setCell ⟨g.s, 7, none⟩ (.int .u64 (((g.W + 1) % 18446744073709551616 : Nat) : Int))).heap[k]? = w.heap[k]? := fun {k t'} hk ho h1 => hg.block k hk (fun e => h1 (by cases e; rw [← ho, h.os]))
  exact ⟨⟨by rw [heap_set _ h.cells]; rfl, h.os, row_move h.row fun b hb => ks (h.row.lt b hb).2 (h.orow b hb) (by decide), h.orow, h.num0, fun b hb => by
    obtain ⟨h1, f, h2, h3⟩ := h.num b hb
    exact ⟨h1, f, h2.move (ks h2.lt h1 (by decide)), h3⟩, h.wf, h.bd, fun k hk => h.new k (Nat.le_trans hg.size hk)⟩, hk⟩
theorem DS.works (h : DS w o g D) : DS (w.setCell ⟨g.s, 7, none⟩ (.int .u64 (IntKind.u64.wrap (((g.W % 18446744073709551616 : Nat) : Int) + 1)))) o { g with W := g.W + 1 } D ∧ Keep (· == 1) w o (w.setCell ⟨g.s, 7, none⟩ (.int .u64 (IntKind.u64.wrap (((g.W % 18446744073709551616 : Nat) : Int) + 1)))) o := by
  obtain ⟨h1, h2⟩ := h.st.works
  exact ⟨⟨h1, (h.dr.keep h2 ⟨rfl, rfl, rfl⟩).of rfl rfl rfl⟩, h2⟩
theorem DS.num (h : DS w o g D) {mb : Nat} (h1 : StoreAt w' o' { g with num := some mb }) (h2 : Keep (· == 1) w o w' o') : DS w' o' { g with num := some mb } D := ⟨h1, (h.dr.keep h2 ⟨rfl, rfl, rfl⟩).of rfl rfl rfl⟩
/-- The draft is full. -/
theorem DS.setFull (h : DS w o g D) (hf : D.most ≤ D.ds.length) : DS (w.setCell ⟨D.d, 5, none⟩ (.bool true)) o g { D with full := true } ∧ Keep (· == 4) w o (w.setCell ⟨D.d, 5, none⟩ (.bool true)) o := by
  have hg := grown_set w ⟨D.d, 5, none⟩ (.bool true)
  have hk : Keep (· == 4) w o (w.setCell ⟨D.d, 5, none⟩ (.bool true)) o := Keep.grown hg (fun k e => by cases e; rw [h.dr.od]; rfl) (fun _ _ => rfl)
  have ks : ∀ {k t' : Nat}, k < w.heap.size → o k = t' → t' ≠ 4 → (w.setCell ⟨D.d, 5, none⟩ (.bool true)).heap[k]? = w.heap[k]? := fun {k t'} hk ho h1 => hg.block k hk (fun e => h1 (by cases e; rw [← ho, h.dr.od]))
  exact ⟨⟨h.st.keep hk ⟨rfl, rfl, rfl⟩ (fun b hb => h.st.new b (Nat.le_trans hg.size hb)), ⟨by rw [heap_set _ h.dr.cells]; rfl, h.dr.od, row_move h.dr.row fun b hb => ks (h.dr.row.lt b hb).2 (h.dr.orow b hb) (by decide), h.dr.orow, h.dr.om, by
    obtain ⟨f, h1, h2⟩ := h.dr.map
    exact ⟨f, h1.move (ks h1.lt h.dr.om (by decide)), h2⟩, h.dr.wf, h.dr.most, fun _ => hf⟩⟩, hk⟩
end

end Go.Proofs.Ytailpphafoamfaa
