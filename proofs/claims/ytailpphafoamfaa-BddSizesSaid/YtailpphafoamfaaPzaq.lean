/- An act: 1, 4, 5. An act: 6, 7. Which variables a diagram asks; when it may be renamed; what an act is true of: the mathematics. An act, of a store and of tables; an act that fits. -/
import Derived.Test.YtailpphafoamfaaPzap
set_option linter.all false
namespace Go.Proofs.Ytailpphafoamfaa
open Go Go.RowKit Go.Maps

set_option maxHeartbeats 8000000 in
set_option maxRecDepth 100000 in
theorem do1_any {w : World} {o : Nat → Nat} {g : SG} {lv vv : Value} {ls vs : List Nat} {A B C : Nat} (h : StoreAt w o g) (hV : g.V ≤ 6) (hl : NumsO w o lv (ls.map fun (x : Nat) => (x : Int))) (hb : ∀ x ∈ ls, x < g.ns.length) (hM1 : ls.length ≤ 1000) (hA : A < ls.length) (hB : B < ls.length) (hC : C < ls.length) :
    Calls Try.prog 25 #[.pointer (some ⟨g.s, 0, none⟩), .agg #[.int .i64 1, .int .i64 (A : Int), .int .i64 (B : Int), .int .i64 (C : Int), vv], lv] w (OpPost w o g (fun m => iteB (ev g.ns (ls.getD A 0) m) (ev g.ns (ls.getD B 0) m) (ev g.ns (ls.getD C 0) m)) 5000 0) := by
  obtain ⟨i0, hi0, hz0, hz1, hz2⟩ := info_parts info3
  have HV := Lib.hid hV
  have HH := Lib.hid h
  obtain ⟨M, hM⟩ : ∃ M, ls.length = M := ⟨_, rfl⟩
  rw [hM] at hA hB hC hM1
  have qM : (M : Int) ≤ 1000 := by omega
  obtain ⟨bl, ol, cl, rfl, hbl, hol, hcl⟩ := hl.at_ (N := M) (by rw [List.length_map]; exact hM) hA
  have HBL := Lib.hid hbl
  have HOL := Lib.hid hol
  obtain ⟨xA, hxA⟩ : ∃ x, ls.getD A 0 = x := ⟨_, rfl⟩
  have kA' := hcl A hA
  rw [getD_nat, hxA] at kA'
  have HKA := Lib.hid kA'
  have qA : (A : Int) < (M : Int) := by omega
  have HLA := Lib.hid (show xA < g.ns.length from by rw [← hxA, List.getD_eq_getElem?_getD, List.getElem?_eq_getElem (by omega)]; exact hb _ (List.getElem_mem _))
  obtain ⟨xB, hxB⟩ : ∃ x, ls.getD B 0 = x := ⟨_, rfl⟩
  have kB' := hcl B hB
  rw [getD_nat, hxB] at kB'
  have HKB := Lib.hid kB'
  have qB : (B : Int) < (M : Int) := by omega
  have HLB := Lib.hid (show xB < g.ns.length from by rw [← hxB, List.getD_eq_getElem?_getD, List.getElem?_eq_getElem (by omega)]; exact hb _ (List.getElem_mem _))
  obtain ⟨xC, hxC⟩ : ∃ x, ls.getD C 0 = x := ⟨_, rfl⟩
  have kC' := hcl C hC
  rw [getD_nat, hxC] at kC'
  have HKC := Lib.hid kC'
  have qC : (C : Int) < (M : Int) := by omega
  have HLC := Lib.hid (show xC < g.ns.length from by rw [← hxC, List.getD_eq_getElem?_getD, List.getElem?_eq_getElem (by omega)]; exact hb _ (List.getElem_mem _))
  rw [hxA, hxB, hxC]
  clear hcl hl hb hbl hol hM hM1 hV hA kA' hxA hB kB' hxB hC kC' hxC
  go_enter Try.func25, Try.ntmps25
  obtain ⟨wb, hwb⟩ : ∃ wb, w.alloc (.cells #[.int .i64 1, .int .i64 (A : Int), .int .i64 (B : Int), .int .i64 (C : Int), vv] 51) = wb := ⟨_, rfl⟩
  have HWB := Lib.hid (show w.grownBy wb none from by rw [← hwb]; exact grown_alloc _ _)
  have HSB := Lib.hid (show StoreAt wb o g from by rw [← hwb]; exact h.alloc _)
  obtain ⟨bx, hbx⟩ : ∃ bx, w.heap.size = bx := ⟨_, rfl⟩
  have HC := Lib.hid (show wb.heap[bx]? = some (.cells #[.int .i64 1, .int .i64 (A : Int), .int .i64 (B : Int), .int .i64 (C : Int), vv] 51 (0, 0)) from by rw [← hwb, ← hbx]; exact (MapKept.heap_alloc w _).1)
  have HOX := Lib.hid (show o bx = 0 from h.new _ (by omega))
  have x0 : wb.cell? ⟨bx, 0, none⟩ = some (.int .i64 1) := (cell_of HC.out).trans rfl
  have x1 : wb.cell? ⟨bx, 1, none⟩ = some (.int .i64 (A : Int)) := (cell_of HC.out).trans rfl
  have x2 : wb.cell? ⟨bx, 2, none⟩ = some (.int .i64 (B : Int)) := (cell_of HC.out).trans rfl
  have x3 : wb.cell? ⟨bx, 3, none⟩ = some (.int .i64 (C : Int)) := (cell_of HC.out).trans rfl
  have x4 : wb.cell? ⟨bx, 4, none⟩ = some vv := (cell_of HC.out).trans rfl
  have kA := (World.cell?_of_block (a := ⟨bl, ol + A, none⟩) (grown_far HWB.out HBL.out)).trans HKA.out
  have kB := (World.cell?_of_block (a := ⟨bl, ol + B, none⟩) (grown_far HWB.out HBL.out)).trans HKB.out
  have kC := (World.cell?_of_block (a := ⟨bl, ol + C, none⟩) (grown_far HWB.out HBL.out)).trans HKC.out
  clear h
  have HSD := Lib.hid HSB.out.drew
  have HLT := Lib.hid (show ∀ k ∈ [bx, bl], k < (World.drew wb).heap.size ∧ o k = 0 from fun k hk => by
    simp at hk
    rcases hk with rfl | rfl
    · exact ⟨(Array.getElem?_eq_some_iff.1 HC.out).1, HOX.out⟩
    · exact ⟨Nat.lt_of_lt_of_le HBL.out HWB.out.size, HOL.out⟩)
  have HCALL := Lib.hid (ite_any HSD.out (xA : Int) (xB : Int) (xC : Int))
  go_wp2
  refine wp_region_T (S := fun w' => ∀ k ∈ [bx, bl], w'.heap[k]? = wb.heap[k]?) (tail := fun _ => false) (by kernel_rfl) ?_
  change wpAnyT _ _ _ _ _ _ _ _ _ (World.drew wb)
  have BD := Lib.hid (show ∀ k ∈ [bx, bl], (World.drew wb).heap[k]? = wb.heap[k]? from fun _ _ => rfl)
  refine tk 0 20 (.pointer (some ⟨g.s, 0, none⟩)) BD.out ?y0 ?_
  case y0 =>
    intro w' hw'
    go_simp
  try simp only [Act.put, List.setIfInBounds_toArray, List.set_cons_zero, List.set_cons_succ]
  refine tk 1 21 (.slice (some ⟨bl, ol, none⟩) M cl) BD.out ?y1 ?_
  case y1 =>
    intro w' hw'
    go_simp
  try simp only [Act.put, List.setIfInBounds_toArray, List.set_cons_zero, List.set_cons_succ]
  refine tk 2 22 (.pointer (some ⟨bx, 1, none⟩)) BD.out ?y2 ?_
  case y2 =>
    intro w' hw'
    go_simp
  try simp only [Act.put, List.setIfInBounds_toArray, List.set_cons_zero, List.set_cons_succ]
  refine tk 3 23 (.int .i64 (A : Int)) BD.out ?y3 ?_
  case y3 =>
    intro w' hw'
    have z0 := (World.cell?_of_block (a := ⟨bx, 1, none⟩) (hw' bx (by simp))).trans x1
    go_simp
  try simp only [Act.put, List.setIfInBounds_toArray, List.set_cons_zero, List.set_cons_succ]
  refine tk 4 24 (.pointer (some ⟨bl, ol + A, none⟩)) BD.out ?y4 ?_
  case y4 =>
    intro w' hw'
    go_simp
  try simp only [Act.put, List.setIfInBounds_toArray, List.set_cons_zero, List.set_cons_succ]
  refine tk 5 25 (.int .i64 (xA : Int)) BD.out ?y5 ?_
  case y5 =>
    intro w' hw'
    have z0 := (World.cell?_of_block (a := ⟨bl, ol + A, none⟩) (hw' bl (by simp))).trans kA
    go_simp
  try simp only [Act.put, List.setIfInBounds_toArray, List.set_cons_zero, List.set_cons_succ]
  refine tk 6 26 (.slice (some ⟨bl, ol, none⟩) M cl) BD.out ?y6 ?_
  case y6 =>
    intro w' hw'
    go_simp
  try simp only [Act.put, List.setIfInBounds_toArray, List.set_cons_zero, List.set_cons_succ]
  refine tk 7 27 (.pointer (some ⟨bx, 2, none⟩)) BD.out ?y7 ?_
  case y7 =>
    intro w' hw'
    go_simp
  try simp only [Act.put, List.setIfInBounds_toArray, List.set_cons_zero, List.set_cons_succ]
  refine tk 8 28 (.int .i64 (B : Int)) BD.out ?y8 ?_
  case y8 =>
    intro w' hw'
    have z0 := (World.cell?_of_block (a := ⟨bx, 2, none⟩) (hw' bx (by simp))).trans x2
    go_simp
  try simp only [Act.put, List.setIfInBounds_toArray, List.set_cons_zero, List.set_cons_succ]
  refine tk 9 29 (.pointer (some ⟨bl, ol + B, none⟩)) BD.out ?y9 ?_
  case y9 =>
    intro w' hw'
    go_simp
  try simp only [Act.put, List.setIfInBounds_toArray, List.set_cons_zero, List.set_cons_succ]
  refine tk 10 30 (.int .i64 (xB : Int)) BD.out ?y10 ?_
  case y10 =>
    intro w' hw'
    have z0 := (World.cell?_of_block (a := ⟨bl, ol + B, none⟩) (hw' bl (by simp))).trans kB
    go_simp
  try simp only [Act.put, List.setIfInBounds_toArray, List.set_cons_zero, List.set_cons_succ]
  refine tk 11 31 (.slice (some ⟨bl, ol, none⟩) M cl) BD.out ?y11 ?_
  case y11 =>
    intro w' hw'
    go_simp
  try simp only [Act.put, List.setIfInBounds_toArray, List.set_cons_zero, List.set_cons_succ]
  refine tk 12 32 (.pointer (some ⟨bx, 3, none⟩)) BD.out ?y12 ?_
  case y12 =>
    intro w' hw'
    go_simp
  try simp only [Act.put, List.setIfInBounds_toArray, List.set_cons_zero, List.set_cons_succ]
  refine tk 13 33 (.int .i64 (C : Int)) BD.out ?y13 ?_
  case y13 =>
    intro w' hw'
    have z0 := (World.cell?_of_block (a := ⟨bx, 3, none⟩) (hw' bx (by simp))).trans x3
    go_simp
  try simp only [Act.put, List.setIfInBounds_toArray, List.set_cons_zero, List.set_cons_succ]
  refine tk 14 34 (.pointer (some ⟨bl, ol + C, none⟩)) BD.out ?y14 ?_
  case y14 =>
    intro w' hw'
    go_simp
  try simp only [Act.put, List.setIfInBounds_toArray, List.set_cons_zero, List.set_cons_succ]
  refine tk 15 35 (.int .i64 (xC : Int)) BD.out ?y15 ?_
  case y15 =>
    intro w' hw'
    have z0 := (World.cell?_of_block (a := ⟨bl, ol + C, none⟩) (hw' bl (by simp))).trans kC
    go_simp
  try simp only [Act.put, List.setIfInBounds_toArray, List.set_cons_zero, List.set_cons_succ]
  refine on 16 (fun K hK => ?_)
  go_simp
  refine (HCALL.out).mono ?_
  intro e z1 hp
  have hop0 := c_ite HV.out HLA.out HLB.out HLC.out hp
  have B1 := Lib.hid (show ∀ k ∈ [bx, bl], z1.heap[k]? = wb.heap[k]? from fun k hk => hop0.stay (HLT.out k hk).1 (HLT.out k hk).2)
  have hop := OpPost.from_ ((keep_none T0 o HWB.out).trans (keep_drew T0 wb o)) hop0
  have HFIN := Lib.hid hop
  obtain ⟨z0, zz, rfl⟩ := hop.form
  clear hp hop hop0
  refine hK.out _ _ (fun _ => B1.out) ?_
  clear hK K
  try simp only [Act.put, List.setIfInBounds_toArray, List.set_cons_zero, List.set_cons_succ]
  refine tk 17 37 (.int .i64 z0) B1.out ?y17 ?_
  case y17 =>
    intro w' hw'
    go_simp
  try simp only [Act.put, List.setIfInBounds_toArray, List.set_cons_zero, List.set_cons_succ]
  refine tk 18 38 (.int .i64 zz) B1.out ?y18 ?_
  case y18 =>
    intro w' hw'
    go_simp
  try simp only [Act.put, List.setIfInBounds_toArray, List.set_cons_zero, List.set_cons_succ]
  refine tk 19 6 (.int .i64 z0) B1.out ?y19 ?_
  case y19 =>
    intro w' hw'
    go_simp
  try simp only [Act.put, List.setIfInBounds_toArray, List.set_cons_zero, List.set_cons_succ]
  refine tk 20 7 (.int .i64 zz) B1.out ?y20 ?_
  case y20 =>
    intro w' hw'
    go_simp
  try simp only [Act.put, List.setIfInBounds_toArray, List.set_cons_zero, List.set_cons_succ]
  refine dn ?_
  go_wp2
  go_ret2
  exact HFIN.out
set_option maxHeartbeats 8000000 in
set_option maxRecDepth 100000 in
theorem do4_any {w : World} {o : Nat → Nat} {g : SG} {lv vv : Value} {ls vs : List Nat} {A B C : Nat} (h : StoreAt w o g) (hV : g.V ≤ 6) (hl : NumsO w o lv (ls.map fun (x : Nat) => (x : Int))) (hb : ∀ x ∈ ls, x < g.ns.length) (hM1 : ls.length ≤ 1000) (hA : A < ls.length) (hB : B < ls.length) :
    Calls Try.prog 25 #[.pointer (some ⟨g.s, 0, none⟩), .agg #[.int .i64 4, .int .i64 (A : Int), .int .i64 (B : Int), .int .i64 (C : Int), vv], lv] w (OpPost w o g (fun m => ev g.ns (ls.getD A 0) m || ev g.ns (ls.getD B 0) m) 5000 0) := by
  obtain ⟨i0, hi0, hz0, hz1, hz2⟩ := info_parts info3
  have HV := Lib.hid hV
  have HH := Lib.hid h
  obtain ⟨M, hM⟩ : ∃ M, ls.length = M := ⟨_, rfl⟩
  rw [hM] at hA hB hM1
  have qM : (M : Int) ≤ 1000 := by omega
  obtain ⟨bl, ol, cl, rfl, hbl, hol, hcl⟩ := hl.at_ (N := M) (by rw [List.length_map]; exact hM) hA
  have HBL := Lib.hid hbl
  have HOL := Lib.hid hol
  obtain ⟨xA, hxA⟩ : ∃ x, ls.getD A 0 = x := ⟨_, rfl⟩
  have kA' := hcl A hA
  rw [getD_nat, hxA] at kA'
  have HKA := Lib.hid kA'
  have qA : (A : Int) < (M : Int) := by omega
  have HLA := Lib.hid (show xA < g.ns.length from by rw [← hxA, List.getD_eq_getElem?_getD, List.getElem?_eq_getElem (by omega)]; exact hb _ (List.getElem_mem _))
  obtain ⟨xB, hxB⟩ : ∃ x, ls.getD B 0 = x := ⟨_, rfl⟩
  have kB' := hcl B hB
  rw [getD_nat, hxB] at kB'
  have HKB := Lib.hid kB'
  have qB : (B : Int) < (M : Int) := by omega
  have HLB := Lib.hid (show xB < g.ns.length from by rw [← hxB, List.getD_eq_getElem?_getD, List.getElem?_eq_getElem (by omega)]; exact hb _ (List.getElem_mem _))
  rw [hxA, hxB]
  clear hcl hl hb hbl hol hM hM1 hV hA kA' hxA hB kB' hxB
  go_enter Try.func25, Try.ntmps25
  obtain ⟨wb, hwb⟩ : ∃ wb, w.alloc (.cells #[.int .i64 4, .int .i64 (A : Int), .int .i64 (B : Int), .int .i64 (C : Int), vv] 51) = wb := ⟨_, rfl⟩
  have HWB := Lib.hid (show w.grownBy wb none from by rw [← hwb]; exact grown_alloc _ _)
  have HSB := Lib.hid (show StoreAt wb o g from by rw [← hwb]; exact h.alloc _)
  obtain ⟨bx, hbx⟩ : ∃ bx, w.heap.size = bx := ⟨_, rfl⟩
  have HC := Lib.hid (show wb.heap[bx]? = some (.cells #[.int .i64 4, .int .i64 (A : Int), .int .i64 (B : Int), .int .i64 (C : Int), vv] 51 (0, 0)) from by rw [← hwb, ← hbx]; exact (MapKept.heap_alloc w _).1)
  have HOX := Lib.hid (show o bx = 0 from h.new _ (by omega))
  have x0 : wb.cell? ⟨bx, 0, none⟩ = some (.int .i64 4) := (cell_of HC.out).trans rfl
  have x1 : wb.cell? ⟨bx, 1, none⟩ = some (.int .i64 (A : Int)) := (cell_of HC.out).trans rfl
  have x2 : wb.cell? ⟨bx, 2, none⟩ = some (.int .i64 (B : Int)) := (cell_of HC.out).trans rfl
  have x3 : wb.cell? ⟨bx, 3, none⟩ = some (.int .i64 (C : Int)) := (cell_of HC.out).trans rfl
  have x4 : wb.cell? ⟨bx, 4, none⟩ = some vv := (cell_of HC.out).trans rfl
  have kA := (World.cell?_of_block (a := ⟨bl, ol + A, none⟩) (grown_far HWB.out HBL.out)).trans HKA.out
  have kB := (World.cell?_of_block (a := ⟨bl, ol + B, none⟩) (grown_far HWB.out HBL.out)).trans HKB.out
  clear h
  have HSD := Lib.hid HSB.out.drew
  have HLT := Lib.hid (show ∀ k ∈ [bx, bl], k < (World.drew wb).heap.size ∧ o k = 0 from fun k hk => by
    simp at hk
    rcases hk with rfl | rfl
    · exact ⟨(Array.getElem?_eq_some_iff.1 HC.out).1, HOX.out⟩
    · exact ⟨Nat.lt_of_lt_of_le HBL.out HWB.out.size, HOL.out⟩)
  have HCALL := Lib.hid (or_any HSD.out (xA : Int) (xB : Int))
  go_wp2
  refine wp_region_T (S := fun w' => ∀ k ∈ [bx, bl], w'.heap[k]? = wb.heap[k]?) (tail := fun _ => false) (by kernel_rfl) ?_
  change wpAnyT _ _ _ _ _ _ _ _ _ (World.drew wb)
  have BD := Lib.hid (show ∀ k ∈ [bx, bl], (World.drew wb).heap[k]? = wb.heap[k]? from fun _ _ => rfl)
  refine tk 0 68 (.pointer (some ⟨g.s, 0, none⟩)) BD.out ?y0 ?_
  case y0 =>
    intro w' hw'
    go_simp
  try simp only [Act.put, List.setIfInBounds_toArray, List.set_cons_zero, List.set_cons_succ]
  refine tk 1 69 (.slice (some ⟨bl, ol, none⟩) M cl) BD.out ?y1 ?_
  case y1 =>
    intro w' hw'
    go_simp
  try simp only [Act.put, List.setIfInBounds_toArray, List.set_cons_zero, List.set_cons_succ]
  refine tk 2 70 (.pointer (some ⟨bx, 1, none⟩)) BD.out ?y2 ?_
  case y2 =>
    intro w' hw'
    go_simp
  try simp only [Act.put, List.setIfInBounds_toArray, List.set_cons_zero, List.set_cons_succ]
  refine tk 3 71 (.int .i64 (A : Int)) BD.out ?y3 ?_
  case y3 =>
    intro w' hw'
    have z0 := (World.cell?_of_block (a := ⟨bx, 1, none⟩) (hw' bx (by simp))).trans x1
    go_simp
  try simp only [Act.put, List.setIfInBounds_toArray, List.set_cons_zero, List.set_cons_succ]
  refine tk 4 72 (.pointer (some ⟨bl, ol + A, none⟩)) BD.out ?y4 ?_
  case y4 =>
    intro w' hw'
    go_simp
  try simp only [Act.put, List.setIfInBounds_toArray, List.set_cons_zero, List.set_cons_succ]
  refine tk 5 73 (.int .i64 (xA : Int)) BD.out ?y5 ?_
  case y5 =>
    intro w' hw'
    have z0 := (World.cell?_of_block (a := ⟨bl, ol + A, none⟩) (hw' bl (by simp))).trans kA
    go_simp
  try simp only [Act.put, List.setIfInBounds_toArray, List.set_cons_zero, List.set_cons_succ]
  refine tk 6 74 (.slice (some ⟨bl, ol, none⟩) M cl) BD.out ?y6 ?_
  case y6 =>
    intro w' hw'
    go_simp
  try simp only [Act.put, List.setIfInBounds_toArray, List.set_cons_zero, List.set_cons_succ]
  refine tk 7 75 (.pointer (some ⟨bx, 2, none⟩)) BD.out ?y7 ?_
  case y7 =>
    intro w' hw'
    go_simp
  try simp only [Act.put, List.setIfInBounds_toArray, List.set_cons_zero, List.set_cons_succ]
  refine tk 8 76 (.int .i64 (B : Int)) BD.out ?y8 ?_
  case y8 =>
    intro w' hw'
    have z0 := (World.cell?_of_block (a := ⟨bx, 2, none⟩) (hw' bx (by simp))).trans x2
    go_simp
  try simp only [Act.put, List.setIfInBounds_toArray, List.set_cons_zero, List.set_cons_succ]
  refine tk 9 77 (.pointer (some ⟨bl, ol + B, none⟩)) BD.out ?y9 ?_
  case y9 =>
    intro w' hw'
    go_simp
  try simp only [Act.put, List.setIfInBounds_toArray, List.set_cons_zero, List.set_cons_succ]
  refine tk 10 78 (.int .i64 (xB : Int)) BD.out ?y10 ?_
  case y10 =>
    intro w' hw'
    have z0 := (World.cell?_of_block (a := ⟨bl, ol + B, none⟩) (hw' bl (by simp))).trans kB
    go_simp
  try simp only [Act.put, List.setIfInBounds_toArray, List.set_cons_zero, List.set_cons_succ]
  refine on 11 (fun K hK => ?_)
  go_simp
  refine (HCALL.out).mono ?_
  intro e z1 hp
  have hop0 := c_or HSD.out.wf HV.out HLA.out HLB.out hp
  have B1 := Lib.hid (show ∀ k ∈ [bx, bl], z1.heap[k]? = wb.heap[k]? from fun k hk => hop0.stay (HLT.out k hk).1 (HLT.out k hk).2)
  have hop := OpPost.from_ ((keep_none T0 o HWB.out).trans (keep_drew T0 wb o)) hop0
  have HFIN := Lib.hid hop
  obtain ⟨z0, zz, rfl⟩ := hop.form
  clear hp hop hop0
  refine hK.out _ _ (fun _ => B1.out) ?_
  clear hK K
  try simp only [Act.put, List.setIfInBounds_toArray, List.set_cons_zero, List.set_cons_succ]
  refine tk 12 80 (.int .i64 z0) B1.out ?y12 ?_
  case y12 =>
    intro w' hw'
    go_simp
  try simp only [Act.put, List.setIfInBounds_toArray, List.set_cons_zero, List.set_cons_succ]
  refine tk 13 81 (.int .i64 zz) B1.out ?y13 ?_
  case y13 =>
    intro w' hw'
    go_simp
  try simp only [Act.put, List.setIfInBounds_toArray, List.set_cons_zero, List.set_cons_succ]
  refine tk 14 6 (.int .i64 z0) B1.out ?y14 ?_
  case y14 =>
    intro w' hw'
    go_simp
  try simp only [Act.put, List.setIfInBounds_toArray, List.set_cons_zero, List.set_cons_succ]
  refine tk 15 7 (.int .i64 zz) B1.out ?y15 ?_
  case y15 =>
    intro w' hw'
    go_simp
  try simp only [Act.put, List.setIfInBounds_toArray, List.set_cons_zero, List.set_cons_succ]
  refine dn ?_
  go_wp2
  go_ret2
  exact HFIN.out
set_option maxHeartbeats 8000000 in
set_option maxRecDepth 100000 in
theorem do5_any {w : World} {o : Nat → Nat} {g : SG} {lv vv : Value} {ls vs : List Nat} {A B C : Nat} (h : StoreAt w o g) (hV : g.V ≤ 6) (hl : NumsO w o lv (ls.map fun (x : Nat) => (x : Int))) (hb : ∀ x ∈ ls, x < g.ns.length) (hM1 : ls.length ≤ 1000) (hA : A < ls.length) (hB : B < ls.length) :
    Calls Try.prog 25 #[.pointer (some ⟨g.s, 0, none⟩), .agg #[.int .i64 5, .int .i64 (A : Int), .int .i64 (B : Int), .int .i64 (C : Int), vv], lv] w (OpPost w o g (fun m => ev g.ns (ls.getD A 0) m == ev g.ns (ls.getD B 0) m) 5000 0) := by
  obtain ⟨i0, hi0, hz0, hz1, hz2⟩ := info_parts info3
  have HV := Lib.hid hV
  have HH := Lib.hid h
  obtain ⟨M, hM⟩ : ∃ M, ls.length = M := ⟨_, rfl⟩
  rw [hM] at hA hB hM1
  have qM : (M : Int) ≤ 1000 := by omega
  obtain ⟨bl, ol, cl, rfl, hbl, hol, hcl⟩ := hl.at_ (N := M) (by rw [List.length_map]; exact hM) hA
  have HBL := Lib.hid hbl
  have HOL := Lib.hid hol
  obtain ⟨xA, hxA⟩ : ∃ x, ls.getD A 0 = x := ⟨_, rfl⟩
  have kA' := hcl A hA
  rw [getD_nat, hxA] at kA'
  have HKA := Lib.hid kA'
  have qA : (A : Int) < (M : Int) := by omega
  have HLA := Lib.hid (show xA < g.ns.length from by rw [← hxA, List.getD_eq_getElem?_getD, List.getElem?_eq_getElem (by omega)]; exact hb _ (List.getElem_mem _))
  obtain ⟨xB, hxB⟩ : ∃ x, ls.getD B 0 = x := ⟨_, rfl⟩
  have kB' := hcl B hB
  rw [getD_nat, hxB] at kB'
  have HKB := Lib.hid kB'
  have qB : (B : Int) < (M : Int) := by omega
  have HLB := Lib.hid (show xB < g.ns.length from by rw [← hxB, List.getD_eq_getElem?_getD, List.getElem?_eq_getElem (by omega)]; exact hb _ (List.getElem_mem _))
  rw [hxA, hxB]
  clear hcl hl hb hbl hol hM hM1 hV hA kA' hxA hB kB' hxB
  go_enter Try.func25, Try.ntmps25
  obtain ⟨wb, hwb⟩ : ∃ wb, w.alloc (.cells #[.int .i64 5, .int .i64 (A : Int), .int .i64 (B : Int), .int .i64 (C : Int), vv] 51) = wb := ⟨_, rfl⟩
  have HWB := Lib.hid (show w.grownBy wb none from by rw [← hwb]; exact grown_alloc _ _)
  have HSB := Lib.hid (show StoreAt wb o g from by rw [← hwb]; exact h.alloc _)
  obtain ⟨bx, hbx⟩ : ∃ bx, w.heap.size = bx := ⟨_, rfl⟩
  have HC := Lib.hid (show wb.heap[bx]? = some (.cells #[.int .i64 5, .int .i64 (A : Int), .int .i64 (B : Int), .int .i64 (C : Int), vv] 51 (0, 0)) from by rw [← hwb, ← hbx]; exact (MapKept.heap_alloc w _).1)
  have HOX := Lib.hid (show o bx = 0 from h.new _ (by omega))
  have x0 : wb.cell? ⟨bx, 0, none⟩ = some (.int .i64 5) := (cell_of HC.out).trans rfl
  have x1 : wb.cell? ⟨bx, 1, none⟩ = some (.int .i64 (A : Int)) := (cell_of HC.out).trans rfl
  have x2 : wb.cell? ⟨bx, 2, none⟩ = some (.int .i64 (B : Int)) := (cell_of HC.out).trans rfl
  have x3 : wb.cell? ⟨bx, 3, none⟩ = some (.int .i64 (C : Int)) := (cell_of HC.out).trans rfl
  have x4 : wb.cell? ⟨bx, 4, none⟩ = some vv := (cell_of HC.out).trans rfl
  have kA := (World.cell?_of_block (a := ⟨bl, ol + A, none⟩) (grown_far HWB.out HBL.out)).trans HKA.out
  have kB := (World.cell?_of_block (a := ⟨bl, ol + B, none⟩) (grown_far HWB.out HBL.out)).trans HKB.out
  clear h
  have HSD := Lib.hid HSB.out.drew
  have HLT := Lib.hid (show ∀ k ∈ [bx, bl], k < (World.drew wb).heap.size ∧ o k = 0 from fun k hk => by
    simp at hk
    rcases hk with rfl | rfl
    · exact ⟨(Array.getElem?_eq_some_iff.1 HC.out).1, HOX.out⟩
    · exact ⟨Nat.lt_of_lt_of_le HBL.out HWB.out.size, HOL.out⟩)
  have HCALL := Lib.hid (iff_any HSD.out (xA : Int) (xB : Int))
  go_wp2
  refine wp_region_T (S := fun w' => ∀ k ∈ [bx, bl], w'.heap[k]? = wb.heap[k]?) (tail := fun _ => false) (by kernel_rfl) ?_
  change wpAnyT _ _ _ _ _ _ _ _ _ (World.drew wb)
  have BD := Lib.hid (show ∀ k ∈ [bx, bl], (World.drew wb).heap[k]? = wb.heap[k]? from fun _ _ => rfl)
  refine tk 0 84 (.pointer (some ⟨g.s, 0, none⟩)) BD.out ?y0 ?_
  case y0 =>
    intro w' hw'
    go_simp
  try simp only [Act.put, List.setIfInBounds_toArray, List.set_cons_zero, List.set_cons_succ]
  refine tk 1 85 (.slice (some ⟨bl, ol, none⟩) M cl) BD.out ?y1 ?_
  case y1 =>
    intro w' hw'
    go_simp
  try simp only [Act.put, List.setIfInBounds_toArray, List.set_cons_zero, List.set_cons_succ]
  refine tk 2 86 (.pointer (some ⟨bx, 1, none⟩)) BD.out ?y2 ?_
  case y2 =>
    intro w' hw'
    go_simp
  try simp only [Act.put, List.setIfInBounds_toArray, List.set_cons_zero, List.set_cons_succ]
  refine tk 3 87 (.int .i64 (A : Int)) BD.out ?y3 ?_
  case y3 =>
    intro w' hw'
    have z0 := (World.cell?_of_block (a := ⟨bx, 1, none⟩) (hw' bx (by simp))).trans x1
    go_simp
  try simp only [Act.put, List.setIfInBounds_toArray, List.set_cons_zero, List.set_cons_succ]
  refine tk 4 88 (.pointer (some ⟨bl, ol + A, none⟩)) BD.out ?y4 ?_
  case y4 =>
    intro w' hw'
    go_simp
  try simp only [Act.put, List.setIfInBounds_toArray, List.set_cons_zero, List.set_cons_succ]
  refine tk 5 89 (.int .i64 (xA : Int)) BD.out ?y5 ?_
  case y5 =>
    intro w' hw'
    have z0 := (World.cell?_of_block (a := ⟨bl, ol + A, none⟩) (hw' bl (by simp))).trans kA
    go_simp
  try simp only [Act.put, List.setIfInBounds_toArray, List.set_cons_zero, List.set_cons_succ]
  refine tk 6 90 (.slice (some ⟨bl, ol, none⟩) M cl) BD.out ?y6 ?_
  case y6 =>
    intro w' hw'
    go_simp
  try simp only [Act.put, List.setIfInBounds_toArray, List.set_cons_zero, List.set_cons_succ]
  refine tk 7 91 (.pointer (some ⟨bx, 2, none⟩)) BD.out ?y7 ?_
  case y7 =>
    intro w' hw'
    go_simp
  try simp only [Act.put, List.setIfInBounds_toArray, List.set_cons_zero, List.set_cons_succ]
  refine tk 8 92 (.int .i64 (B : Int)) BD.out ?y8 ?_
  case y8 =>
    intro w' hw'
    have z0 := (World.cell?_of_block (a := ⟨bx, 2, none⟩) (hw' bx (by simp))).trans x2
    go_simp
  try simp only [Act.put, List.setIfInBounds_toArray, List.set_cons_zero, List.set_cons_succ]
  refine tk 9 93 (.pointer (some ⟨bl, ol + B, none⟩)) BD.out ?y9 ?_
  case y9 =>
    intro w' hw'
    go_simp
  try simp only [Act.put, List.setIfInBounds_toArray, List.set_cons_zero, List.set_cons_succ]
  refine tk 10 94 (.int .i64 (xB : Int)) BD.out ?y10 ?_
  case y10 =>
    intro w' hw'
    have z0 := (World.cell?_of_block (a := ⟨bl, ol + B, none⟩) (hw' bl (by simp))).trans kB
    go_simp
  try simp only [Act.put, List.setIfInBounds_toArray, List.set_cons_zero, List.set_cons_succ]
  refine on 11 (fun K hK => ?_)
  go_simp
  refine (HCALL.out).mono ?_
  intro e z1 hp
  have hop0 := c_iff HV.out HLA.out HLB.out hp
  have B1 := Lib.hid (show ∀ k ∈ [bx, bl], z1.heap[k]? = wb.heap[k]? from fun k hk => hop0.stay (HLT.out k hk).1 (HLT.out k hk).2)
  have hop := OpPost.from_ ((keep_none T0 o HWB.out).trans (keep_drew T0 wb o)) hop0
  have HFIN := Lib.hid hop
  obtain ⟨z0, zz, rfl⟩ := hop.form
  clear hp hop hop0
  refine hK.out _ _ (fun _ => B1.out) ?_
  clear hK K
  try simp only [Act.put, List.setIfInBounds_toArray, List.set_cons_zero, List.set_cons_succ]
  refine tk 12 96 (.int .i64 z0) B1.out ?y12 ?_
  case y12 =>
    intro w' hw'
    go_simp
  try simp only [Act.put, List.setIfInBounds_toArray, List.set_cons_zero, List.set_cons_succ]
  refine tk 13 97 (.int .i64 zz) B1.out ?y13 ?_
  case y13 =>
    intro w' hw'
    go_simp
  try simp only [Act.put, List.setIfInBounds_toArray, List.set_cons_zero, List.set_cons_succ]
  refine tk 14 6 (.int .i64 z0) B1.out ?y14 ?_
  case y14 =>
    intro w' hw'
    go_simp
  try simp only [Act.put, List.setIfInBounds_toArray, List.set_cons_zero, List.set_cons_succ]
  refine tk 15 7 (.int .i64 zz) B1.out ?y15 ?_
  case y15 =>
    intro w' hw'
    go_simp
  try simp only [Act.put, List.setIfInBounds_toArray, List.set_cons_zero, List.set_cons_succ]
  refine dn ?_
  go_wp2
  go_ret2
  exact HFIN.out

end Go.Proofs.Ytailpphafoamfaa
namespace Go.Proofs.Ytailpphafoamfaa
open Go Go.RowKit Go.Maps

set_option maxHeartbeats 8000000 in
set_option maxRecDepth 100000 in
theorem do6_any {w : World} {o : Nat → Nat} {g : SG} {lv vv : Value} {ls vs : List Nat} {A B C : Nat} (h : StoreAt w o g) (hV : g.V ≤ 6) (hl : NumsO w o lv (ls.map fun (x : Nat) => (x : Int))) (hb : ∀ x ∈ ls, x < g.ns.length) (hM1 : ls.length ≤ 1000) (hA : A < ls.length) (hv : Nums w vv (vs.map fun (x : Nat) => (x : Int))) (hvn : vs.length ≤ 1000) (hvs : ∀ v ∈ vs, v < g.V) :
    Calls Try.prog 25 #[.pointer (some ⟨g.s, 0, none⟩), .agg #[.int .i64 6, .int .i64 (A : Int), .int .i64 (B : Int), .int .i64 (C : Int), vv], lv] w (OpPost w o g (vs.foldl ex1 (ev g.ns (ls.getD A 0))) 5000 0) := by
  obtain ⟨i0, hi0, hz0, hz1, hz2⟩ := info_parts info3
  have HV := Lib.hid hV
  have HH := Lib.hid h
  obtain ⟨M, hM⟩ : ∃ M, ls.length = M := ⟨_, rfl⟩
  rw [hM] at hA hM1
  have qM : (M : Int) ≤ 1000 := by omega
  obtain ⟨bl, ol, cl, rfl, hbl, hol, hcl⟩ := hl.at_ (N := M) (by rw [List.length_map]; exact hM) hA
  have HBL := Lib.hid hbl
  have HOL := Lib.hid hol
  obtain ⟨xA, hxA⟩ : ∃ x, ls.getD A 0 = x := ⟨_, rfl⟩
  have kA' := hcl A hA
  rw [getD_nat, hxA] at kA'
  have HKA := Lib.hid kA'
  have qA : (A : Int) < (M : Int) := by omega
  have HLA := Lib.hid (show xA < g.ns.length from by rw [← hxA, List.getD_eq_getElem?_getD, List.getElem?_eq_getElem (by omega)]; exact hb _ (List.getElem_mem _))
  rw [hxA]
  clear hcl hl hb hbl hol hM hM1 hV hA kA' hxA
  have HVV := Lib.hid hv
  have HVN := Lib.hid hvn
  clear hv hvn
  have HVS := Lib.hid hvs
  clear hvs
  go_enter Try.func25, Try.ntmps25
  obtain ⟨wb, hwb⟩ : ∃ wb, w.alloc (.cells #[.int .i64 6, .int .i64 (A : Int), .int .i64 (B : Int), .int .i64 (C : Int), vv] 51) = wb := ⟨_, rfl⟩
  have HWB := Lib.hid (show w.grownBy wb none from by rw [← hwb]; exact grown_alloc _ _)
  have HSB := Lib.hid (show StoreAt wb o g from by rw [← hwb]; exact h.alloc _)
  obtain ⟨bx, hbx⟩ : ∃ bx, w.heap.size = bx := ⟨_, rfl⟩
  have HC := Lib.hid (show wb.heap[bx]? = some (.cells #[.int .i64 6, .int .i64 (A : Int), .int .i64 (B : Int), .int .i64 (C : Int), vv] 51 (0, 0)) from by rw [← hwb, ← hbx]; exact (MapKept.heap_alloc w _).1)
  have HOX := Lib.hid (show o bx = 0 from h.new _ (by omega))
  have x0 : wb.cell? ⟨bx, 0, none⟩ = some (.int .i64 6) := (cell_of HC.out).trans rfl
  have x1 : wb.cell? ⟨bx, 1, none⟩ = some (.int .i64 (A : Int)) := (cell_of HC.out).trans rfl
  have x2 : wb.cell? ⟨bx, 2, none⟩ = some (.int .i64 (B : Int)) := (cell_of HC.out).trans rfl
  have x3 : wb.cell? ⟨bx, 3, none⟩ = some (.int .i64 (C : Int)) := (cell_of HC.out).trans rfl
  have x4 : wb.cell? ⟨bx, 4, none⟩ = some vv := (cell_of HC.out).trans rfl
  have kA := (World.cell?_of_block (a := ⟨bl, ol + A, none⟩) (grown_far HWB.out HBL.out)).trans HKA.out
  clear h
  have HSD := Lib.hid HSB.out.drew
  have HLT := Lib.hid (show ∀ k ∈ [bx, bl], k < (World.drew wb).heap.size ∧ o k = 0 from fun k hk => by
    simp at hk
    rcases hk with rfl | rfl
    · exact ⟨(Array.getElem?_eq_some_iff.1 HC.out).1, HOX.out⟩
    · exact ⟨Nat.lt_of_lt_of_le HBL.out HWB.out.size, HOL.out⟩)
  go_wp2
  refine wp_region_T (S := fun w' => ∀ k ∈ [bx, bl], w'.heap[k]? = wb.heap[k]?) (tail := fun _ => false) (by kernel_rfl) ?_
  change wpAnyT _ _ _ _ _ _ _ _ _ (World.drew wb)
  have BD := Lib.hid (show ∀ k ∈ [bx, bl], (World.drew wb).heap[k]? = wb.heap[k]? from fun _ _ => rfl)
  refine tk 0 100 (.pointer (some ⟨g.s, 0, none⟩)) BD.out ?y0 ?_
  case y0 =>
    intro w' hw'
    go_simp
  try simp only [Act.put, List.setIfInBounds_toArray, List.set_cons_zero, List.set_cons_succ]
  refine tk 1 101 (.slice (some ⟨bl, ol, none⟩) M cl) BD.out ?y1 ?_
  case y1 =>
    intro w' hw'
    go_simp
  try simp only [Act.put, List.setIfInBounds_toArray, List.set_cons_zero, List.set_cons_succ]
  refine tk 2 102 (.pointer (some ⟨bx, 1, none⟩)) BD.out ?y2 ?_
  case y2 =>
    intro w' hw'
    go_simp
  try simp only [Act.put, List.setIfInBounds_toArray, List.set_cons_zero, List.set_cons_succ]
  refine tk 3 103 (.int .i64 (A : Int)) BD.out ?y3 ?_
  case y3 =>
    intro w' hw'
    have z0 := (World.cell?_of_block (a := ⟨bx, 1, none⟩) (hw' bx (by simp))).trans x1
    go_simp
  try simp only [Act.put, List.setIfInBounds_toArray, List.set_cons_zero, List.set_cons_succ]
  refine tk 4 104 (.pointer (some ⟨bl, ol + A, none⟩)) BD.out ?y4 ?_
  case y4 =>
    intro w' hw'
    go_simp
  try simp only [Act.put, List.setIfInBounds_toArray, List.set_cons_zero, List.set_cons_succ]
  refine tk 5 105 (.int .i64 (xA : Int)) BD.out ?y5 ?_
  case y5 =>
    intro w' hw'
    have z0 := (World.cell?_of_block (a := ⟨bl, ol + A, none⟩) (hw' bl (by simp))).trans kA
    go_simp
  try simp only [Act.put, List.setIfInBounds_toArray, List.set_cons_zero, List.set_cons_succ]
  refine tk 7 107 (.pointer (some ⟨bx, 4, none⟩)) BD.out ?y7 ?_
  case y7 =>
    intro w' hw'
    go_simp
  try simp only [Act.put, List.setIfInBounds_toArray, List.set_cons_zero, List.set_cons_succ]
  refine tk 8 108 (vv) BD.out ?y8 ?_
  case y8 =>
    intro w' hw'
    have z0 := (World.cell?_of_block (a := ⟨bx, 4, none⟩) (hw' bx (by simp))).trans x4
    go_simp
  try simp only [Act.put, List.setIfInBounds_toArray, List.set_cons_zero, List.set_cons_succ]
  refine on 6 (fun K hK => ?_)
  go_simp
  have BA := Lib.hid (show ∀ k ∈ [bx, bl], ((World.drew wb).alloc (.cells #[] 3)).heap[k]? = wb.heap[k]? from fun k hk => heap_alloc_old (HLT.out k hk).1)
  refine hK.out _ _ (fun _ => BA.out) ?_
  clear hK K
  try simp only [Act.put, List.setIfInBounds_toArray, List.set_cons_zero, List.set_cons_succ]
  have HNV := Lib.hid (show Nums ((World.drew wb).alloc (.cells #[] 3)) vv (vs.map fun (x : Nat) => (x : Int)) from ((HVV.out.grown HWB.out).grown (grown_drewN wb 1)).grown (grown_alloc _ _))
  have HE := Lib.hid (World.ownsRow_made (e := 3) (size := 1) (World.drew wb) #[] 0 (Nat.le_refl _) (Nat.zero_le _) rfl)
  refine on 9 (fun K hK => ?_)
  refine wp_append_nums _ (.tmp 106) (.tmp 108) 28 rfl 3 i0 Try.underlying28 hi0 hz0 hz1 hz2 (World.drew wb).heap.size _ rfl HE.out vv _ rfl HNV.out (by rw [List.length_map]; exact Nat.le_trans HVN.out (by decide)) (by simp) ?_
  intro av wc hown hgrow
  have hgr : (World.drew wb).grownBy wc none := grown_own (v := .slice (some ⟨(World.drew wb).heap.size, 0, none⟩) 0 0) (grown_alloc _ _) (fun b hb => by cases hb; exact Nat.le_refl _) hgrow
  have BC := Lib.hid (show ∀ k ∈ [bx, bl], wc.heap[k]? = wb.heap[k]? from fun k hk => grown_far hgr (HLT.out k hk).1)
  have HIR := Lib.hid (show IRow (World.drew wb).heap.size wc av (vs.map fun (x : Nat) => (x : Int)) from by unfold IRow; rw [List.length_map] at hown ⊢; exact hown)
  have HGR := Lib.hid hgr
  have HSC := Lib.hid (HSD.out.grown hgr)
  clear hown hgrow hgr
  refine hK.out _ _ (fun _ => BC.out) ?_
  clear hK K
  try simp only [Act.put, List.setIfInBounds_toArray, List.set_cons_zero, List.set_cons_succ]
  have HCALL := Lib.hid (exists_any HSC.out (xA : Int) HIR.out.nums (by rw [List.length_map]; exact Nat.le_trans HVN.out (by decide)))
  refine on 10 (fun K hK => ?_)
  go_simp
  refine (HCALL.out).mono ?_
  intro e z1 hp
  have hop0 := c_exists HV.out HLA.out HVS.out hp
  have B1 := Lib.hid (show ∀ k ∈ [bx, bl], z1.heap[k]? = wb.heap[k]? from fun k hk => (hop0.stay (Nat.lt_of_lt_of_le (HLT.out k hk).1 HGR.out.size) (HLT.out k hk).2).trans (BC.out k hk))
  have hop := OpPost.from_ (((keep_none T0 o HWB.out).trans (keep_drew T0 wb o)).trans (keep_none T0 o HGR.out)) hop0
  have HFIN := Lib.hid hop
  obtain ⟨z0, zz, rfl⟩ := hop.form
  clear hp hop hop0
  refine hK.out _ _ (fun _ => B1.out) ?_
  clear hK K
  try simp only [Act.put, List.setIfInBounds_toArray, List.set_cons_zero, List.set_cons_succ]
  refine tk 11 111 (.int .i64 z0) B1.out ?y11 ?_
  case y11 =>
    intro w' hw'
    go_simp
  try simp only [Act.put, List.setIfInBounds_toArray, List.set_cons_zero, List.set_cons_succ]
  refine tk 12 112 (.int .i64 zz) B1.out ?y12 ?_
  case y12 =>
    intro w' hw'
    go_simp
  try simp only [Act.put, List.setIfInBounds_toArray, List.set_cons_zero, List.set_cons_succ]
  refine tk 13 6 (.int .i64 z0) B1.out ?y13 ?_
  case y13 =>
    intro w' hw'
    go_simp
  try simp only [Act.put, List.setIfInBounds_toArray, List.set_cons_zero, List.set_cons_succ]
  refine tk 14 7 (.int .i64 zz) B1.out ?y14 ?_
  case y14 =>
    intro w' hw'
    go_simp
  try simp only [Act.put, List.setIfInBounds_toArray, List.set_cons_zero, List.set_cons_succ]
  refine dn ?_
  go_wp2
  go_ret2
  exact HFIN.out
set_option maxHeartbeats 8000000 in
set_option maxRecDepth 100000 in
theorem do7_any {w : World} {o : Nat → Nat} {g : SG} {lv vv : Value} {ls vs : List Nat} {A B C : Nat} (h : StoreAt w o g) (hV : g.V ≤ 6) (hl : NumsO w o lv (ls.map fun (x : Nat) => (x : Int))) (hb : ∀ x ∈ ls, x < g.ns.length) (hM1 : ls.length ≤ 1000) (hA : A < ls.length) (hv : Nums w vv (vs.map fun (x : Nat) => (x : Int))) (hvn : vs.length ≤ 1000) :
    Calls Try.prog 25 #[.pointer (some ⟨g.s, 0, none⟩), .agg #[.int .i64 7, .int .i64 (A : Int), .int .i64 (B : Int), .int .i64 (C : Int), vv], lv] w (DoPost7 w o g (ls.getD A 0) (vs.map fun (x : Nat) => (x : Int))) := by
  obtain ⟨i0, hi0, hz0, hz1, hz2⟩ := info_parts info3
  have HV := Lib.hid hV
  have HH := Lib.hid h
  obtain ⟨M, hM⟩ : ∃ M, ls.length = M := ⟨_, rfl⟩
  rw [hM] at hA hM1
  have qM : (M : Int) ≤ 1000 := by omega
  obtain ⟨bl, ol, cl, rfl, hbl, hol, hcl⟩ := hl.at_ (N := M) (by rw [List.length_map]; exact hM) hA
  have HBL := Lib.hid hbl
  have HOL := Lib.hid hol
  obtain ⟨xA, hxA⟩ : ∃ x, ls.getD A 0 = x := ⟨_, rfl⟩
  have kA' := hcl A hA
  rw [getD_nat, hxA] at kA'
  have HKA := Lib.hid kA'
  have qA : (A : Int) < (M : Int) := by omega
  have HLA := Lib.hid (show xA < g.ns.length from by rw [← hxA, List.getD_eq_getElem?_getD, List.getElem?_eq_getElem (by omega)]; exact hb _ (List.getElem_mem _))
  rw [hxA]
  clear hcl hl hb hbl hol hM hM1 hV hA kA' hxA
  have HVV := Lib.hid hv
  have HVN := Lib.hid hvn
  clear hv hvn
  go_enter Try.func25, Try.ntmps25
  obtain ⟨wb, hwb⟩ : ∃ wb, w.alloc (.cells #[.int .i64 7, .int .i64 (A : Int), .int .i64 (B : Int), .int .i64 (C : Int), vv] 51) = wb := ⟨_, rfl⟩
  have HWB := Lib.hid (show w.grownBy wb none from by rw [← hwb]; exact grown_alloc _ _)
  have HSB := Lib.hid (show StoreAt wb o g from by rw [← hwb]; exact h.alloc _)
  obtain ⟨bx, hbx⟩ : ∃ bx, w.heap.size = bx := ⟨_, rfl⟩
  have HC := Lib.hid (show wb.heap[bx]? = some (.cells #[.int .i64 7, .int .i64 (A : Int), .int .i64 (B : Int), .int .i64 (C : Int), vv] 51 (0, 0)) from by rw [← hwb, ← hbx]; exact (MapKept.heap_alloc w _).1)
  have HOX := Lib.hid (show o bx = 0 from h.new _ (by omega))
  have x0 : wb.cell? ⟨bx, 0, none⟩ = some (.int .i64 7) := (cell_of HC.out).trans rfl
  have x1 : wb.cell? ⟨bx, 1, none⟩ = some (.int .i64 (A : Int)) := (cell_of HC.out).trans rfl
  have x2 : wb.cell? ⟨bx, 2, none⟩ = some (.int .i64 (B : Int)) := (cell_of HC.out).trans rfl
  have x3 : wb.cell? ⟨bx, 3, none⟩ = some (.int .i64 (C : Int)) := (cell_of HC.out).trans rfl
  have x4 : wb.cell? ⟨bx, 4, none⟩ = some vv := (cell_of HC.out).trans rfl
  have kA := (World.cell?_of_block (a := ⟨bl, ol + A, none⟩) (grown_far HWB.out HBL.out)).trans HKA.out
  clear h
  have HSD := Lib.hid HSB.out.drew
  have HLT := Lib.hid (show ∀ k ∈ [bx, bl], k < (World.drew wb).heap.size ∧ o k = 0 from fun k hk => by
    simp at hk
    rcases hk with rfl | rfl
    · exact ⟨(Array.getElem?_eq_some_iff.1 HC.out).1, HOX.out⟩
    · exact ⟨Nat.lt_of_lt_of_le HBL.out HWB.out.size, HOL.out⟩)
  go_wp2
  refine wp_region_T (S := fun w' => ∀ k ∈ [bx, bl], w'.heap[k]? = wb.heap[k]?) (tail := fun _ => false) (by kernel_rfl) ?_
  change wpAnyT _ _ _ _ _ _ _ _ _ (World.drew wb)
  have BD := Lib.hid (show ∀ k ∈ [bx, bl], (World.drew wb).heap[k]? = wb.heap[k]? from fun _ _ => rfl)
  refine tk 0 113 (.pointer (some ⟨g.s, 0, none⟩)) BD.out ?y0 ?_
  case y0 =>
    intro w' hw'
    go_simp
  try simp only [Act.put, List.setIfInBounds_toArray, List.set_cons_zero, List.set_cons_succ]
  refine tk 1 114 (.slice (some ⟨bl, ol, none⟩) M cl) BD.out ?y1 ?_
  case y1 =>
    intro w' hw'
    go_simp
  try simp only [Act.put, List.setIfInBounds_toArray, List.set_cons_zero, List.set_cons_succ]
  refine tk 2 115 (.pointer (some ⟨bx, 1, none⟩)) BD.out ?y2 ?_
  case y2 =>
    intro w' hw'
    go_simp
  try simp only [Act.put, List.setIfInBounds_toArray, List.set_cons_zero, List.set_cons_succ]
  refine tk 3 116 (.int .i64 (A : Int)) BD.out ?y3 ?_
  case y3 =>
    intro w' hw'
    have z0 := (World.cell?_of_block (a := ⟨bx, 1, none⟩) (hw' bx (by simp))).trans x1
    go_simp
  try simp only [Act.put, List.setIfInBounds_toArray, List.set_cons_zero, List.set_cons_succ]
  refine tk 4 117 (.pointer (some ⟨bl, ol + A, none⟩)) BD.out ?y4 ?_
  case y4 =>
    intro w' hw'
    go_simp
  try simp only [Act.put, List.setIfInBounds_toArray, List.set_cons_zero, List.set_cons_succ]
  refine tk 5 118 (.int .i64 (xA : Int)) BD.out ?y5 ?_
  case y5 =>
    intro w' hw'
    have z0 := (World.cell?_of_block (a := ⟨bl, ol + A, none⟩) (hw' bl (by simp))).trans kA
    go_simp
  try simp only [Act.put, List.setIfInBounds_toArray, List.set_cons_zero, List.set_cons_succ]
  refine tk 7 120 (.pointer (some ⟨bx, 4, none⟩)) BD.out ?y7 ?_
  case y7 =>
    intro w' hw'
    go_simp
  try simp only [Act.put, List.setIfInBounds_toArray, List.set_cons_zero, List.set_cons_succ]
  refine tk 8 121 (vv) BD.out ?y8 ?_
  case y8 =>
    intro w' hw'
    have z0 := (World.cell?_of_block (a := ⟨bx, 4, none⟩) (hw' bx (by simp))).trans x4
    go_simp
  try simp only [Act.put, List.setIfInBounds_toArray, List.set_cons_zero, List.set_cons_succ]
  refine on 6 (fun K hK => ?_)
  go_simp
  have BA := Lib.hid (show ∀ k ∈ [bx, bl], ((World.drew wb).alloc (.cells #[] 3)).heap[k]? = wb.heap[k]? from fun k hk => heap_alloc_old (HLT.out k hk).1)
  refine hK.out _ _ (fun _ => BA.out) ?_
  clear hK K
  try simp only [Act.put, List.setIfInBounds_toArray, List.set_cons_zero, List.set_cons_succ]
  have HNV := Lib.hid (show Nums ((World.drew wb).alloc (.cells #[] 3)) vv (vs.map fun (x : Nat) => (x : Int)) from ((HVV.out.grown HWB.out).grown (grown_drewN wb 1)).grown (grown_alloc _ _))
  have HE := Lib.hid (World.ownsRow_made (e := 3) (size := 1) (World.drew wb) #[] 0 (Nat.le_refl _) (Nat.zero_le _) rfl)
  refine on 9 (fun K hK => ?_)
  refine wp_append_nums _ (.tmp 119) (.tmp 121) 28 rfl 3 i0 Try.underlying28 hi0 hz0 hz1 hz2 (World.drew wb).heap.size _ rfl HE.out vv _ rfl HNV.out (by rw [List.length_map]; exact Nat.le_trans HVN.out (by decide)) (by simp) ?_
  intro av wc hown hgrow
  have hgr : (World.drew wb).grownBy wc none := grown_own (v := .slice (some ⟨(World.drew wb).heap.size, 0, none⟩) 0 0) (grown_alloc _ _) (fun b hb => by cases hb; exact Nat.le_refl _) hgrow
  have BC := Lib.hid (show ∀ k ∈ [bx, bl], wc.heap[k]? = wb.heap[k]? from fun k hk => grown_far hgr (HLT.out k hk).1)
  have HIR := Lib.hid (show IRow (World.drew wb).heap.size wc av (vs.map fun (x : Nat) => (x : Int)) from by unfold IRow; rw [List.length_map] at hown ⊢; exact hown)
  have HGR := Lib.hid hgr
  have HSC := Lib.hid (HSD.out.grown hgr)
  clear hown hgrow hgr
  refine hK.out _ _ (fun _ => BC.out) ?_
  clear hK K
  try simp only [Act.put, List.setIfInBounds_toArray, List.set_cons_zero, List.set_cons_succ]
  have HNO := Lib.hid (show NumsO wc o av (vs.map fun (x : Nat) => (x : Int)) from HIR.out.numsO (fun k hk => HSD.out.new k hk))
  have HCALL := Lib.hid (rename_any HSC.out (xA : Int) HNO.out (by rw [List.length_map]; exact Nat.le_trans HVN.out (by decide)))
  refine on 10 (fun K hK => ?_)
  go_simp
  refine (HCALL.out).mono ?_
  intro e z1 hp
  have hop0 := c_rename HV.out HLA.out hp
  obtain ⟨hfin, z0, zz, rfl, hst⟩ := do7_conv HWB.out HGR.out hop0
  have HFIN := Lib.hid hfin
  have B1 := Lib.hid (show ∀ k ∈ [bx, bl], z1.heap[k]? = wb.heap[k]? from fun k hk => (hst k (Nat.lt_of_lt_of_le (HLT.out k hk).1 HGR.out.size) (HLT.out k hk).2).trans (BC.out k hk))
  clear hp hfin hst hop0
  refine hK.out _ _ (fun _ => B1.out) ?_
  clear hK K
  try simp only [Act.put, List.setIfInBounds_toArray, List.set_cons_zero, List.set_cons_succ]
  refine tk 11 124 (.int .i64 z0) B1.out ?y11 ?_
  case y11 =>
    intro w' hw'
    go_simp
  try simp only [Act.put, List.setIfInBounds_toArray, List.set_cons_zero, List.set_cons_succ]
  refine tk 12 125 (.int .i64 zz) B1.out ?y12 ?_
  case y12 =>
    intro w' hw'
    go_simp
  try simp only [Act.put, List.setIfInBounds_toArray, List.set_cons_zero, List.set_cons_succ]
  refine tk 13 6 (.int .i64 z0) B1.out ?y13 ?_
  case y13 =>
    intro w' hw'
    go_simp
  try simp only [Act.put, List.setIfInBounds_toArray, List.set_cons_zero, List.set_cons_succ]
  refine tk 14 7 (.int .i64 zz) B1.out ?y14 ?_
  case y14 =>
    intro w' hw'
    go_simp
  try simp only [Act.put, List.setIfInBounds_toArray, List.set_cons_zero, List.set_cons_succ]
  refine dn ?_
  go_wp2
  go_ret2
  exact HFIN.out

end Go.Proofs.Ytailpphafoamfaa
namespace Go.Proofs.Ytailpphafoamfaa

section
variable {V : Nat} {L : List Nd}
theorem WF.hangs (hw : WF V L) {i : Nat} (hi : i < L.length) : Hangs V (ev L i) := fun m m' h => hw.ev_dep m m' i hi fun x _ hx => h x hx
theorem WF.asks_up (hw : WF V L) {i c v : Nat} {n : Nd} (h2 : 2 ≤ i) (hn : L[i]? = some n) (hc : c = n.a ∨ c = n.b) (h : Asks (ev L c) v) : Asks (ev L i) v := by
  obtain ⟨a1, a2, a3, a4, a5, a6⟩ := hw.nd i n h2 hn
  have hi := (List.getElem?_eq_some_iff.1 hn).1
  obtain ⟨m, hm⟩ := h
  have hvc : n.v < ask L c := by rcases hc with rfl | rfl <;> assumption
  have hcl : c < L.length := by rcases hc with rfl | rfl <;> omega
  have hv : v ≠ n.v := by
    rintro rfl
    exact hm (hw.ev_skip m _ hcl hvc).symm
  obtain ⟨bit, hbit⟩ : ∃ bit : Bool, (if bit = true then n.b else n.a) = c := by
    rcases hc with rfl | rfl
    · exact ⟨false, by simp⟩
    · exact ⟨true, by simp⟩
  have e1 : ∀ m, ev L i (setM m n.v bit) = ev L c m := fun m => by rw [hw.low m h2 hn bit, hbit]
  refine ⟨setM m n.v bit, ?_⟩
  have e2 : flipM (setM m n.v bit) v = setM (flipM m v) n.v bit := by
    funext x
    by_cases e : x = v
    · subst e; simp [flipM, setM, hv]
    · by_cases e' : x = n.v
      · subst e'; simp [flipM, setM, e]
      · simp [flipM, setM, e, e']
  rw [e2, e1, e1]
  exact hm
theorem WF.asks_self (hw : WF V L) {i : Nat} {n : Nd} (h2 : 2 ≤ i) (hn : L[i]? = some n) : Asks (ev L i) n.v := by
  obtain ⟨a1, a2, a3, a4, a5, a6⟩ := hw.nd i n h2 hn
  have hi := (List.getElem?_eq_some_iff.1 hn).1
  by_cases h : ∀ m, ev L n.a m = ev L n.b m
  · exact absurd (hw.one (by omega) (by omega) h) a4
  · obtain ⟨m, hm⟩ : ∃ m, ev L n.a m ≠ ev L n.b m := by
      apply Classical.byContradiction
      intro hc
      exact h fun m => Classical.byContradiction fun e => hc ⟨m, e⟩
    refine ⟨setM m n.v false, ?_⟩
    have e2 : flipM (setM m n.v false) n.v = setM m n.v true := by
      funext x
      by_cases e : x = n.v
      · subst e; simp [flipM, setM]
      · simp [flipM, setM, e]
    rw [e2, hw.low m h2 hn false, hw.low m h2 hn true]
    simpa using hm
theorem WF.asks_vis (hw : WF V L) : ∀ i s, i < L.length → ∀ j ∈ vis L s i, j ∈ s ∨ ∀ v, Asks (ev L j) v → Asks (ev L i) v := by
  intro i
  induction i using Nat.strongRecOn with
  | ind i ih =>
    intro s hl j hj
    by_cases hc : i ≤ 1 ∨ i ∈ s
    · rw [vis_met hc] at hj
      exact .inl hj
    · obtain ⟨n, hn⟩ := get_lt hl
      have hh := hw.nd i n (by omega) hn
      rw [hw.vis_node hc hn] at hj
      rcases ih n.b (by omega) _ (by omega) j hj with h1 | h1
      · rcases ih n.a (by omega) _ (by omega) j h1 with h2 | h2
        · rcases List.mem_append.1 h2 with h3 | h3
          · exact .inl h3
          · simp at h3
            subst h3
            exact .inr fun v h => h
        · exact .inr fun v h => hw.asks_up (by omega) hn (.inl rfl) (h2 v h)
      · exact .inr fun v h => hw.asks_up (by omega) hn (.inr rfl) (h1 v h)
theorem WF.asked_iff (hw : WF V L) {f : Nat} (hf : f < L.length) (v : Nat) : AskedV L (vis L [] f) v ↔ Asks (ev L f) v := by
  obtain ⟨-, h2, -, h4, h5⟩ := hw.vis_ok f [] hf (by simp) (by simp)
  constructor
  · rintro ⟨j, hj, n, hn, rfl⟩
    have hj2 : 2 ≤ j := by
      rcases h4 j hj with h | h
      · simp at h
      · exact h.1
    rcases hw.asks_vis f [] hf j hj with h | h
    · simp at h
    · exact h _ (hw.asks_self hj2 hn)
  · intro ha
    apply Classical.byContradiction
    intro hc
    have key : ∀ j, j < L.length → (j ≤ 1 ∨ j ∈ vis L [] f) → ∀ m b, ev L j (setM m v b) = ev L j m := by
      intro j
      induction j using Nat.strongRecOn with
      | ind j ih =>
        intro hj hs m b
        by_cases h1 : j ≤ 1
        · rw [ev_end _ h1, ev_end _ h1]
        · have hm := hs.resolve_left h1
          rcases h5 j hm with h | ⟨n, hn, ha, hb⟩
          · simp at h
          · obtain ⟨a1, a2, a3, -⟩ := hw.nd j n (by omega) hn
            have hv : n.v ≠ v := fun e => hc ⟨j, hm, n, hn, e⟩
            rw [hw.ev_node _ (by omega) hn, hw.ev_node _ (by omega) hn, setM_other _ _ hv, ih n.a a2 (by omega) ha, ih n.b a3 (by omega) hb]
    obtain ⟨m, hm⟩ := ha
    exact hm (key f hf h2 m _).symm
end
theorem all_iff {n : Nat} {l : List Int} (hl : l.length = n) : allB n l = true ↔ ∀ v, v < n → 0 ≤ l.getD v 0 ∧ l.getD v 0 < (n : Int) := by
  unfold allB
  rw [List.all_eq_true]
  constructor
  · intro h v hv
    have hv' : v < l.length := by omega
    have := h l[v] (List.getElem_mem hv')
    rw [List.getD_eq_getElem?_getD, List.getElem?_eq_getElem hv']
    unfold okB at this
    simpa using this
  · intro h x hx
    obtain ⟨v, hv, rfl⟩ := List.mem_iff_getElem.1 hx
    have := h v (by omega)
    rw [List.getD_eq_getElem?_getD, List.getElem?_eq_getElem hv] at this
    unfold okB
    simpa using this
theorem renOk_iff {g : SG} (hw : WF g.V g.ns) {f : Nat} (hf : f < g.ns.length) (l : List Int) : RenOk g f l ↔ RenamesT (tabF g.V (ev g.ns f)) g.V l := by
  unfold RenOk RenamesT
  have hh := hw.hangs hf
  have lt : ∀ v, AskedV g.ns (vis g.ns [] f) v → v < g.V := by
    rintro v ⟨j, hj, n, hn, rfl⟩
    have hj2 : 2 ≤ j := by
      rcases (hw.vis_ok f [] hf (by simp) (by simp)).2.2.2.1 j hj with h | h
      · simp at h
      · exact h.1
    exact (hw.nd j n hj2 hn).1
  constructor
  · rintro ⟨h1, h2, h3⟩
    refine ⟨h1, (all_iff h1).1 h2, fun v w hv hw' he a1 a2 => ?_⟩
    have b1 := (hw.asked_iff hf v).2 ((asks_iff hh hv).1 a1)
    have b2 := (hw.asked_iff hf w).2 ((asks_iff hh (by omega)).1 a2)
    have := h3 v w b1 b2 he
    omega
  · rintro ⟨h1, h2, h3⟩
    refine ⟨h1, (all_iff h1).2 h2, fun u v hu hv he => ?_⟩
    have lu := lt u hu
    have lv := lt v hv
    have au := (asks_iff hh lu).2 ((hw.asked_iff hf u).1 hu)
    have av := (asks_iff hh lv).2 ((hw.asked_iff hf v).1 hv)
    rcases Nat.lt_trichotomy u v with h | h | h
    · exact (h3 v u lv h he.symm av au).elim
    · exact h
    · exact (h3 u v lu h he au av).elim
/-- What an act is true of. -/
def actF (k A B C : Nat) (vs : List Nat) (G : Nat → (Nat → Bool) → Bool) : (Nat → Bool) → Bool :=
  if k = 0 then fun m => m A else if k = 1 then fun m => iteB (G A m) (G B m) (G C m) else if k = 2 then fun m => !G A m else if k = 3 then fun m => G A m && G B m
  else if k = 4 then fun m => G A m || G B m else if k = 5 then fun m => G A m == G B m else if k = 6 then vs.foldl ex1 (G A) else fun m => G A fun x => m ((vs.map fun (x : Nat) => (x : Int)).getD x 0).toNat
/-- The document's table of an act. -/
def doT (n k A B C : Nat) (vs : List Nat) (ts : List (List Bool)) : List Bool :=
  if k = 0 then (List.range (2 ^ n)).map fun i => way n i A else if k = 1 then (List.range (2 ^ n)).map fun i => entI ts A B C i else if k = 2 then (List.range (2 ^ n)).map fun i => !ent ts A i
  else if k = 3 then (List.range (2 ^ n)).map fun i => ent ts A i && ent ts B i else if k = 4 then (List.range (2 ^ n)).map fun i => ent ts A i || ent ts B i else if k = 5 then (List.range (2 ^ n)).map fun i => ent ts A i == ent ts B i
  else if k = 6 then vs.foldl (fun t v => exT t n v) (ts.getD A []) else renT (ts.getD A []) n (vs.map fun (x : Nat) => (x : Int))
theorem doT_tab {n k A B C : Nat} {vs : List Nat} {ts : List (List Bool)} {G : Nat → (Nat → Bool) → Bool} (hG : ∀ j, j < ts.length → Hangs n (G j) ∧ ts.getD j [] = tabF n (G j)) (h0 : k = 0 → A < n) (h1 : k ≠ 0 → A < ts.length ∧ B < ts.length ∧ C < ts.length) (hv : ∀ v ∈ vs, v < n) :
    doT n k A B C vs ts = tabF n (actF k A B C vs G) := by
  have hent : ∀ j, j < ts.length → ∀ i, i < 2 ^ n → ent ts j i = G j (way n i) := fun j hj i hi => by
    unfold ent
    rw [(hG j hj).2, tab_getD _ hi]
  have hmap : ∀ (E : Nat → Bool) (F : (Nat → Bool) → Bool), (∀ i, i < 2 ^ n → E i = F (way n i)) → (List.range (2 ^ n)).map E = tabF n F := fun E F h => by
    unfold tabF
    exact List.map_congr_left fun i hi => h i (by simpa using hi)
  unfold doT actF
  by_cases e0 : k = 0
  · rw [if_pos e0, if_pos e0]
    exact hmap _ _ fun i _ => rfl
  obtain ⟨hA, hB, hC⟩ := h1 e0
  rw [if_neg e0, if_neg e0]
  by_cases e1 : k = 1
  · rw [if_pos e1, if_pos e1]
    exact hmap _ _ fun i hi => by unfold entI; rw [hent A hA i hi, hent B hB i hi, hent C hC i hi]
  rw [if_neg e1, if_neg e1]
  by_cases e2 : k = 2
  · rw [if_pos e2, if_pos e2]
    exact hmap _ _ fun i hi => by rw [hent A hA i hi]
  rw [if_neg e2, if_neg e2]
  by_cases e3 : k = 3
  · rw [if_pos e3, if_pos e3]
    exact hmap _ _ fun i hi => by rw [hent A hA i hi, hent B hB i hi]
  rw [if_neg e3, if_neg e3]
  by_cases e4 : k = 4
  · rw [if_pos e4, if_pos e4]
    exact hmap _ _ fun i hi => by rw [hent A hA i hi, hent B hB i hi]
  rw [if_neg e4, if_neg e4]
  by_cases e5 : k = 5
  · rw [if_pos e5, if_pos e5]
    exact hmap _ _ fun i hi => by rw [hent A hA i hi, hent B hB i hi]
  rw [if_neg e5, if_neg e5]
  obtain ⟨hh, ht⟩ := hG A hA
  by_cases e6 : k = 6
  · rw [if_pos e6, if_pos e6, ht]
    exact (exT_list vs (G A) hh hv).1
  rw [if_neg e6, if_neg e6, ht]
  exact renT_tab hh _
end Go.Proofs.Ytailpphafoamfaa
namespace Go.Proofs.Ytailpphafoamfaa
open Go Go.RowKit Go.Maps


section
variable {w w' : World} {o : Nat → Nat} {g : SG} {lv vv : Value} {n k A B C : Nat} {B' C' : Int} {ts : List (List Bool)} {ls vs : List Nat}
set_option maxRecDepth 100000 in
/-- The document's table of an act: the call. -/
theorem rdo_any (hnew : ∀ k, w.heap.size ≤ k → o k = 0) (hl : TabsO w o lv ts) (hn : n ≤ 6) (hts : ∀ t ∈ ts, t.length = 2 ^ n) (hM1 : ts.length ≤ 1000000) (hk : k < 8) (h0 : k = 0 → A < n) (h1 : k ≠ 0 → (A < ts.length ∧ B < ts.length ∧ C < ts.length) ∧ B' = (B : Int) ∧ C' = (C : Int))
    (hv : Nums w vv (vs.map fun (x : Nat) => (x : Int))) (hvn : vs.length ≤ 1000) (hvl : ∀ v ∈ vs, v < n) (hr : k = 7 → RenamesT (ts.getD A []) n (vs.map fun (x : Nat) => (x : Int))) :
    Calls Try.prog 26 #[.int .i64 (n : Int), actV (k : Int) (A : Int) B' C' vv, lv] w fun e w' => ∃ v, e = .returned v ∧ BoolsO w' o v (doT n k A B C vs ts) ∧ w.grownBy w' none ∧ From w lv A v := by
  have fin : ∀ {w' : World} {v : Value} {l : List Bool}, BRow w.heap.size w' v l → BoolsO w' o v l := fun h => h.tag fun b hb => hnew b (h.lt b hb).1
  unfold actV
  rcases Nat.lt_or_ge 0 k with hpos | hz
  · obtain ⟨⟨hA, hB, hC⟩, rfl, rfl⟩ := h1 (by omega)
    match k, hk, hpos with
    | 1, _, _ => exact (rdo1_any hl.tabs hn hts hM1 hA hB hC).mono fun e w' ⟨v, h1, h2, h3⟩ => ⟨v, h1, fin h2, h3, .inr h2.fresh⟩
    | 2, _, _ => exact (rdo2_any hl.tabs hn hts hM1 hA).mono fun e w' ⟨v, h1, h2, h3⟩ => ⟨v, h1, fin h2, h3, .inr h2.fresh⟩
    | 3, _, _ => exact (rdo3_any hl.tabs hn hts hM1 hA hB).mono fun e w' ⟨v, h1, h2, h3⟩ => ⟨v, h1, fin h2, h3, .inr h2.fresh⟩
    | 4, _, _ => exact (rdo4_any hl.tabs hn hts hM1 hA hB).mono fun e w' ⟨v, h1, h2, h3⟩ => ⟨v, h1, fin h2, h3, .inr h2.fresh⟩
    | 5, _, _ => exact (rdo5_any hl.tabs hn hts hM1 hA hB).mono fun e w' ⟨v, h1, h2, h3⟩ => ⟨v, h1, fin h2, h3, .inr h2.fresh⟩
    | 6, _, _ =>
      have e6 : doT n 6 A B C vs ts = vs.foldl (fun t v => exT t n v) (ts.getD A []) := by unfold doT; simp
      rw [e6, show ((6 : Nat) : Int) = 6 from rfl]
      exact rdo6_any hnew hl hn hts hM1 hA hv hvn hvl
    | 7, _, _ =>
      have e7 : doT n 7 A B C vs ts = renT (ts.getD A []) n (vs.map fun (x : Nat) => (x : Int)) := by unfold doT; simp
      rw [e7, show ((7 : Nat) : Int) = 7 from rfl]
      exact rdo7_any hnew hl hn hts hM1 hA hv hvn (hr rfl)
  · obtain rfl : k = 0 := by omega
    exact (rdo0_any hl.tabs hn hts hM1 (h0 rfl)).mono fun e w' ⟨v, h1, h2, h3⟩ => ⟨v, h1, fin h2, h3, .inr h2.fresh⟩
/-- What an act leaves. -/
def DoPost (w : World) (o : Nat → Nat) (g : SG) (k A B C : Nat) (vs ls : List Nat) (e : Ending) (w' : World) : Prop :=
  ((k = 7 → RenOk g (ls.getD A 0) (vs.map fun (x : Nat) => (x : Int))) → OpPost w o g (actF k A B C vs fun j => ev g.ns (ls.getD j 0)) 5000 0 e w') ∧
    (k = 7 → ¬ RenOk g (ls.getD A 0) (vs.map fun (x : Nat) => (x : Int)) → e = .returned (.tuple #[.int .i64 0, .int .i64 91]) ∧ ∃ o', StoreAt w' o' g ∧ Keep T0 w o w' o')
set_option maxRecDepth 100000 in
theorem do_any (h : StoreAt w o g) (hV : g.V ≤ 6) (hl : NumsO w o lv (ls.map fun (x : Nat) => (x : Int))) (hb : ∀ x ∈ ls, x < g.ns.length) (hM1 : ls.length ≤ 1000) (hk : k < 8) (h0 : k = 0 → A < g.V) (h1 : k ≠ 0 → (A < ls.length ∧ B < ls.length ∧ C < ls.length) ∧ B' = (B : Int) ∧ C' = (C : Int))
    (hv : Nums w vv (vs.map fun (x : Nat) => (x : Int))) (hvn : vs.length ≤ 1000) (hvl : ∀ v ∈ vs, v < g.V) :
    Calls Try.prog 25 #[.pointer (some ⟨g.s, 0, none⟩), actV (k : Int) (A : Int) B' C' vv, lv] w (DoPost w o g k A B C vs ls) := by
  unfold actV
  rcases Nat.lt_or_ge 0 k with hpos | hz
  · obtain ⟨⟨hA, hB, hC⟩, rfl, rfl⟩ := h1 (by omega)
    match k, hk, hpos with
    | 1, _, _ => exact (do1_any (vs := vs) h hV hl hb hM1 hA hB hC).mono fun e w' hp => ⟨fun _ => hp, fun h => by cases h⟩
    | 2, _, _ => exact (do2_any (vs := vs) h hV hl hb hM1 hA).mono fun e w' hp => ⟨fun _ => hp, fun h => by cases h⟩
    | 3, _, _ => exact (do3_any (vs := vs) h hV hl hb hM1 hA hB).mono fun e w' hp => ⟨fun _ => hp, fun h => by cases h⟩
    | 4, _, _ => exact (do4_any (vs := vs) h hV hl hb hM1 hA hB).mono fun e w' hp => ⟨fun _ => hp, fun h => by cases h⟩
    | 5, _, _ => exact (do5_any (vs := vs) h hV hl hb hM1 hA hB).mono fun e w' hp => ⟨fun _ => hp, fun h => by cases h⟩
    | 6, _, _ => exact (do6_any h hV hl hb hM1 hA hv hvn hvl).mono fun e w' hp => ⟨fun _ => hp, fun h => by cases h⟩
    | 7, _, _ => exact (do7_any h hV hl hb hM1 hA hv hvn).mono fun e w' hp => ⟨fun hr => hp.1 (hr rfl), fun _ hr => hp.2 hr⟩
  · obtain rfl : k = 0 := by omega
    exact (do0_any (n := 0) (vs := vs) h hV hl hb hM1 (h0 rfl)).mono fun e w' hp => ⟨fun _ => hp, fun h => by cases h⟩
/-- An act that fits. -/
structure ActOk (k A B C : Nat) (B' C' : Int) (vs : List Nat) (n m : Nat) : Prop where
  k8 : k < 8
  z : k = 0 → A < n
  s : k ≠ 0 → (A < m ∧ B < m ∧ C < m) ∧ B' = (B : Int) ∧ C' = (C : Int)
  vn : ∀ v ∈ vs, v < n
  vl : vs.length ≤ n
theorem nat_mod (x : Int) {n : Nat} (h : 0 < n) : ∃ y : Nat, x % (n : Int) = (y : Int) ∧ y < n := ⟨(x % (n : Int)).toNat, by have := Int.emod_nonneg x (b := n) (by omega); omega, by have := Int.emod_nonneg x (b := n) (by omega); have := Int.emod_lt_of_pos x (b := n) (by omega); omega⟩
theorem fitV_nat (xs : List Int) {n : Nat} (h : 0 < n) : ∃ vs : List Nat, fitV xs n = vs.map (fun (x : Nat) => (x : Int)) ∧ (∀ v ∈ vs, v < n) ∧ vs.length ≤ n := by
  refine ⟨(xs.take n).map fun x => (x % (n : Int)).toNat, ?_, ?_, by simp; omega⟩
  · unfold fitV
    rw [List.map_map]
    refine List.map_congr_left fun x _ => ?_
    have := Int.emod_nonneg x (b := n) (by omega)
    simp
    omega
  · intro v hv
    obtain ⟨x, -, rfl⟩ := List.mem_map.1 hv
    have := Int.emod_nonneg x (b := n) (by omega)
    have := Int.emod_lt_of_pos x (b := n) (by omega)
    omega
theorem fitted_any {K A0 B0 C0 : Int} {xs : List Int} {n m : Nat} (hv : Nums w vv xs) (hn : 1 ≤ n ∧ n ≤ 6) (hm : 1 ≤ m ∧ m ≤ 1000) (hvl : xs.length ≤ 9223372036854775807) :
    ∃ (k A B C : Nat) (B' C' : Int) (vs : List Nat), ActOk k A B C B' C' vs n m ∧ Calls Try.prog 24 #[actV K A0 B0 C0 vv, .int .i64 (n : Int), .int .i64 (m : Int)] w (FitPost w (k : Int) (A : Int) B' C' (vs.map fun (x : Nat) => (x : Int))) := by
  obtain ⟨vs, hvs, hvn, hvk⟩ := fitV_nat xs (n := n) (by omega)
  obtain ⟨k, hk, hk8⟩ := nat_mod K (n := 8) (by decide)
  have hk' : K % 8 = (k : Int) := hk
  by_cases hz : K % 8 = 0
  · obtain ⟨A, hA, hAn⟩ := nat_mod A0 (n := n) (by omega)
    have h := fitted_zero (A := A0) (B := B0) (C := C0) hv hn hm hvl hz
    rw [hk', hA, hvs] at h
    exact ⟨k, A, 0, 0, B0, C0, vs, ⟨hk8, fun _ => hAn, fun h => absurd (show k = 0 by omega) h, hvn, hvk⟩, h⟩
  · obtain ⟨A, hA, hAn⟩ := nat_mod A0 (n := m) (by omega)
    obtain ⟨B, hB, hBn⟩ := nat_mod B0 (n := m) (by omega)
    obtain ⟨C, hC, hCn⟩ := nat_mod C0 (n := m) (by omega)
    have h := fitted_some (A := A0) (B := B0) (C := C0) hv hn hm hvl hz
    rw [hk', hA, hB, hC, hvs] at h
    exact ⟨k, A, B, C, B, C, vs, ⟨hk8, fun h => absurd h (by omega), fun _ => ⟨⟨hAn, hBn, hCn⟩, rfl, rfl⟩, hvn, hvk⟩, h⟩
end

end Go.Proofs.Ytailpphafoamfaa
