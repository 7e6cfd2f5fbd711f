/- The reference: the tables of a variable, and of two that are the same. The reference: the tables of acts 6 and 7; whose each table is. An act whose numbers fit. -/
import Derived.Laws.Rows
import Derived.Test.YtailpphafoamfaaPzan
set_option linter.all false
namespace Go.Proofs.Ytailpphafoamfaa
open Go Go.RowKit Go.Maps

set_option maxHeartbeats 8000000 in
set_option maxRecDepth 100000 in
theorem rdo0_any {w : World} {lv vv : Value} {n A : Nat} {B C : Int} {ts : List (List Bool)} (hl : Tabs w lv ts) (hn : n ≤ 6) (hts : ∀ t ∈ ts, t.length = 2 ^ n) (hM1 : ts.length ≤ 1000000) (hA : A < n) :
    Calls Try.prog 26 #[.int .i64 (n : Int), .agg #[.int .i64 0, .int .i64 (A : Int), .int .i64 (B : Int), .int .i64 (C : Int), vv], lv] w fun e w' => ∃ v, e = .returned v ∧ BRow w.heap.size w' v ((List.range (2 ^ n)).map fun i => way n i A) ∧ w.grownBy w' none := by
  obtain ⟨i0, hi0, hz0, hz1, hz2⟩ := info_parts info4
  have HN := Lib.hid hn
  obtain ⟨N, hN⟩ : ∃ N, 2 ^ n = N := ⟨_, rfl⟩
  have HNN := Lib.hid hN
  have hp := pow6 hn
  have HN6 := Lib.hid (show N ≤ 64 from by omega)
  rw [hN]
  have qn : (n : Int) ≤ 6 := by omega
  have qN : (N : Int) ≤ 64 := by omega
  have w1 : IntKind.u64.wrap (n : Int) = (n : Int) := IntWalk.u64_in _ (by omega)
  have w2 : IntKind.i64.wrap (2 ^ n) = 2 ^ n := wrap_pown hn
  obtain ⟨Al, cl, rfl, -⟩ := hl
  have HA := Lib.hid hA
  have qA : (A : Int) < (n : Int) := by omega
  clear hts hM1 hA
  clear hn hN hp
  go_enter Try.func26, Try.ntmps26
  obtain ⟨wb, hwb⟩ : ∃ wb, w.alloc (.cells #[.int .i64 0, .int .i64 (A : Int), .int .i64 (B : Int), .int .i64 (C : Int), vv] 51) = wb := ⟨_, rfl⟩
  have HWB := Lib.hid (show w.grownBy wb none from by rw [← hwb]; exact grown_alloc _ _)
  obtain ⟨bx, hbx⟩ : ∃ bx, w.heap.size = bx := ⟨_, rfl⟩
  have HC := Lib.hid (show wb.heap[bx]? = some (.cells #[.int .i64 0, .int .i64 (A : Int), .int .i64 (B : Int), .int .i64 (C : Int), vv] 51 (0, 0)) from by rw [← hwb, ← hbx]; exact (MapKept.heap_alloc w _).1)
  have HBX := Lib.hid hbx
  have y0 : wb.cell? ⟨bx, 0, none⟩ = some (.int .i64 0) := (cell_of HC.out).trans rfl
  go_wp2
  clear y0
  go_loopw [7, 8] (fun a j wr => ∃ i : Nat, j = .int .i64 (i : Int) ∧ i ≤ N ∧ Hid (BRow wb.heap.size wr a ((List.range i).map fun i => way n i A)) ∧ Hid (wb.grownBy wr none)) (fun _ j _ => N - (intOf j).toNat)
  case atStart => exact ⟨0, rfl, Nat.zero_le _, Lib.hid (by first | (rw [hwb]; exact BRow.made wb (Nat.le_refl _)) | (subst hwb; exact BRow.made _ (Nat.le_refl _))), Lib.hid (by first | (rw [hwb]; exact grown_alloc _ _) | (subst hwb; exact grown_alloc _ _))⟩
  case round =>
    obtain ⟨i, rfl, hk, hm, hb⟩ := hrel
    have HM := hm
    have HB := hb
    by_cases hlt : i < N
    · have q1 : (i : Int) < 2 ^ n := lt_pow HNN.out hlt
      have q2 : (i : Int) < (N : Int) := by omega
      have q64 : (i : Int) < 64 := by have := HN6.out; omega
      have HLT := Lib.hid hlt
      have hC := (grown_far HB.out (Array.getElem?_eq_some_iff.1 HC.out).1).trans HC.out
      have HCC := Lib.hid hC
      have x0 : wr.cell? ⟨bx, 0, none⟩ = some (.int .i64 0) := (cell_of hC).trans rfl
      have x1 : wr.cell? ⟨bx, 1, none⟩ = some (.int .i64 (A : Int)) := (cell_of hC).trans rfl
      have x2 : wr.cell? ⟨bx, 2, none⟩ = some (.int .i64 (B : Int)) := (cell_of hC).trans rfl
      have x3 : wr.cell? ⟨bx, 3, none⟩ = some (.int .i64 (C : Int)) := (cell_of hC).trans rfl
      have HWR := Lib.hid (grown_trans HWB.out HB.out)
      have QL := Lib.hid (show ((List.range i).map fun i => way n i A).length ≤ 1000000 from by rw [List.length_map, List.length_range]; have := HN6.out; omega)
      clear hC hk hm hb hlt 
      go_wp2
      refine wp_region_T (S := fun w' => ∀ k ∈ [bx], w'.heap[k]? = wr.heap[k]?) (tail := fun _ => false) (by kernel_rfl) ?_
      change wpAnyT _ _ _ _ _ _ _ _ _ (World.drew wr)
      have BD := Lib.hid (show ∀ k ∈ [bx], (World.drew wr).heap[k]? = wr.heap[k]? from fun _ _ => rfl)
      refine tk 0 63 (.int .i64 ((n : Nat) : Int)) BD.out ?y0 ?_
      case y0 =>
        intro w' hw'
        go_simp
      try simp only [Act.put, List.setIfInBounds_toArray, List.set_cons_zero, List.set_cons_succ]
      refine tk 1 64 (.int .i64 ((i : Nat) : Int)) BD.out ?y1 ?_
      case y1 =>
        intro w' hw'
        go_simp
      try simp only [Act.put, List.setIfInBounds_toArray, List.set_cons_zero, List.set_cons_succ]
      refine tk 3 66 (.pointer (some ⟨bx, 1, none⟩)) BD.out ?y3 ?_
      case y3 =>
        intro w' hw'
        go_simp
      try simp only [Act.put, List.setIfInBounds_toArray, List.set_cons_zero, List.set_cons_succ]
      refine tk 4 67 (.int .i64 ((A : Nat) : Int)) BD.out ?y4 ?_
      case y4 =>
        intro w' hw'
        have z0 := (World.cell?_of_block (a := ⟨bx, 1, none⟩) (hw' bx (by simp))).trans x1
        go_simp
      try simp only [Act.put, List.setIfInBounds_toArray, List.set_cons_zero, List.set_cons_succ]
      refine on 2 (fun K hK => ?_)
      go_simp
      refine (way_any n i HN.out (by have := HLT.out; have := HN6.out; omega) (World.drew wr)).mono ?_
      rintro e z1 ⟨v1, rfl, hr1, hg1⟩
      have B1 := Lib.hid (show ∀ k ∈ [bx], z1.heap[k]? = wr.heap[k]? from fun k hk => by
        simp at hk
        subst hk
        exact grown_far hg1 (Array.getElem?_eq_some_iff.1 HCC.out).1)
      obtain ⟨b1, o1, c1, rfl, hb1, hc1⟩ := hr1.bools.at_ (N := n) (wayL_len n i) HA.out
      have kw := hc1 A HA.out
      rw [wayL_get HA.out] at kw
      have HMd := Lib.hid ((HM.out.grown (grown_drewN wr 1)).grown hg1)
      have HBd := Lib.hid (grown_trans (grown_trans HB.out (grown_drewN wr 1)) hg1)
      clear hr1 hg1 hb1 hc1
      refine hK.out _ _ (fun _ => B1.out) ?_
      clear hK K
      try simp only [Act.put, List.setIfInBounds_toArray, List.set_cons_zero, List.set_cons_succ]
      refine on 5 (fun K hK => ?_)
      go_simp
      refine hK.out _ _ (fun _ => B1.out) ?_
      clear hK K
      try simp only [Act.put, List.setIfInBounds_toArray, List.set_cons_zero, List.set_cons_succ]
      refine on 6 (fun K hK => ?_)
      go_simp
      refine hK.out _ _ (fun _ => B1.out) ?_
      clear hK K
      try simp only [Act.put, List.setIfInBounds_toArray, List.set_cons_zero, List.set_cons_succ]
      refine on 7 (fun K hK => ?_)
      go_simp
      refine hK.out _ _ (fun _ => B1.out) ?_
      clear hK K
      try simp only [Act.put, List.setIfInBounds_toArray, List.set_cons_zero, List.set_cons_succ]
      refine dn ?_
      have QB := fun o : Obj => Lib.hid (show wb.heap.size ≤ (z1.alloc o).heap.size from Nat.le_trans HBd.out.size (by simp))
      go_wp2_with (at_builtin; refine wpList_push _ rfl (.tmp 162) (.tmp 164) 32 rfl 4 i0 (.bool false) 1 Try.underlying32 hi0 hz0 hz1 hz2 rfl (by decide) wb.heap.size _ _ _ rfl (HMd.out.alloc _) z1.heap.size 1 _ rfl (cell_new _ _ _) rfl QL.out (QB _).out ?_; intro o2 w5 hown2 hgrow2 _; have HO2 := Lib.hid hown2; have HG5 := Lib.hid hgrow2; clear hown2 hgrow2)
      go_roundw
      case rel => exact ⟨i + 1, by go_num, HLT.out, Lib.hid (by unfold BRow; rw [List.range_succ, List.map_append, List.map_append]; simpa using HO2.out), Lib.hid (grown_own (grown_trans HBd.out (grown_alloc z1 _)) (fun b hb => (HMd.out.lt b hb).1) HG5.out)⟩
      case measure => simp [intOf]; have := HLT.out; omega
    · obtain rfl : i = N := by omega
      have q1 : ¬ (i : Int) < 2 ^ n := not_lt_pow HNN.out
      clear hk hlt hm hb
      go_wp2
      go_ret
      exact ⟨_, rfl, World.ownsRow.mono HM.out (by have := HWB.out.size; have := HBX.out; omega), grown_trans HWB.out HB.out⟩
set_option maxHeartbeats 8000000 in
set_option maxRecDepth 100000 in
theorem rdo5_any {w : World} {lv vv : Value} {n A B C : Nat} {ts : List (List Bool)} (hl : Tabs w lv ts) (hn : n ≤ 6) (hts : ∀ t ∈ ts, t.length = 2 ^ n) (hM1 : ts.length ≤ 1000000) (hA : A < ts.length) (hB : B < ts.length) :
    Calls Try.prog 26 #[.int .i64 (n : Int), .agg #[.int .i64 5, .int .i64 (A : Int), .int .i64 (B : Int), .int .i64 (C : Int), vv], lv] w fun e w' => ∃ v, e = .returned v ∧ BRow w.heap.size w' v ((List.range (2 ^ n)).map fun i => (ent ts A i == ent ts B i)) ∧ w.grownBy w' none := by
  obtain ⟨i0, hi0, hz0, hz1, hz2⟩ := info_parts info4
  have HN := Lib.hid hn
  obtain ⟨N, hN⟩ : ∃ N, 2 ^ n = N := ⟨_, rfl⟩
  have HNN := Lib.hid hN
  have hp := pow6 hn
  have HN6 := Lib.hid (show N ≤ 64 from by omega)
  rw [hN]
  have qn : (n : Int) ≤ 6 := by omega
  have qN : (N : Int) ≤ 64 := by omega
  have w1 : IntKind.u64.wrap (n : Int) = (n : Int) := IntWalk.u64_in _ (by omega)
  have w2 : IntKind.i64.wrap (2 ^ n) = 2 ^ n := wrap_pown hn
  obtain ⟨M, hM⟩ : ∃ M, ts.length = M := ⟨_, rfl⟩
  rw [hM] at hA hB hM1
  have qM : (M : Int) ≤ 1000000 := by omega
  obtain ⟨bo, oo, co, rfl, hbo, hat⟩ := hl.at_ hM (N := N) (fun t ht => (hts t ht).trans hN) (by rw [← hN]; exact Nat.two_pow_pos n) hA
  have HBO := Lib.hid hbo
  obtain ⟨bA, oA, cA, kA0, hbA, kA1⟩ := hat A hA
  have HKA := Lib.hid kA0
  have HLA := Lib.hid kA1
  have HBA := Lib.hid hbA
  have qA : (A : Int) < (M : Int) := by omega
  obtain ⟨bB, oB, cB, kB0, hbB, kB1⟩ := hat B hB
  have HKB := Lib.hid kB0
  have HLB := Lib.hid kB1
  have HBB := Lib.hid hbB
  have qB : (B : Int) < (M : Int) := by omega
  clear hat hl hts hbo hM hM1 hA kA0 kA1 hbA hB kB0 kB1 hbB
  clear hn hN hp
  go_enter Try.func26, Try.ntmps26
  obtain ⟨wb, hwb⟩ : ∃ wb, w.alloc (.cells #[.int .i64 5, .int .i64 (A : Int), .int .i64 (B : Int), .int .i64 (C : Int), vv] 51) = wb := ⟨_, rfl⟩
  have HWB := Lib.hid (show w.grownBy wb none from by rw [← hwb]; exact grown_alloc _ _)
  obtain ⟨bx, hbx⟩ : ∃ bx, w.heap.size = bx := ⟨_, rfl⟩
  have HC := Lib.hid (show wb.heap[bx]? = some (.cells #[.int .i64 5, .int .i64 (A : Int), .int .i64 (B : Int), .int .i64 (C : Int), vv] 51 (0, 0)) from by rw [← hwb, ← hbx]; exact (MapKept.heap_alloc w _).1)
  have HBX := Lib.hid hbx
  have y0 : wb.cell? ⟨bx, 0, none⟩ = some (.int .i64 5) := (cell_of HC.out).trans rfl
  go_wp2
  clear y0
  go_loopw [7, 8] (fun a j wr => ∃ i : Nat, j = .int .i64 (i : Int) ∧ i ≤ N ∧ Hid (BRow wb.heap.size wr a ((List.range i).map fun i => (ent ts A i == ent ts B i))) ∧ Hid (wb.grownBy wr none)) (fun _ j _ => N - (intOf j).toNat)
  case atStart => exact ⟨0, rfl, Nat.zero_le _, Lib.hid (by first | (rw [hwb]; exact BRow.made wb (Nat.le_refl _)) | (subst hwb; exact BRow.made _ (Nat.le_refl _))), Lib.hid (by first | (rw [hwb]; exact grown_alloc _ _) | (subst hwb; exact grown_alloc _ _))⟩
  case round =>
    obtain ⟨i, rfl, hk, hm, hb⟩ := hrel
    have HM := hm
    have HB := hb
    by_cases hlt : i < N
    · have q1 : (i : Int) < 2 ^ n := lt_pow HNN.out hlt
      have q2 : (i : Int) < (N : Int) := by omega
      have q64 : (i : Int) < 64 := by have := HN6.out; omega
      have HLT := Lib.hid hlt
      have hC := (grown_far HB.out (Array.getElem?_eq_some_iff.1 HC.out).1).trans HC.out
      have HCC := Lib.hid hC
      have x0 : wr.cell? ⟨bx, 0, none⟩ = some (.int .i64 5) := (cell_of hC).trans rfl
      have x1 : wr.cell? ⟨bx, 1, none⟩ = some (.int .i64 (A : Int)) := (cell_of hC).trans rfl
      have x2 : wr.cell? ⟨bx, 2, none⟩ = some (.int .i64 (B : Int)) := (cell_of hC).trans rfl
      have x3 : wr.cell? ⟨bx, 3, none⟩ = some (.int .i64 (C : Int)) := (cell_of hC).trans rfl
      have HWR := Lib.hid (grown_trans HWB.out HB.out)
      have QL := Lib.hid (show ((List.range i).map fun i => (ent ts A i == ent ts B i)).length ≤ 1000000 from by rw [List.length_map, List.length_range]; have := HN6.out; omega)
      have kA0 := (World.cell?_of_block (a := ⟨bo, oo + A, none⟩) (grown_far HWR.out HBO.out)).trans HKA.out
      have kA1 := (World.cell?_of_block (a := ⟨bA, oA + i, none⟩) (grown_far HWR.out HBA.out)).trans (HLA.out i hlt)
      obtain ⟨a, ea⟩ : ∃ a, ent ts A i = a := ⟨_, rfl⟩
      rw [ea] at kA1
      have kB0 := (World.cell?_of_block (a := ⟨bo, oo + B, none⟩) (grown_far HWR.out HBO.out)).trans HKB.out
      have kB1 := (World.cell?_of_block (a := ⟨bB, oB + i, none⟩) (grown_far HWR.out HBB.out)).trans (HLB.out i hlt)
      obtain ⟨b, eb⟩ : ∃ b, ent ts B i = b := ⟨_, rfl⟩
      rw [eb] at kB1
      have HX := Lib.hid (show ((ent ts A i == ent ts B i)) = ((a == b)) from by rw [ea, eb])
      clear hC hk hm hb hlt ea eb
      go_wp2
      refine wp_region_T (S := fun w' => ∀ k ∈ [bx, bo, bA, bB], w'.heap[k]? = wr.heap[k]?) (tail := fun _ => false) (by kernel_rfl) ?_
      change wpAnyT _ _ _ _ _ _ _ _ _ (World.drew wr)
      have BD := Lib.hid (show ∀ k ∈ [bx, bo, bA, bB], (World.drew wr).heap[k]? = wr.heap[k]? from fun _ _ => rfl)
      refine tk 0 44 (.slice (some ⟨bo, oo, none⟩) M co) BD.out ?y0 ?_
      case y0 =>
        intro w' hw'
        go_simp
      try simp only [Act.put, List.setIfInBounds_toArray, List.set_cons_zero, List.set_cons_succ]
      refine tk 1 45 (.pointer (some ⟨bx, 1, none⟩)) BD.out ?y1 ?_
      case y1 =>
        intro w' hw'
        go_simp
      try simp only [Act.put, List.setIfInBounds_toArray, List.set_cons_zero, List.set_cons_succ]
      refine tk 2 46 (.int .i64 ((A : Nat) : Int)) BD.out ?y2 ?_
      case y2 =>
        intro w' hw'
        have z0 := (World.cell?_of_block (a := ⟨bx, 1, none⟩) (hw' bx (by simp))).trans x1
        go_simp
      try simp only [Act.put, List.setIfInBounds_toArray, List.set_cons_zero, List.set_cons_succ]
      refine tk 3 47 (.pointer (some ⟨bo, oo + A, none⟩)) BD.out ?y3 ?_
      case y3 =>
        intro w' hw'
        go_simp
      try simp only [Act.put, List.setIfInBounds_toArray, List.set_cons_zero, List.set_cons_succ]
      refine tk 4 48 (.slice (some ⟨bA, oA, none⟩) N cA) BD.out ?y4 ?_
      case y4 =>
        intro w' hw'
        have z0 := (World.cell?_of_block (a := ⟨bo, oo + A, none⟩) (hw' bo (by simp))).trans kA0
        go_simp
      try simp only [Act.put, List.setIfInBounds_toArray, List.set_cons_zero, List.set_cons_succ]
      refine tk 5 49 (.int .i64 ((i : Nat) : Int)) BD.out ?y5 ?_
      case y5 =>
        intro w' hw'
        go_simp
      try simp only [Act.put, List.setIfInBounds_toArray, List.set_cons_zero, List.set_cons_succ]
      refine tk 6 50 (.pointer (some ⟨bA, oA + i, none⟩)) BD.out ?y6 ?_
      case y6 =>
        intro w' hw'
        go_simp
      try simp only [Act.put, List.setIfInBounds_toArray, List.set_cons_zero, List.set_cons_succ]
      refine tk 7 51 (.bool a) BD.out ?y7 ?_
      case y7 =>
        intro w' hw'
        have z0 := (World.cell?_of_block (a := ⟨bA, oA + i, none⟩) (hw' bA (by simp))).trans kA1
        go_simp
      try simp only [Act.put, List.setIfInBounds_toArray, List.set_cons_zero, List.set_cons_succ]
      refine tk 8 52 (.slice (some ⟨bo, oo, none⟩) M co) BD.out ?y8 ?_
      case y8 =>
        intro w' hw'
        go_simp
      try simp only [Act.put, List.setIfInBounds_toArray, List.set_cons_zero, List.set_cons_succ]
      refine tk 9 53 (.pointer (some ⟨bx, 2, none⟩)) BD.out ?y9 ?_
      case y9 =>
        intro w' hw'
        go_simp
      try simp only [Act.put, List.setIfInBounds_toArray, List.set_cons_zero, List.set_cons_succ]
      refine tk 10 54 (.int .i64 ((B : Nat) : Int)) BD.out ?y10 ?_
      case y10 =>
        intro w' hw'
        have z0 := (World.cell?_of_block (a := ⟨bx, 2, none⟩) (hw' bx (by simp))).trans x2
        go_simp
      try simp only [Act.put, List.setIfInBounds_toArray, List.set_cons_zero, List.set_cons_succ]
      refine tk 11 55 (.pointer (some ⟨bo, oo + B, none⟩)) BD.out ?y11 ?_
      case y11 =>
        intro w' hw'
        go_simp
      try simp only [Act.put, List.setIfInBounds_toArray, List.set_cons_zero, List.set_cons_succ]
      refine tk 12 56 (.slice (some ⟨bB, oB, none⟩) N cB) BD.out ?y12 ?_
      case y12 =>
        intro w' hw'
        have z0 := (World.cell?_of_block (a := ⟨bo, oo + B, none⟩) (hw' bo (by simp))).trans kB0
        go_simp
      try simp only [Act.put, List.setIfInBounds_toArray, List.set_cons_zero, List.set_cons_succ]
      refine tk 13 57 (.int .i64 ((i : Nat) : Int)) BD.out ?y13 ?_
      case y13 =>
        intro w' hw'
        go_simp
      try simp only [Act.put, List.setIfInBounds_toArray, List.set_cons_zero, List.set_cons_succ]
      refine tk 14 58 (.pointer (some ⟨bB, oB + i, none⟩)) BD.out ?y14 ?_
      case y14 =>
        intro w' hw'
        go_simp
      try simp only [Act.put, List.setIfInBounds_toArray, List.set_cons_zero, List.set_cons_succ]
      refine tk 15 59 (.bool b) BD.out ?y15 ?_
      case y15 =>
        intro w' hw'
        have z0 := (World.cell?_of_block (a := ⟨bB, oB + i, none⟩) (hw' bB (by simp))).trans kB1
        go_simp
      try simp only [Act.put, List.setIfInBounds_toArray, List.set_cons_zero, List.set_cons_succ]
      refine tk 16 60 (.bool (a == b)) BD.out ?y16 ?_
      case y16 =>
        intro w' hw'
        go_simp
        try rfl
        try (cases a <;> cases b <;> rfl)
      try simp only [Act.put, List.setIfInBounds_toArray, List.set_cons_zero, List.set_cons_succ]
      refine tk 17 9 (.bool (a == b)) BD.out ?y17 ?_
      case y17 =>
        intro w' hw'
        go_simp
      try simp only [Act.put, List.setIfInBounds_toArray, List.set_cons_zero, List.set_cons_succ]
      refine dn ?_
      have HMd := Lib.hid (HM.out.grown (grown_drewN wr 1))
      have HBd := Lib.hid (grown_trans HB.out (grown_drewN wr 1))
      have QB := fun o : Obj => Lib.hid (show wb.heap.size ≤ ((World.drew wr).alloc o).heap.size from Nat.le_trans HBd.out.size (by simp))
      go_wp2_with (at_builtin; refine wpList_push _ rfl (.tmp 162) (.tmp 164) 32 rfl 4 i0 (.bool false) 1 Try.underlying32 hi0 hz0 hz1 hz2 rfl (by decide) wb.heap.size _ _ _ rfl (HMd.out.alloc _) (World.drew wr).heap.size 1 _ rfl (cell_new _ _ _) rfl QL.out (QB _).out ?_; intro o2 w5 hown2 hgrow2 _; have HO2 := Lib.hid hown2; have HG5 := Lib.hid hgrow2; clear hown2 hgrow2)
      go_roundw
      case rel => exact ⟨i + 1, by go_num, HLT.out, Lib.hid (by unfold BRow; rw [List.range_succ, List.map_append, List.map_append]; simpa [HX.out] using HO2.out), Lib.hid (grown_own (grown_trans HBd.out (grown_alloc (World.drew wr) _)) (fun b hb => (HMd.out.lt b hb).1) HG5.out)⟩
      case measure => simp [intOf]; have := HLT.out; omega
    · obtain rfl : i = N := by omega
      have q1 : ¬ (i : Int) < 2 ^ n := not_lt_pow HNN.out
      clear hk hlt hm hb
      go_wp2
      go_ret
      exact ⟨_, rfl, World.ownsRow.mono HM.out (by have := HWB.out.size; have := HBX.out; omega), grown_trans HWB.out HB.out⟩

end Go.Proofs.Ytailpphafoamfaa
namespace Go.Proofs.Ytailpphafoamfaa
open Go Go.RowKit Go.Maps


/-- A row of bools of whoever calls. -/
def BoolsO (w : World) (o : Nat → Nat) (v : Value) (l : List Bool) : Prop := ∃ A c, v = .slice A l.length c ∧ (l ≠ [] → ∃ b off, A = some ⟨b, off, none⟩ ∧ b < w.heap.size ∧ o b = 0 ∧ (∀ j x, l[j]? = some x → w.cell? ⟨b, off + j, none⟩ = some (.bool x)) ∧ l.length ≤ c)
/-- Where a table is from: entry A of the tables, or made. -/
def From (w : World) (lv : Value) (A : Nat) (v : Value) : Prop := (∃ b off M c, lv = .slice (some ⟨b, off, none⟩) M c ∧ A < M ∧ w.cell? ⟨b, off + A, none⟩ = some v) ∨ Fresh w.heap.size v
/-- Tables of whoever calls. -/
def TabsO (w : World) (o : Nat → Nat) (v : Value) (ts : List (List Bool)) : Prop := ∃ A c, v = .slice A ts.length c ∧ (ts ≠ [] → ∃ b off, A = some ⟨b, off, none⟩ ∧ b < w.heap.size ∧ o b = 0 ∧ ∀ j t, ts[j]? = some t → ∃ u, w.cell? ⟨b, off + j, none⟩ = some u ∧ BoolsO w o u t)
section
variable {w w' : World} {o o' : Nat → Nat} {v : Value} {ts : List (List Bool)} {l : List Bool}
theorem BoolsO.bools (h : BoolsO w o v l) : Bools w v l := by
  obtain ⟨A, c, h1, h2⟩ := h
  refine ⟨A, c, h1, fun hne => ?_⟩
  obtain ⟨b, off, h3, h4, -, h6, -⟩ := h2 hne
  exact ⟨b, off, h3, h4, h6⟩
theorem Bools.tag (h : Bools w v l) (hcap : Cap v) (ht : ∀ b, v.ownBlock = some b → o b = 0) : BoolsO w o v l := by
  obtain ⟨A, c, h1, h2⟩ := h
  refine ⟨A, c, h1, fun hne => ?_⟩
  obtain ⟨b, off, rfl, h4, h6⟩ := h2 hne
  exact ⟨b, off, rfl, h4, ht b (by rw [h1]; rfl), h6, hcap _ _ _ h1⟩
theorem BRow.tag {base : Nat} (h : BRow base w v l) (ht : ∀ b, v.ownBlock = some b → o b = 0) : BoolsO w o v l := h.bools.tag h.cap ht
theorem BoolsO.cap (h : BoolsO w o v l) : Cap v := by
  intro A n c e
  obtain ⟨A', c', h1, h2⟩ := h
  rw [h1] at e
  cases e
  by_cases hl : l = []
  · subst hl; exact Nat.zero_le _
  · obtain ⟨b, off, -, -, -, -, h7⟩ := h2 hl
    exact h7
theorem BoolsO.own (h : BoolsO w o v l) (hne : l ≠ []) : ∀ b, v.ownBlock = some b → o b = 0 := by
  obtain ⟨A, c, h1, h2⟩ := h
  obtain ⟨b, off, rfl, h4, h5, h6, -⟩ := h2 hne
  intro b' hb'
  rw [h1] at hb'
  cases hb'
  exact h5
theorem BoolsO.keep {T : Nat → Bool} (h : BoolsO w o v l) (k : Keep T w o w' o') (t0 : T 0 = false) : BoolsO w' o' v l := by
  obtain ⟨A, c, h1, h2⟩ := h
  refine ⟨A, c, h1, fun hne => ?_⟩
  obtain ⟨b, off, rfl, h5, h3, h6, h7⟩ := h2 hne
  exact ⟨b, off, rfl, Nat.lt_of_lt_of_le h5 k.size, (k.own b h5).trans h3, fun j x hx => (World.cell?_of_block (a := ⟨b, off + j, none⟩) (k.blk b h5 (by rw [h3]; exact t0))).trans (h6 j x hx), h7⟩
theorem TabsO.keep {T : Nat → Bool} (h : TabsO w o v ts) (k : Keep T w o w' o') (t0 : T 0 = false) : TabsO w' o' v ts := by
  obtain ⟨A, c, h1, h2⟩ := h
  refine ⟨A, c, h1, fun hne => ?_⟩
  obtain ⟨b, off, rfl, h5, h3, h6⟩ := h2 hne
  refine ⟨b, off, rfl, Nat.lt_of_lt_of_le h5 k.size, (k.own b h5).trans h3, fun j t ht => ?_⟩
  obtain ⟨u, h7, h8⟩ := h6 j t ht
  exact ⟨u, (World.cell?_of_block (a := ⟨b, off + j, none⟩) (k.blk b h5 (by rw [h3]; exact t0))).trans h7, h8.keep k t0⟩
theorem TabsO.tabs (h : TabsO w o v ts) : Tabs w v ts := by
  obtain ⟨A, c, h1, h2⟩ := h
  refine ⟨A, c, h1, fun hne => ?_⟩
  obtain ⟨b, off, h3, h4, -, h6⟩ := h2 hne
  refine ⟨b, off, h3, h4, fun j t ht => ?_⟩
  obtain ⟨u, h7, h8⟩ := h6 j t ht
  exact ⟨u, h7, h8.bools⟩
theorem TabsO.at_ (h : TabsO w o v ts) {M j0 : Nat} (hM : ts.length = M) (hj0 : j0 < M) : ∃ b off c, v = .slice (some ⟨b, off, none⟩) M c ∧ b < w.heap.size ∧ o b = 0 ∧ ∀ j, j < M → ∃ u, w.cell? ⟨b, off + j, none⟩ = some u ∧ BoolsO w o u (ts.getD j []) := by
  obtain ⟨A, c, h1, h2⟩ := h
  obtain ⟨b, off, rfl, h4, h5, h6⟩ := h2 (by intro e; rw [e] at hM; simp at hM; omega)
  refine ⟨b, off, c, by rw [h1, hM], h4, h5, fun j hj => ?_⟩
  have hj' : j < ts.length := by omega
  obtain ⟨u, h7, h8⟩ := h6 j ts[j] (List.getElem?_eq_getElem hj')
  refine ⟨u, h7, ?_⟩
  rw [List.getD_eq_getElem?_getD, List.getElem?_eq_getElem hj']
  exact h8
end
set_option maxHeartbeats 8000000 in
set_option maxRecDepth 100000 in
theorem rdo6_any {w : World} {o : Nat → Nat} {lv vv : Value} {n A B C : Nat} {ts : List (List Bool)} {vs : List Nat} (hnew : ∀ k, w.heap.size ≤ k → o k = 0) (hl : TabsO w o lv ts) (hn : n ≤ 6) (hts : ∀ t ∈ ts, t.length = 2 ^ n) (hM1 : ts.length ≤ 1000000) (hA : A < ts.length)
    (hv : Nums w vv (vs.map fun (x : Nat) => (x : Int))) (hvn : vs.length ≤ 1000) (hvl : ∀ v ∈ vs, v < n) :
    Calls Try.prog 26 #[.int .i64 (n : Int), .agg #[.int .i64 6, .int .i64 (A : Int), .int .i64 (B : Int), .int .i64 (C : Int), vv], lv] w fun e w' => ∃ v, e = .returned v ∧ BoolsO w' o v (vs.foldl (fun t v => exT t n v) (ts.getD A [])) ∧ w.grownBy w' none ∧ From w lv A v := by
  have HN := Lib.hid hn
  have HNEW := Lib.hid hnew
  obtain ⟨N, hN⟩ : ∃ N, 2 ^ n = N := ⟨_, rfl⟩
  obtain ⟨M, hM⟩ : ∃ M, ts.length = M := ⟨_, rfl⟩
  rw [hM] at hA hM1
  have qM : (M : Int) ≤ 1000000 := by omega
  have qA : (A : Int) < (M : Int) := by omega
  have qn : (n : Int) ≤ 6 := by omega
  obtain ⟨bo, oo, co, rfl, hbo, -, hat⟩ := hl.at_ hM hA
  obtain ⟨u, kA, hbA⟩ := hat A hA
  have hA' : A < ts.length := by omega
  have htA : (ts.getD A []).length = N := by
    rw [List.getD_eq_getElem?_getD, List.getElem?_eq_getElem hA', ← hN]
    exact hts _ (List.getElem_mem hA')
  obtain ⟨bA, oA, cA, rfl, -, -⟩ := hbA.bools.at_ htA (i := 0) (by rw [← hN]; exact Nat.two_pow_pos n)
  have HBA := Lib.hid hbA
  have HTA := Lib.hid (show (ts.getD A []).length = 2 ^ n from htA.trans hN.symm)
  have HKA := Lib.hid kA
  have HBO := Lib.hid hbo
  have HV := Lib.hid hv
  have HVN := Lib.hid hvn
  have HVL := Lib.hid hvl
  clear hat hl hts hbo hM hM1 hA hA' kA hv hvn hvl hnew hn
  go_enter Try.func26, Try.ntmps26
  obtain ⟨wb, hwb⟩ : ∃ wb, w.alloc (.cells #[.int .i64 6, .int .i64 (A : Int), .int .i64 (B : Int), .int .i64 (C : Int), vv] 51) = wb := ⟨_, rfl⟩
  have HWB := Lib.hid (show w.grownBy wb none from by rw [← hwb]; exact grown_alloc _ _)
  obtain ⟨bx, hbx⟩ : ∃ bx, w.heap.size = bx := ⟨_, rfl⟩
  have HC := Lib.hid (show wb.heap[bx]? = some (.cells #[.int .i64 6, .int .i64 (A : Int), .int .i64 (B : Int), .int .i64 (C : Int), vv] 51 (0, 0)) from by rw [← hwb, ← hbx]; exact (MapKept.heap_alloc w _).1)
  have HBX := Lib.hid hbx
  have x0 : wb.cell? ⟨bx, 0, none⟩ = some (.int .i64 6) := (cell_of HC.out).trans rfl
  have x1 : wb.cell? ⟨bx, 1, none⟩ = some (.int .i64 (A : Int)) := (cell_of HC.out).trans rfl
  have x4 : wb.cell? ⟨bx, 4, none⟩ = some vv := (cell_of HC.out).trans rfl
  have kA0 := (World.cell?_of_block (a := ⟨bo, oo + A, none⟩) (grown_far HWB.out HBO.out)).trans HKA.out
  have HLT2 := Lib.hid (show ∀ k ∈ [bx, bo], k < (World.drew wb).heap.size from fun k hk => by
    simp at hk
    rcases hk with rfl | rfl
    · exact (Array.getElem?_eq_some_iff.1 HC.out).1
    · exact Nat.lt_of_lt_of_le HBO.out HWB.out.size)
  have HCALL := Lib.hid (fun (z : World) (hz : z = World.drew wb) => rexists_any (w := z) (n := n) (l := vs) (t := ts.getD A []) ((HBA.out.bools.grown HWB.out).grown (by rw [hz]; exact grown_drewN wb 1)) ((HV.out.grown HWB.out).grown (by rw [hz]; exact grown_drewN wb 1)) HVL.out HN.out HTA.out HVN.out)
  clear hbA htA hN
  go_wp2
  refine wp_region_T (S := fun w' => ∀ k ∈ [bx, bo], w'.heap[k]? = wb.heap[k]?) (tail := fun _ => false) (by kernel_rfl) ?_
  change wpAnyT _ _ _ _ _ _ _ _ _ (World.drew wb)
  have BD := Lib.hid (show ∀ k ∈ [bx, bo], (World.drew wb).heap[k]? = wb.heap[k]? from fun _ _ => rfl)
  refine tk 0 14 (.slice (some ⟨bo, oo, none⟩) M co) BD.out ?y0 ?_
  case y0 =>
    intro w' hw'
    go_simp
  try simp only [Act.put, List.setIfInBounds_toArray, List.set_cons_zero, List.set_cons_succ]
  refine tk 1 15 (.pointer (some ⟨bx, 1, none⟩)) BD.out ?y1 ?_
  case y1 =>
    intro w' hw'
    go_simp
  try simp only [Act.put, List.setIfInBounds_toArray, List.set_cons_zero, List.set_cons_succ]
  refine tk 2 16 (.int .i64 ((A : Nat) : Int)) BD.out ?y2 ?_
  case y2 =>
    intro w' hw'
    have z0 := (World.cell?_of_block (a := ⟨bx, 1, none⟩) (hw' bx (by simp))).trans x1
    go_simp
  try simp only [Act.put, List.setIfInBounds_toArray, List.set_cons_zero, List.set_cons_succ]
  refine tk 3 17 (.pointer (some ⟨bo, oo + A, none⟩)) BD.out ?y3 ?_
  case y3 =>
    intro w' hw'
    go_simp
  try simp only [Act.put, List.setIfInBounds_toArray, List.set_cons_zero, List.set_cons_succ]
  refine tk 4 18 (.slice (some ⟨bA, oA, none⟩) N cA) BD.out ?y4 ?_
  case y4 =>
    intro w' hw'
    have z0 := (World.cell?_of_block (a := ⟨bo, oo + A, none⟩) (hw' bo (by simp))).trans kA0
    go_simp
  try simp only [Act.put, List.setIfInBounds_toArray, List.set_cons_zero, List.set_cons_succ]
  refine tk 5 19 (.int .i64 ((n : Nat) : Int)) BD.out ?y5 ?_
  case y5 =>
    intro w' hw'
    go_simp
  try simp only [Act.put, List.setIfInBounds_toArray, List.set_cons_zero, List.set_cons_succ]
  refine tk 6 20 (.pointer (some ⟨bx, 4, none⟩)) BD.out ?y6 ?_
  case y6 =>
    intro w' hw'
    go_simp
  try simp only [Act.put, List.setIfInBounds_toArray, List.set_cons_zero, List.set_cons_succ]
  refine tk 7 21 (vv) BD.out ?y7 ?_
  case y7 =>
    intro w' hw'
    have z0 := (World.cell?_of_block (a := ⟨bx, 4, none⟩) (hw' bx (by simp))).trans x4
    go_simp
  try simp only [Act.put, List.setIfInBounds_toArray, List.set_cons_zero, List.set_cons_succ]
  refine on 8 (fun K hK => ?_)
  go_simp
  refine (HCALL.out (World.drew wb) rfl).mono ?_
  rintro e z1 ⟨v1, rfl, hr1, hg1, hf1⟩
  have B1 := Lib.hid (show ∀ k ∈ [bx, bo], z1.heap[k]? = wb.heap[k]? from fun k hk => grown_far hg1 (HLT2.out k hk))
  have HR1 := Lib.hid hr1
  have HG1 := Lib.hid hg1
  have HF1 := Lib.hid hf1
  clear hf1
  clear hr1 hg1
  refine hK.out _ _ (fun _ => B1.out) ?_
  clear hK K
  try simp only [Act.put, List.setIfInBounds_toArray, List.set_cons_zero, List.set_cons_succ]
  refine on 9 (fun K hK => ?_)
  go_simp
  refine hK.out _ _ (fun _ => B1.out) ?_
  clear hK K
  try simp only [Act.put, List.setIfInBounds_toArray, List.set_cons_zero, List.set_cons_succ]
  refine dn ?_
  go_wp2
  go_ret
  refine ⟨_, rfl, ?_, grown_trans (grown_trans HWB.out (grown_drewN wb 1)) HG1.out, ?_⟩
  rotate_left
  · rcases HF1.out with e1 | e1
    · subst e1
      exact .inl ⟨bo, oo, M, co, rfl, by omega, HKA.out⟩
    · exact .inr ⟨fun b hb => (by have := e1.1 b hb; have := HWB.out.size; have h3 : (World.drew wb).heap.size = wb.heap.size := rfl; omega), e1.2⟩
  refine HR1.out.tag (HF1.out.elim (fun e1 => by subst e1; exact HBA.out.cap) fun e1 => e1.2) fun b hb => ?_
  rcases HF1.out with e1 | e1
  · subst e1
    exact HBA.out.own (by intro e; have := HTA.out; rw [e] at this; have := Nat.two_pow_pos n; simp at *; omega) b hb
  · exact HNEW.out b (by have := e1.1 b hb; have := HWB.out.size; have := HBX.out; have h3 : (World.drew wb).heap.size = wb.heap.size := rfl; omega)
set_option maxHeartbeats 8000000 in
set_option maxRecDepth 100000 in
theorem rdo7_any {w : World} {o : Nat → Nat} {lv vv : Value} {n A B C : Nat} {ts : List (List Bool)} {vs : List Nat} (hnew : ∀ k, w.heap.size ≤ k → o k = 0) (hl : TabsO w o lv ts) (hn : n ≤ 6) (hts : ∀ t ∈ ts, t.length = 2 ^ n) (hM1 : ts.length ≤ 1000000) (hA : A < ts.length)
    (hv : Nums w vv (vs.map fun (x : Nat) => (x : Int))) (hvn : vs.length ≤ 1000) (hr : RenamesT (ts.getD A []) n (vs.map fun (x : Nat) => (x : Int))) :
    Calls Try.prog 26 #[.int .i64 (n : Int), .agg #[.int .i64 7, .int .i64 (A : Int), .int .i64 (B : Int), .int .i64 (C : Int), vv], lv] w fun e w' => ∃ v, e = .returned v ∧ BoolsO w' o v (renT (ts.getD A []) n (vs.map fun (x : Nat) => (x : Int))) ∧ w.grownBy w' none ∧ From w lv A v := by
  have HN := Lib.hid hn
  have HNEW := Lib.hid hnew
  obtain ⟨N, hN⟩ : ∃ N, 2 ^ n = N := ⟨_, rfl⟩
  obtain ⟨M, hM⟩ : ∃ M, ts.length = M := ⟨_, rfl⟩
  rw [hM] at hA hM1
  have qM : (M : Int) ≤ 1000000 := by omega
  have qA : (A : Int) < (M : Int) := by omega
  have qn : (n : Int) ≤ 6 := by omega
  obtain ⟨bo, oo, co, rfl, hbo, -, hat⟩ := hl.at_ hM hA
  obtain ⟨u, kA, hbA⟩ := hat A hA
  have hA' : A < ts.length := by omega
  have htA : (ts.getD A []).length = N := by
    rw [List.getD_eq_getElem?_getD, List.getElem?_eq_getElem hA', ← hN]
    exact hts _ (List.getElem_mem hA')
  obtain ⟨bA, oA, cA, rfl, -, -⟩ := hbA.bools.at_ htA (i := 0) (by rw [← hN]; exact Nat.two_pow_pos n)
  have HBA := Lib.hid hbA
  have HTA := Lib.hid (show (ts.getD A []).length = 2 ^ n from htA.trans hN.symm)
  have HKA := Lib.hid kA
  have HBO := Lib.hid hbo
  have HV := Lib.hid hv
  have HVN := Lib.hid hvn
  have HVL := Lib.hid hr
  clear hat hl hts hbo hM hM1 hA hA' kA hv hvn hr hnew hn
  go_enter Try.func26, Try.ntmps26
  obtain ⟨wb, hwb⟩ : ∃ wb, w.alloc (.cells #[.int .i64 7, .int .i64 (A : Int), .int .i64 (B : Int), .int .i64 (C : Int), vv] 51) = wb := ⟨_, rfl⟩
  have HWB := Lib.hid (show w.grownBy wb none from by rw [← hwb]; exact grown_alloc _ _)
  obtain ⟨bx, hbx⟩ : ∃ bx, w.heap.size = bx := ⟨_, rfl⟩
  have HC := Lib.hid (show wb.heap[bx]? = some (.cells #[.int .i64 7, .int .i64 (A : Int), .int .i64 (B : Int), .int .i64 (C : Int), vv] 51 (0, 0)) from by rw [← hwb, ← hbx]; exact (MapKept.heap_alloc w _).1)
  have HBX := Lib.hid hbx
  have x0 : wb.cell? ⟨bx, 0, none⟩ = some (.int .i64 7) := (cell_of HC.out).trans rfl
  have x1 : wb.cell? ⟨bx, 1, none⟩ = some (.int .i64 (A : Int)) := (cell_of HC.out).trans rfl
  have x4 : wb.cell? ⟨bx, 4, none⟩ = some vv := (cell_of HC.out).trans rfl
  have kA0 := (World.cell?_of_block (a := ⟨bo, oo + A, none⟩) (grown_far HWB.out HBO.out)).trans HKA.out
  have HLT2 := Lib.hid (show ∀ k ∈ [bx, bo], k < (World.drew wb).heap.size from fun k hk => by
    simp at hk
    rcases hk with rfl | rfl
    · exact (Array.getElem?_eq_some_iff.1 HC.out).1
    · exact Nat.lt_of_lt_of_le HBO.out HWB.out.size)
  have HCALL := Lib.hid (fun (z : World) (hz : z = World.drew wb) => rrename_any (w := z) (n := n) (t := ts.getD A []) ((HBA.out.bools.grown HWB.out).grown (by rw [hz]; exact grown_drewN wb 1)) ((HV.out.grown HWB.out).grown (by rw [hz]; exact grown_drewN wb 1)) HN.out HTA.out HVL.out)
  clear hbA htA hN
  go_wp2
  refine wp_region_T (S := fun w' => ∀ k ∈ [bx, bo], w'.heap[k]? = wb.heap[k]?) (tail := fun _ => false) (by kernel_rfl) ?_
  change wpAnyT _ _ _ _ _ _ _ _ _ (World.drew wb)
  have BD := Lib.hid (show ∀ k ∈ [bx, bo], (World.drew wb).heap[k]? = wb.heap[k]? from fun _ _ => rfl)
  refine tk 0 25 (.slice (some ⟨bo, oo, none⟩) M co) BD.out ?y0 ?_
  case y0 =>
    intro w' hw'
    go_simp
  try simp only [Act.put, List.setIfInBounds_toArray, List.set_cons_zero, List.set_cons_succ]
  refine tk 1 26 (.pointer (some ⟨bx, 1, none⟩)) BD.out ?y1 ?_
  case y1 =>
    intro w' hw'
    go_simp
  try simp only [Act.put, List.setIfInBounds_toArray, List.set_cons_zero, List.set_cons_succ]
  refine tk 2 27 (.int .i64 ((A : Nat) : Int)) BD.out ?y2 ?_
  case y2 =>
    intro w' hw'
    have z0 := (World.cell?_of_block (a := ⟨bx, 1, none⟩) (hw' bx (by simp))).trans x1
    go_simp
  try simp only [Act.put, List.setIfInBounds_toArray, List.set_cons_zero, List.set_cons_succ]
  refine tk 3 28 (.pointer (some ⟨bo, oo + A, none⟩)) BD.out ?y3 ?_
  case y3 =>
    intro w' hw'
    go_simp
  try simp only [Act.put, List.setIfInBounds_toArray, List.set_cons_zero, List.set_cons_succ]
  refine tk 4 29 (.slice (some ⟨bA, oA, none⟩) N cA) BD.out ?y4 ?_
  case y4 =>
    intro w' hw'
    have z0 := (World.cell?_of_block (a := ⟨bo, oo + A, none⟩) (hw' bo (by simp))).trans kA0
    go_simp
  try simp only [Act.put, List.setIfInBounds_toArray, List.set_cons_zero, List.set_cons_succ]
  refine tk 5 30 (.int .i64 ((n : Nat) : Int)) BD.out ?y5 ?_
  case y5 =>
    intro w' hw'
    go_simp
  try simp only [Act.put, List.setIfInBounds_toArray, List.set_cons_zero, List.set_cons_succ]
  refine tk 6 31 (.pointer (some ⟨bx, 4, none⟩)) BD.out ?y6 ?_
  case y6 =>
    intro w' hw'
    go_simp
  try simp only [Act.put, List.setIfInBounds_toArray, List.set_cons_zero, List.set_cons_succ]
  refine tk 7 32 (vv) BD.out ?y7 ?_
  case y7 =>
    intro w' hw'
    have z0 := (World.cell?_of_block (a := ⟨bx, 4, none⟩) (hw' bx (by simp))).trans x4
    go_simp
  try simp only [Act.put, List.setIfInBounds_toArray, List.set_cons_zero, List.set_cons_succ]
  refine on 8 (fun K hK => ?_)
  go_simp
  refine (HCALL.out (World.drew wb) rfl).mono ?_
  rintro e z1 ⟨v1, rfl, hr1, hg1⟩
  have B1 := Lib.hid (show ∀ k ∈ [bx, bo], z1.heap[k]? = wb.heap[k]? from fun k hk => grown_far hg1 (HLT2.out k hk))
  have HR1 := Lib.hid hr1
  have HG1 := Lib.hid hg1
  clear hr1 hg1
  refine hK.out _ _ (fun _ => B1.out) ?_
  clear hK K
  try simp only [Act.put, List.setIfInBounds_toArray, List.set_cons_zero, List.set_cons_succ]
  refine on 9 (fun K hK => ?_)
  go_simp
  refine hK.out _ _ (fun _ => B1.out) ?_
  clear hK K
  try simp only [Act.put, List.setIfInBounds_toArray, List.set_cons_zero, List.set_cons_succ]
  refine dn ?_
  go_wp2
  go_ret
  refine ⟨_, rfl, HR1.out.tag fun b hb => HNEW.out b ?_, grown_trans (grown_trans HWB.out (grown_drewN wb 1)) HG1.out, .inr ⟨fun b hb => (by have := (HR1.out.lt b hb).1; have := HWB.out.size; have h3 : (World.drew wb).heap.size = wb.heap.size := rfl; omega), HR1.out.cap⟩⟩
  have := (HR1.out.lt b hb).1
  have := HWB.out.size
  have := HBX.out
  have h3 : (World.drew wb).heap.size = wb.heap.size := rfl
  omega

end Go.Proofs.Ytailpphafoamfaa
namespace Go.Proofs.Ytailpphafoamfaa
open Go Go.RowKit Go.Maps

/-- A row of nums of the call's own. -/
def IRow (base : Nat) (w : World) (v : Value) (l : List Int) : Prop := w.ownsRow base 3 1 v l.length (l.map (Value.int .i64))
section
variable {w w' : World} {base : Nat} {v : Value} {l : List Int}
theorem IRow.form (h : IRow base w v l) : ∃ A c, v = .slice A l.length c := by
  obtain ⟨-, h2⟩ := h
  rcases h2 with ⟨rfl, h3⟩ | ⟨g, cap, cur, rfl, -⟩
  · exact ⟨none, 0, by rw [h3]⟩
  · exact ⟨_, _, rfl⟩
theorem IRow.nums (h : IRow base w v l) : Nums w v l := by
  have h0 := h
  obtain ⟨-, h2⟩ := h
  rcases h2 with ⟨rfl, h3⟩ | ⟨g, cap, cur, rfl, hb, hh, h4, h5, h6, h7⟩
  · exact ⟨none, 0, by rw [h3], fun hne => absurd (List.eq_nil_of_length_eq_zero h3) hne⟩
  · refine ⟨_, _, rfl, fun _ => ⟨g, 0, rfl, (Array.getElem?_eq_some_iff.1 hh).1, fun j x hx => ?_⟩⟩
    have h8 := World.ownsRow.cells (g := g) h0 rfl j (.int .i64 x) (by rw [List.getElem?_map, hx]; rfl)
    unfold Addr.add at h8
    by_cases e : j = 0
    · subst e; simpa using h8
    · simpa [e] using h8
theorem IRow.nil (w : World) (base : Nat) : IRow base w (.slice none 0 0) [] := World.ownsRow_nil _ _ _ _
theorem IRow.made (w : World) (hb : base ≤ w.heap.size) : IRow base (w.alloc (.cells #[] 3)) (.slice (some ⟨w.heap.size, 0, none⟩) 0 0) [] := World.ownsRow_made w #[] 0 hb (Nat.zero_le _) rfl
theorem IRow.lt (h : IRow base w v l) : ∀ k, v.ownBlock = some k → base ≤ k ∧ k < w.heap.size := World.ownsRow.lt h
theorem IRow.alloc (h : IRow base w v l) (o : Obj) : IRow base (w.alloc o) v l := World.ownsRow.alloc h o
theorem IRow.grown (h : IRow base w v l) (hg : w.grownBy w' none) : IRow base w' v l := World.ownsRow.kept h hg (by
  cases v.ownBlock with
  | none => exact .inl rfl
  | some k => exact .inr (by simp))
theorem IRow.drew (h : IRow base w v l) (n : Nat) : IRow base (w.drewN n) v l := h.grown (grown_drewN w n)
end
theorem info3 : (Try.prog.info? 3).map (fun i => (i.zero, i.size, i.bytes)) = some (some (.int .i64 0), 1, 8) := by kernel_rfl
/-- An act's numbers that fit. -/
def fitK (K : Int) : Int := K % 8
def fitV (vs : List Int) (n : Nat) : List Int := (vs.take n).map fun x => x % (n : Int)
def actV (K A B C : Int) (v : Value) : Value := .agg #[.int .i64 K, .int .i64 A, .int .i64 B, .int .i64 C, v]
theorem heap_other {w : World} {a : Addr} {k : Nat} {v : Value} (h : k ≠ a.block) : (w.setCell a v).heap[k]? = w.heap[k]? := Below.heap_setCell _ _ _ _ h
theorem IRow.set_other {w : World} {base : Nat} {v : Value} {l : List Int} (h : IRow base w v l) {a : Addr} {x : Value} (ha : a.block < base) : IRow base (w.setCell a x) v l := World.ownsRow.kept h (grown_set w a x) (by
  cases hv : v.ownBlock with
  | none => exact .inl rfl
  | some k => right; intro e; have := (h.lt k hv).1; simp at e; omega)
theorem grown_set_new {w w' : World} {a : Addr} {v : Value} (h : w.grownBy w' none) (ha : w.heap.size ≤ a.block) : w.grownBy (w'.setCell a v) none :=
  ⟨h.os, h.tape, h.output, by have := h.size; simpa [World.setCell] using this, fun k hk _ => (heap_other (by omega)).trans (h.block k hk (by simp))⟩
def FitPost (w : World) (K A B C : Int) (vs : List Int) (e : Ending) (w' : World) : Prop := ∃ v, e = .returned (actV K A B C v) ∧ IRow w.heap.size w' v vs ∧ w.grownBy w' none
set_option maxHeartbeats 8000000 in
set_option maxRecDepth 100000 in
theorem fitted_zero {w : World} {vv : Value} {K A B C : Int} {vs : List Int} {n m : Nat} (hv : Nums w vv vs) (hn : 1 ≤ n ∧ n ≤ 6) (hm : 1 ≤ m ∧ m ≤ 1000) (hvl : vs.length ≤ 9223372036854775807) (hK : K % 8 = 0) :
    Calls Try.prog 24 #[actV K A B C vv, .int .i64 (n : Int), .int .i64 (m : Int)] w (FitPost w (K % 8) (A % (n : Int)) (B) (C) (fitV vs n)) := by
  obtain ⟨i0, hi0, hz0, hz1, hz2⟩ := info_parts info3
  have HV := Lib.hid hv
  have HN := Lib.hid hn
  obtain ⟨Av, cv, rfl, -⟩ := hv
  obtain ⟨L, hL⟩ : ∃ L, vs.length = L := ⟨_, rfl⟩
  rw [hL] at hvl
  have HL := Lib.hid hL
  rw [hL]
  have qL : (L : Int) ≤ 9223372036854775807 := by omega
  have qn : (n : Int) ≤ 6 := by omega
  have F8 := Lib.hid (fun w => fit_any w K 8 (by decide))
  have FN := Lib.hid (fun w x => fit_any w x (n : Int) (by omega))
  have FM := Lib.hid (fun w x => fit_any w x (m : Int) (by omega))
  obtain ⟨k8, hk8⟩ : ∃ k8, K % 8 = k8 := ⟨_, rfl⟩
  rw [hk8] at hK F8 ⊢
  subst hK
  clear hL hvl hn hm hk8
  unfold actV
  go_enter Try.func24, Try.ntmps24
  obtain ⟨wa, hwa⟩ : ∃ wa, (w.alloc (.cells #[.int .i64 K, .int .i64 A, .int .i64 B, .int .i64 C, .slice Av L cv] 51)).alloc (.cells #[.int .i64 0, .int .i64 0, .int .i64 0, .int .i64 0, .slice none 0 0] 51) = wa := ⟨_, rfl⟩
  obtain ⟨bb, hbb⟩ : ∃ bb, w.heap.size = bb := ⟨_, rfl⟩
  have HBB := Lib.hid hbb
  have HX := Lib.hid (show wa.heap[bb]? = some (.cells #[.int .i64 K, .int .i64 A, .int .i64 B, .int .i64 C, .slice Av L cv] 51 (0, 0)) from by rw [← hwa, ← hbb, heap_alloc_old (by simp)]; exact (MapKept.heap_alloc w _).1)
  have HZ := Lib.hid (show wa.heap[bb + 1]? = some (.cells #[.int .i64 0, .int .i64 0, .int .i64 0, .int .i64 0, .slice none 0 0] 51 (0, 0)) from by rw [← hwa, ← hbb]; have := (MapKept.heap_alloc (w.alloc (.cells #[.int .i64 K, .int .i64 A, .int .i64 B, .int .i64 C, .slice Av L cv] 51)) (.cells #[.int .i64 0, .int .i64 0, .int .i64 0, .int .i64 0, .slice none 0 0] 51)).1; rw [show (w.alloc (.cells #[.int .i64 K, .int .i64 A, .int .i64 B, .int .i64 C, .slice Av L cv] 51)).heap.size = w.heap.size + 1 from by simp] at this; exact this)
  have HWA := Lib.hid (show w.grownBy wa none from by rw [← hwa]; exact grown_trans (grown_alloc _ _) (grown_alloc _ _))
  have x0 : wa.cell? ⟨bb, 0, none⟩ = some (.int .i64 K) := (cell_of HX.out).trans rfl
  have x1 : wa.cell? ⟨bb, 1, none⟩ = some (.int .i64 A) := (cell_of HX.out).trans rfl
  have x2 : wa.cell? ⟨bb, 2, none⟩ = some (.int .i64 B) := (cell_of HX.out).trans rfl
  have x3 : wa.cell? ⟨bb, 3, none⟩ = some (.int .i64 C) := (cell_of HX.out).trans rfl
  have xf := fun i => frz_of HX.out (i := i)
  go_wp2_with fail
  refine (F8.out _).mono ?_
  rintro e w1 ⟨rfl, rfl⟩
  go_wp2_with fail
  refine (FN.out _ _).mono ?_
  rintro e w1 ⟨rfl, rfl⟩
  obtain ⟨wc, hwc⟩ : ∃ wc, (wa.setCell ⟨bb, 0, none⟩ (.int .i64 0)).setCell ⟨bb, 1, none⟩ (.int .i64 (A % (n : Int))) = wc := ⟨_, rfl⟩
  have HXC := Lib.hid (show wc.heap[bb]? = some (.cells #[.int .i64 0, .int .i64 (A % (n : Int)), .int .i64 B, .int .i64 C, .slice Av L cv] 51 (0, 0)) from by rw [← hwc]; exact (heap_set _ (heap_set _ HX.out)).trans (by simp))
  have HZC := Lib.hid (show wc.heap[bb + 1]? = some (.cells #[.int .i64 0, .int .i64 0, .int .i64 0, .int .i64 0, .slice none 0 0] 51 (0, 0)) from by rw [← hwc, heap_other (by simp), heap_other (by simp)]; exact HZ.out)
  have HWC := Lib.hid (show w.grownBy wc none from by rw [← hwc]; exact grown_set_new (grown_set_new HWA.out (by have := HBB.out; simp; omega)) (by have := HBB.out; simp; omega))
  go_wp2
  clear hwc x1 x2 x3
  have c0 : wc.cell? ⟨bb, 0, none⟩ = some (.int .i64 0) := (cell_of HXC.out).trans rfl
  have c4 : wc.cell? ⟨bb, 4, none⟩ = some (.slice Av L cv) := (cell_of HXC.out).trans rfl
  clear x0 xf hwa hbb
  go_loopw [7, 8] (fun a j wr => ∃ i : Nat, j = .int .i64 (i : Int) ∧ i ≤ n ∧ i ≤ L ∧ Hid (IRow wc.heap.size wr a ((vs.take i).map fun x => x % (n : Int))) ∧ Hid (wc.grownBy wr none)) (fun _ j _ => n - (intOf j).toNat)
  case atStart => exact ⟨0, rfl, Nat.zero_le _, Nat.zero_le _, Lib.hid (IRow.made wc (Nat.le_refl _)), Lib.hid (grown_alloc _ _)⟩
  case round =>
    obtain ⟨i, rfl, hk, hk2, hm2, hb⟩ := hrel
    have HM2 := hm2
    have HB := hb
    have HXR := Lib.hid ((grown_far HB.out (Array.getElem?_eq_some_iff.1 HXC.out).1).trans HXC.out)
    have d4 : wr.cell? ⟨bb, 4, none⟩ = some (.slice Av L cv) := (cell_of HXR.out).trans rfl
    by_cases hlt : i < L ∧ i < n
    · have q1 : (i : Int) < (L : Int) := by omega
      have q2 : (i : Int) < (n : Int) := by omega
      have q3 : (i : Int) ≤ 6 := by omega
      obtain ⟨bv, ov, cv2, hsv, hbv, hcv⟩ := (HV.out.grown (grown_trans HWC.out HB.out)).at_ (N := L) HL.out hlt.1
      simp only [HL.out] at hsv
      simp at hsv
      obtain ⟨rfl, rfl⟩ := hsv
      have kv := hcv i hlt.1
      obtain ⟨x, hx⟩ : ∃ x, vs.getD i 0 = x := ⟨_, rfl⟩
      rw [hx] at kv
      have HTK := Lib.hid (show vs.take (i + 1) = vs.take i ++ [x] from by
        have h1 : i < vs.length := by rw [HL.out]; exact hlt.1
        rw [List.take_succ_eq_append_getElem h1, ← hx, List.getD_eq_getElem?_getD, List.getElem?_eq_getElem h1]
        rfl)
      have HLT := Lib.hid hlt
      have QL := Lib.hid (show ((vs.take i).map fun x => x % (n : Int)).length ≤ 1000000 from by rw [List.length_map, List.length_take]; have := hlt.2; have := HN.out; omega)
      have QB := fun o : Obj => Lib.hid (show wc.heap.size ≤ (wr.alloc o).heap.size from Nat.le_trans HB.out.size (by simp))
      have HLI := Lib.hid (show (vs.take i).length = i from by rw [List.length_take, HL.out]; omega)
      clear hcv hbv hx hk hk2 hm2 hb hlt
      go_wp2_with fail
      refine (FN.out _ _).mono ?_
      rintro e w1 ⟨rfl, rfl⟩
      go_wp2_with (at_builtin; refine wpList_push _ rfl (.tmp 49) (.tmp 57) 28 rfl 3 i0 (.int .i64 0) 8 Try.underlying28 hi0 hz0 hz1 hz2 rfl (by decide) wc.heap.size _ _ _ rfl (HM2.out.alloc _) wr.heap.size 1 _ rfl (cell_new _ _ _) rfl QL.out (QB _).out ?_; intro o2 w5 hown2 hgrow2 _; have HO2 := Lib.hid hown2; have HG5 := Lib.hid hgrow2; clear hown2 hgrow2)
      go_roundw
      case rel => exact ⟨i + 1, by go_num, HLT.out.2, HLT.out.1, Lib.hid (by unfold IRow; rw [HTK.out, List.map_append, List.map_append]; simpa [HLI.out] using HO2.out), Lib.hid (grown_own (grown_trans HB.out (grown_alloc wr _)) (fun b hb => (HM2.out.lt b hb).1) HG5.out)⟩
      case measure => simp [intOf]; have := HLT.out.2; omega
    · have HE := Lib.hid (show fitV vs n = (vs.take i).map fun x => x % (n : Int) from by
        unfold fitV
        congr 1
        by_cases h1 : i = n
        · rw [h1]
        · have h2 : i = L := by omega
          rw [List.take_of_length_le (by rw [HL.out]; omega), List.take_of_length_le (by rw [HL.out]; omega)])
      have HZR := Lib.hid ((grown_far HB.out (Array.getElem?_eq_some_iff.1 HZC.out).1).trans HZC.out)
      have HNOT := Lib.hid hlt
      have hcs : (¬ (i : Int) < (L : Int)) ∨ ((i : Int) < (L : Int) ∧ ¬ (i : Int) < (n : Int)) := by omega
      have d0 : wr.cell? ⟨bb, 0, none⟩ = some (.int .i64 0) := (cell_of HXR.out).trans rfl
      have d1 : wr.cell? ⟨bb, 1, none⟩ = some (.int .i64 (A % (n : Int))) := (cell_of HXR.out).trans rfl
      have d2 : wr.cell? ⟨bb, 2, none⟩ = some (.int .i64 (B)) := (cell_of HXR.out).trans rfl
      have d3 : wr.cell? ⟨bb, 3, none⟩ = some (.int .i64 (C)) := (cell_of HXR.out).trans rfl
      have df := fun i => frz_of HXR.out (i := i)
      have dz := fun i => frz_of HZR.out (i := i)
      have e0 : wr.cell? ⟨bb + 1, 0, none⟩ = some (.int .i64 0) := (cell_of HZR.out).trans rfl
      have e1 : wr.cell? ⟨bb + 1, 1, none⟩ = some (.int .i64 0) := (cell_of HZR.out).trans rfl
      have e2 : wr.cell? ⟨bb + 1, 2, none⟩ = some (.int .i64 0) := (cell_of HZR.out).trans rfl
      have e3 : wr.cell? ⟨bb + 1, 3, none⟩ = some (.int .i64 0) := (cell_of HZR.out).trans rfl
      have e4 : wr.cell? ⟨bb + 1, 4, none⟩ = some (.slice none 0 0) := (cell_of HZR.out).trans rfl
      obtain ⟨Au, cu, hfu⟩ := HM2.out.form
      subst hfu
      clear hk hk2 hm2 hb hlt c0 c4
      obtain ⟨lu, hlu⟩ : ∃ lu, ((vs.take i).map fun x => x % (n : Int)).length = lu := ⟨_, rfl⟩
      rw [hlu]
      have HLU := Lib.hid hlu
      clear hlu
      rcases hcs with q1 | ⟨q1, q2⟩
      all_goals
        go_wp2
        refine bodyPost_ret (results_cell_row rfl _ _ (bb + 1) 51 #[.int .i64 0, .int .i64 (A % (n : Int)), .int .i64 (B), .int .i64 (C), .slice Au lu cu] (0, 0) _ rfl
          ((heap_set _ (heap_set _ (heap_set _ (heap_set _ (heap_set _ ((heap_other (by simp)).trans HZR.out)))))).trans (by simp)) Try.underlying51 rfl (by kernel_rfl)) rfl ?_
        have hbw := (Array.getElem?_eq_some_iff.1 HXC.out).1
        have hbw2 := (Array.getElem?_eq_some_iff.1 HZC.out).1
        have hB := HBB.out
        refine ⟨.slice Au lu cu, rfl, ?_, ?_⟩
        · rw [HE.out]
          have h1 := HM2.out
          rw [HLU.out] at h1
          exact World.ownsRow.mono ((((((h1.set_other hbw).set_other hbw2).set_other hbw2).set_other hbw2).set_other hbw2).set_other hbw2) HWC.out.size
        · exact grown_set_new (grown_set_new (grown_set_new (grown_set_new (grown_set_new (grown_set_new (grown_trans HWC.out HB.out) (by simp; omega)) (by simp; omega)) (by simp; omega)) (by simp; omega)) (by simp; omega)) (by simp; omega)
set_option maxHeartbeats 8000000 in
set_option maxRecDepth 100000 in
theorem fitted_some {w : World} {vv : Value} {K A B C : Int} {vs : List Int} {n m : Nat} (hv : Nums w vv vs) (hn : 1 ≤ n ∧ n ≤ 6) (hm : 1 ≤ m ∧ m ≤ 1000) (hvl : vs.length ≤ 9223372036854775807) (hK : K % 8 ≠ 0) :
    Calls Try.prog 24 #[actV K A B C vv, .int .i64 (n : Int), .int .i64 (m : Int)] w (FitPost w (K % 8) (A % (m : Int)) (B % (m : Int)) (C % (m : Int)) (fitV vs n)) := by
  obtain ⟨i0, hi0, hz0, hz1, hz2⟩ := info_parts info3
  have HV := Lib.hid hv
  have HN := Lib.hid hn
  obtain ⟨Av, cv, rfl, -⟩ := hv
  obtain ⟨L, hL⟩ : ∃ L, vs.length = L := ⟨_, rfl⟩
  rw [hL] at hvl
  have HL := Lib.hid hL
  rw [hL]
  have qL : (L : Int) ≤ 9223372036854775807 := by omega
  have qn : (n : Int) ≤ 6 := by omega
  have F8 := Lib.hid (fun w => fit_any w K 8 (by decide))
  have FN := Lib.hid (fun w x => fit_any w x (n : Int) (by omega))
  have FM := Lib.hid (fun w x => fit_any w x (m : Int) (by omega))
  obtain ⟨k8, hk8⟩ : ∃ k8, K % 8 = k8 := ⟨_, rfl⟩
  rw [hk8] at hK F8 ⊢
  have qk : (k8 == 0) = false := by simpa using hK
  have HKK := Lib.hid hK
  clear hL hvl hn hm hk8 hK
  unfold actV
  go_enter Try.func24, Try.ntmps24
  obtain ⟨wa, hwa⟩ : ∃ wa, (w.alloc (.cells #[.int .i64 K, .int .i64 A, .int .i64 B, .int .i64 C, .slice Av L cv] 51)).alloc (.cells #[.int .i64 0, .int .i64 0, .int .i64 0, .int .i64 0, .slice none 0 0] 51) = wa := ⟨_, rfl⟩
  obtain ⟨bb, hbb⟩ : ∃ bb, w.heap.size = bb := ⟨_, rfl⟩
  have HBB := Lib.hid hbb
  have HX := Lib.hid (show wa.heap[bb]? = some (.cells #[.int .i64 K, .int .i64 A, .int .i64 B, .int .i64 C, .slice Av L cv] 51 (0, 0)) from by rw [← hwa, ← hbb, heap_alloc_old (by simp)]; exact (MapKept.heap_alloc w _).1)
  have HZ := Lib.hid (show wa.heap[bb + 1]? = some (.cells #[.int .i64 0, .int .i64 0, .int .i64 0, .int .i64 0, .slice none 0 0] 51 (0, 0)) from by rw [← hwa, ← hbb]; have := (MapKept.heap_alloc (w.alloc (.cells #[.int .i64 K, .int .i64 A, .int .i64 B, .int .i64 C, .slice Av L cv] 51)) (.cells #[.int .i64 0, .int .i64 0, .int .i64 0, .int .i64 0, .slice none 0 0] 51)).1; rw [show (w.alloc (.cells #[.int .i64 K, .int .i64 A, .int .i64 B, .int .i64 C, .slice Av L cv] 51)).heap.size = w.heap.size + 1 from by simp] at this; exact this)
  have HWA := Lib.hid (show w.grownBy wa none from by rw [← hwa]; exact grown_trans (grown_alloc _ _) (grown_alloc _ _))
  have x0 : wa.cell? ⟨bb, 0, none⟩ = some (.int .i64 K) := (cell_of HX.out).trans rfl
  have x1 : wa.cell? ⟨bb, 1, none⟩ = some (.int .i64 A) := (cell_of HX.out).trans rfl
  have x2 : wa.cell? ⟨bb, 2, none⟩ = some (.int .i64 B) := (cell_of HX.out).trans rfl
  have x3 : wa.cell? ⟨bb, 3, none⟩ = some (.int .i64 C) := (cell_of HX.out).trans rfl
  have xf := fun i => frz_of HX.out (i := i)
  go_wp2_with fail
  refine (F8.out _).mono ?_
  rintro e w1 ⟨rfl, rfl⟩
  obtain ⟨wb, hwb⟩ : ∃ wb, wa.setCell ⟨bb, 0, none⟩ (.int .i64 k8) = wb := ⟨_, rfl⟩
  have HXB := Lib.hid (show wb.heap[bb]? = some (.cells #[.int .i64 k8, .int .i64 A, .int .i64 B, .int .i64 C, .slice Av L cv] 51 (0, 0)) from by rw [← hwb]; exact (heap_set _ HX.out).trans (by simp))
  have HZB := Lib.hid (show wb.heap[bb + 1]? = some (.cells #[.int .i64 0, .int .i64 0, .int .i64 0, .int .i64 0, .slice none 0 0] 51 (0, 0)) from by rw [← hwb, heap_other (by simp)]; exact HZ.out)
  have HWB := Lib.hid (show w.grownBy wb none from by rw [← hwb]; exact grown_set_new HWA.out (by have := HBB.out; simp; omega))
  have y0 : wb.cell? ⟨bb, 0, none⟩ = some (.int .i64 k8) := (cell_of HXB.out).trans rfl
  have y1 : wb.cell? ⟨bb, 1, none⟩ = some (.int .i64 A) := (cell_of HXB.out).trans rfl
  have y2 : wb.cell? ⟨bb, 2, none⟩ = some (.int .i64 B) := (cell_of HXB.out).trans rfl
  have y3 : wb.cell? ⟨bb, 3, none⟩ = some (.int .i64 C) := (cell_of HXB.out).trans rfl
  have yf := fun i => frz_of HXB.out (i := i)
  clear x1 x2 x3
  go_wp2
  refine wp_region_T (S := fun w' => ∀ k ∈ [bb], w'.heap[k]? = wb.heap[k]?) (tail := fun j => decide (13 ≤ j)) (by kernel_rfl) ?_
  change wpAnyT _ _ _ _ _ _ _ _ _ (World.drew wb)
  have BD := Lib.hid (show ∀ k ∈ [bb], (World.drew wb).heap[k]? = wb.heap[k]? from fun _ _ => rfl)
  refine tk 0 21 (.pointer (some ⟨bb, 1, none⟩)) BD.out ?y0 ?_
  case y0 =>
    intro w' hw'
    go_simp
  try simp only [Act.put, List.setIfInBounds_toArray, List.set_cons_zero, List.set_cons_succ]
  refine tk 1 22 (.int .i64 A) BD.out ?y1 ?_
  case y1 =>
    intro w' hw'
    have z0 := (World.cell?_of_block (a := ⟨bb, 1, none⟩) (hw' bb (by simp))).trans y1
    go_simp
  try simp only [Act.put, List.setIfInBounds_toArray, List.set_cons_zero, List.set_cons_succ]
  refine tk 2 23 (.int .i64 ((m : Nat) : Int)) BD.out ?y2 ?_
  case y2 =>
    intro w' hw'
    go_simp
  try simp only [Act.put, List.setIfInBounds_toArray, List.set_cons_zero, List.set_cons_succ]
  refine tk 4 25 (.pointer (some ⟨bb, 2, none⟩)) BD.out ?y4 ?_
  case y4 =>
    intro w' hw'
    go_simp
  try simp only [Act.put, List.setIfInBounds_toArray, List.set_cons_zero, List.set_cons_succ]
  refine tk 5 26 (.int .i64 B) BD.out ?y5 ?_
  case y5 =>
    intro w' hw'
    have z0 := (World.cell?_of_block (a := ⟨bb, 2, none⟩) (hw' bb (by simp))).trans y2
    go_simp
  try simp only [Act.put, List.setIfInBounds_toArray, List.set_cons_zero, List.set_cons_succ]
  refine tk 6 27 (.int .i64 ((m : Nat) : Int)) BD.out ?y6 ?_
  case y6 =>
    intro w' hw'
    go_simp
  try simp only [Act.put, List.setIfInBounds_toArray, List.set_cons_zero, List.set_cons_succ]
  refine tk 8 29 (.pointer (some ⟨bb, 3, none⟩)) BD.out ?y8 ?_
  case y8 =>
    intro w' hw'
    go_simp
  try simp only [Act.put, List.setIfInBounds_toArray, List.set_cons_zero, List.set_cons_succ]
  refine tk 9 30 (.int .i64 C) BD.out ?y9 ?_
  case y9 =>
    intro w' hw'
    have z0 := (World.cell?_of_block (a := ⟨bb, 3, none⟩) (hw' bb (by simp))).trans y3
    go_simp
  try simp only [Act.put, List.setIfInBounds_toArray, List.set_cons_zero, List.set_cons_succ]
  refine tk 10 31 (.int .i64 ((m : Nat) : Int)) BD.out ?y10 ?_
  case y10 =>
    intro w' hw'
    go_simp
  try simp only [Act.put, List.setIfInBounds_toArray, List.set_cons_zero, List.set_cons_succ]
  refine on 3 (fun K hK => ?_)
  go_simp
  refine (FM.out _ _).mono ?_
  rintro e z ⟨rfl, rfl⟩
  refine hK.out _ _ (fun _ => BD.out) ?_
  clear hK K
  try simp only [Act.put, List.setIfInBounds_toArray, List.set_cons_zero, List.set_cons_succ]
  refine tk 12 33 (.pointer (some ⟨bb, 1, none⟩)) BD.out ?y12 ?_
  case y12 =>
    intro w' hw'
    go_simp
  try simp only [Act.put, List.setIfInBounds_toArray, List.set_cons_zero, List.set_cons_succ]
  refine on 7 (fun K hK => ?_)
  go_simp
  refine (FM.out _ _).mono ?_
  rintro e z ⟨rfl, rfl⟩
  refine hK.out _ _ (fun _ => BD.out) ?_
  clear hK K
  try simp only [Act.put, List.setIfInBounds_toArray, List.set_cons_zero, List.set_cons_succ]
  refine on 11 (fun K hK => ?_)
  go_simp
  refine (FM.out _ _).mono ?_
  rintro e z ⟨rfl, rfl⟩
  refine hK.out _ _ (fun _ => BD.out) ?_
  clear hK K
  try simp only [Act.put, List.setIfInBounds_toArray, List.set_cons_zero, List.set_cons_succ]
  refine on 13 (fun K hK => ?_)
  go_simp
  refine hK.out _ _ (fun h => absurd h (by decide)) ?_
  clear hK K
  try simp only [Act.put, List.setIfInBounds_toArray, List.set_cons_zero, List.set_cons_succ]
  refine tkM 14 34 (.pointer (some ⟨bb, 2, none⟩)) ?y14 ?_
  case y14 =>
    intro w'
    go_simp
  try simp only [Act.put, List.setIfInBounds_toArray, List.set_cons_zero, List.set_cons_succ]
  refine on 15 (fun K hK => ?_)
  go_simp
  refine hK.out _ _ (fun h => absurd h (by decide)) ?_
  clear hK K
  try simp only [Act.put, List.setIfInBounds_toArray, List.set_cons_zero, List.set_cons_succ]
  refine tkM 16 35 (.pointer (some ⟨bb, 3, none⟩)) ?y16 ?_
  case y16 =>
    intro w'
    go_simp
  try simp only [Act.put, List.setIfInBounds_toArray, List.set_cons_zero, List.set_cons_succ]
  refine on 17 (fun K hK => ?_)
  go_simp
  refine hK.out _ _ (fun h => absurd h (by decide)) ?_
  clear hK K
  try simp only [Act.put, List.setIfInBounds_toArray, List.set_cons_zero, List.set_cons_succ]
  refine dn ?_
  obtain ⟨wc, hwc⟩ : ∃ wc, World.drew (((wb.setCell ⟨bb, 1, none⟩ (.int .i64 (A % (m : Int)))).setCell ⟨bb, 2, none⟩ (.int .i64 (B % (m : Int)))).setCell ⟨bb, 3, none⟩ (.int .i64 (C % (m : Int)))) = wc := ⟨_, rfl⟩
  have HXC := Lib.hid (show wc.heap[bb]? = some (.cells #[.int .i64 k8, .int .i64 (A % (m : Int)), .int .i64 (B % (m : Int)), .int .i64 (C % (m : Int)), .slice Av L cv] 51 (0, 0)) from by rw [← hwc]; exact (heap_set _ (heap_set _ (heap_set _ HXB.out))).trans (by simp))
  have HZC := Lib.hid (show wc.heap[bb + 1]? = some (.cells #[.int .i64 0, .int .i64 0, .int .i64 0, .int .i64 0, .slice none 0 0] 51 (0, 0)) from by rw [← hwc]; exact (heap_other (by simp)).trans ((heap_other (by simp)).trans ((heap_other (by simp)).trans HZB.out)))
  have HWC := Lib.hid (show w.grownBy wc none from by rw [← hwc]; exact grown_trans (grown_set_new (grown_set_new (grown_set_new HWB.out (by have := HBB.out; simp; omega)) (by have := HBB.out; simp; omega)) (by have := HBB.out; simp; omega)) (grown_drewN _ 1))
  rw [hwc]
  clear y0 y1 y2 y3 yf hwb
  go_wp2
  clear hwc
  have c0 : wc.cell? ⟨bb, 0, none⟩ = some (.int .i64 k8) := (cell_of HXC.out).trans rfl
  have c4 : wc.cell? ⟨bb, 4, none⟩ = some (.slice Av L cv) := (cell_of HXC.out).trans rfl
  clear x0 xf hwa hbb
  go_loopw [7, 8] (fun a j wr => ∃ i : Nat, j = .int .i64 (i : Int) ∧ i ≤ n ∧ i ≤ L ∧ Hid (IRow wc.heap.size wr a ((vs.take i).map fun x => x % (n : Int))) ∧ Hid (wc.grownBy wr none)) (fun _ j _ => n - (intOf j).toNat)
  case atStart => exact ⟨0, rfl, Nat.zero_le _, Nat.zero_le _, Lib.hid (IRow.made wc (Nat.le_refl _)), Lib.hid (grown_alloc _ _)⟩
  case round =>
    obtain ⟨i, rfl, hk, hk2, hm2, hb⟩ := hrel
    have HM2 := hm2
    have HB := hb
    have HXR := Lib.hid ((grown_far HB.out (Array.getElem?_eq_some_iff.1 HXC.out).1).trans HXC.out)
    have d4 : wr.cell? ⟨bb, 4, none⟩ = some (.slice Av L cv) := (cell_of HXR.out).trans rfl
    by_cases hlt : i < L ∧ i < n
    · have q1 : (i : Int) < (L : Int) := by omega
      have q2 : (i : Int) < (n : Int) := by omega
      have q3 : (i : Int) ≤ 6 := by omega
      obtain ⟨bv, ov, cv2, hsv, hbv, hcv⟩ := (HV.out.grown (grown_trans HWC.out HB.out)).at_ (N := L) HL.out hlt.1
      simp only [HL.out] at hsv
      simp at hsv
      obtain ⟨rfl, rfl⟩ := hsv
      have kv := hcv i hlt.1
      obtain ⟨x, hx⟩ : ∃ x, vs.getD i 0 = x := ⟨_, rfl⟩
      rw [hx] at kv
      have HTK := Lib.hid (show vs.take (i + 1) = vs.take i ++ [x] from by
        have h1 : i < vs.length := by rw [HL.out]; exact hlt.1
        rw [List.take_succ_eq_append_getElem h1, ← hx, List.getD_eq_getElem?_getD, List.getElem?_eq_getElem h1]
        rfl)
      have HLT := Lib.hid hlt
      have QL := Lib.hid (show ((vs.take i).map fun x => x % (n : Int)).length ≤ 1000000 from by rw [List.length_map, List.length_take]; have := hlt.2; have := HN.out; omega)
      have QB := fun o : Obj => Lib.hid (show wc.heap.size ≤ (wr.alloc o).heap.size from Nat.le_trans HB.out.size (by simp))
      have HLI := Lib.hid (show (vs.take i).length = i from by rw [List.length_take, HL.out]; omega)
      clear hcv hbv hx hk hk2 hm2 hb hlt
      go_wp2_with fail
      refine (FN.out _ _).mono ?_
      rintro e w1 ⟨rfl, rfl⟩
      go_wp2_with (at_builtin; refine wpList_push _ rfl (.tmp 49) (.tmp 57) 28 rfl 3 i0 (.int .i64 0) 8 Try.underlying28 hi0 hz0 hz1 hz2 rfl (by decide) wc.heap.size _ _ _ rfl (HM2.out.alloc _) wr.heap.size 1 _ rfl (cell_new _ _ _) rfl QL.out (QB _).out ?_; intro o2 w5 hown2 hgrow2 _; have HO2 := Lib.hid hown2; have HG5 := Lib.hid hgrow2; clear hown2 hgrow2)
      go_roundw
      case rel => exact ⟨i + 1, by go_num, HLT.out.2, HLT.out.1, Lib.hid (by unfold IRow; rw [HTK.out, List.map_append, List.map_append]; simpa [HLI.out] using HO2.out), Lib.hid (grown_own (grown_trans HB.out (grown_alloc wr _)) (fun b hb => (HM2.out.lt b hb).1) HG5.out)⟩
      case measure => simp [intOf]; have := HLT.out.2; omega
    · have HE := Lib.hid (show fitV vs n = (vs.take i).map fun x => x % (n : Int) from by
        unfold fitV
        congr 1
        by_cases h1 : i = n
        · rw [h1]
        · have h2 : i = L := by omega
          rw [List.take_of_length_le (by rw [HL.out]; omega), List.take_of_length_le (by rw [HL.out]; omega)])
      have HZR := Lib.hid ((grown_far HB.out (Array.getElem?_eq_some_iff.1 HZC.out).1).trans HZC.out)
      have HNOT := Lib.hid hlt
      have hcs : (¬ (i : Int) < (L : Int)) ∨ ((i : Int) < (L : Int) ∧ ¬ (i : Int) < (n : Int)) := by omega
      have d0 : wr.cell? ⟨bb, 0, none⟩ = some (.int .i64 k8) := (cell_of HXR.out).trans rfl
      have d1 : wr.cell? ⟨bb, 1, none⟩ = some (.int .i64 (A % (m : Int))) := (cell_of HXR.out).trans rfl
      have d2 : wr.cell? ⟨bb, 2, none⟩ = some (.int .i64 (B % (m : Int))) := (cell_of HXR.out).trans rfl
      have d3 : wr.cell? ⟨bb, 3, none⟩ = some (.int .i64 (C % (m : Int))) := (cell_of HXR.out).trans rfl
      have df := fun i => frz_of HXR.out (i := i)
      have dz := fun i => frz_of HZR.out (i := i)
      have e0 : wr.cell? ⟨bb + 1, 0, none⟩ = some (.int .i64 0) := (cell_of HZR.out).trans rfl
      have e1 : wr.cell? ⟨bb + 1, 1, none⟩ = some (.int .i64 0) := (cell_of HZR.out).trans rfl
      have e2 : wr.cell? ⟨bb + 1, 2, none⟩ = some (.int .i64 0) := (cell_of HZR.out).trans rfl
      have e3 : wr.cell? ⟨bb + 1, 3, none⟩ = some (.int .i64 0) := (cell_of HZR.out).trans rfl
      have e4 : wr.cell? ⟨bb + 1, 4, none⟩ = some (.slice none 0 0) := (cell_of HZR.out).trans rfl
      obtain ⟨Au, cu, hfu⟩ := HM2.out.form
      subst hfu
      clear hk hk2 hm2 hb hlt c0 c4
      obtain ⟨lu, hlu⟩ : ∃ lu, ((vs.take i).map fun x => x % (n : Int)).length = lu := ⟨_, rfl⟩
      rw [hlu]
      have HLU := Lib.hid hlu
      clear hlu
      rcases hcs with q1 | ⟨q1, q2⟩
      all_goals
        go_wp2
        refine bodyPost_ret (results_cell_row rfl _ _ (bb + 1) 51 #[.int .i64 k8, .int .i64 (A % (m : Int)), .int .i64 (B % (m : Int)), .int .i64 (C % (m : Int)), .slice Au lu cu] (0, 0) _ rfl
          ((heap_set _ (heap_set _ (heap_set _ (heap_set _ (heap_set _ ((heap_other (by simp)).trans HZR.out)))))).trans (by simp)) Try.underlying51 rfl (by kernel_rfl)) rfl ?_
        have hbw := (Array.getElem?_eq_some_iff.1 HXC.out).1
        have hbw2 := (Array.getElem?_eq_some_iff.1 HZC.out).1
        have hB := HBB.out
        refine ⟨.slice Au lu cu, rfl, ?_, ?_⟩
        · rw [HE.out]
          have h1 := HM2.out
          rw [HLU.out] at h1
          exact World.ownsRow.mono ((((((h1.set_other hbw).set_other hbw2).set_other hbw2).set_other hbw2).set_other hbw2).set_other hbw2) HWC.out.size
        · exact grown_set_new (grown_set_new (grown_set_new (grown_set_new (grown_set_new (grown_set_new (grown_trans HWC.out HB.out) (by simp; omega)) (by simp; omega)) (by simp; omega)) (by simp; omega)) (by simp; omega)) (by simp; omega)

end Go.Proofs.Ytailpphafoamfaa
