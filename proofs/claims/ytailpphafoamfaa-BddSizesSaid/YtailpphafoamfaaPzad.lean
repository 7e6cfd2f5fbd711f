/- A node is looked for, or made. -/
import Derived.Test.YtailpphafoamfaaPzac
set_option linter.all false
namespace Go.Proofs.Ytailpphafoamfaa
open Go Go.RowKit Go.Maps


section
variable {w w' : World} {o o' : Nat → Nat} {g g' : SG} {D D' : DG}
/-- The draft has one node more, and its map says so. -/
theorem DS.push (h : DS w o g D) {n : Nd} {w1 w2 : World} {gg cap : Nat} (hrow : w1.ownsRow 0 63 3 (.slice (some ⟨gg, 0, none⟩) (D.ds.length + 1) cap) (D.ds.length + 1) (cellsN D.ds ++ ndL n)) (hg : w.grownBy w1 D.val.ownBlock) (hl : D.val.ownBlock = some gg ∨ w.heap.size ≤ gg) (hlt : gg < w1.heap.size)
    (wf' : WF g.V (g.ns ++ (D.ds ++ [n]))) (hm : D.ds.length < D.most) {f : Value → Option Value} (hmap : MapIs 63 w2 D.dm f) (hg5 : (w1.setCell ⟨D.d, 2, none⟩ (.slice (some ⟨gg, 0, none⟩) (D.ds.length + 1) cap)).grownBy w2 (some D.dm)) (hf : NumOk f g.ns.length (g.ns ++ (D.ds ++ [n]))) (hfull : D.full = false) :
    DS w2 (ownG o gg 5) g { D with ds := D.ds ++ [n], val := .slice (some ⟨gg, 0, none⟩) (D.ds.length + 1) cap } ∧ Keep Td w o w2 (ownG o gg 5) := by
  obtain ⟨h1, h2, h3, h4⟩ := h.dr.grow (n := n) h.st hrow hg hl hlt
  generalize hW : w1.setCell ⟨D.d, 2, none⟩ (.slice (some ⟨gg, 0, none⟩) (D.ds.length + 1) cap) = wq at *
  obtain ⟨f0, hm0, -⟩ := h.dr.map
  have e1 : ownG o gg 5 D.dm = 6 := (h3.own _ hm0.lt).trans h.dr.om
  have e2 : ownG o gg 5 D.d = 4 := (h3.own _ h.dr.ltd).trans h.dr.od
  have k2 : Keep (· == 6) wq (ownG o gg 5) w2 (ownG o gg 5) := Keep.grown hg5 (fun k e => by cases e; rw [e1]; rfl) (fun _ _ => rfl)
  have k1 : Keep Td w o wq (ownG o gg 5) := h3.more (td_of fun t ht => by simp at ht; omega)
  have kk : Keep Td w o w2 (ownG o gg 5) := k1.trans (k2.more (td_of fun t ht => by simp at ht; omega))
  have kn : Keep (fun t => t == 4 || t == 5 || t == 6) w o w2 (ownG o gg 5) := (h3.more (fun t ht => by simp at ht ⊢; exact ht.1)).trans (k2.more (fun t ht => by simp at ht ⊢; exact ht.2))
  refine ⟨⟨h.st.keep kn ⟨rfl, rfl, rfl⟩ (fun b hb => h4 b (Nat.le_trans hg5.size hb)), ⟨?_, e2, ?_, fun k hk => ?_, e1, ⟨f, hmap, hf⟩, wf', ⟨?_, h.dr.most.2⟩, fun e => ?_⟩⟩, kk⟩
  · exact (hg5.block _ (Array.getElem?_eq_some_iff.1 h1).1 (fun e => by rw [← Option.some.inj e, e2] at e1; cases e1)).trans h1
  · exact row_move h2 fun k hk => by
      cases hk
      have h5 := (h2.lt gg rfl).2
      exact hg5.block _ h5 (fun e => by rw [← Option.some.inj e, ownG_same] at e1; cases e1)
  · cases hk
    exact ownG_same _ _ _
  · simp only [List.length_append, List.length_singleton]; omega
  · simp only at e
    rw [hfull] at e
    cases e
theorem max_cast (a b : Nat) : (if (a : Int) < (b : Int) then (b : Int) else (a : Int)) = ((max a b : Nat) : Int) := by split <;> omega
theorem DS.find0 (h : DS w o g D) {n : Nd} (hm : ¬ max n.a n.b < g.ns.length) : ∀ i, 2 ≤ i → g.ns[i]? ≠ some n := fun i hi hn => by
  have := h.st.wf.nd i n hi hn
  have h2 := (List.getElem?_eq_some_iff.1 hn).1
  omega
structure NodeIn (g : SG) (D : DG) (n : Nd) : Prop where
  a : n.a < (lst g D).length
  b : n.b < (lst g D).length
  v : n.v < 2147483648
  ok : D.full = false → n.a ≠ n.b → n.v < g.V ∧ n.v < ask (lst g D) n.a ∧ n.v < ask (lst g D) n.b
theorem DS.len (h : DS w o g D) : (lst g D).length ≤ 33554432 := by
  have h1 := h.st.bd
  have h2 := h.dr.most
  unfold lst
  simp only [List.length_append]
  omega
set_option maxHeartbeats 8000000 in
set_option maxRecDepth 100000 in
theorem node_old (h : DS w o g D) {n : Nd} (hin : NodeIn g D n) (hab : n.a ≠ n.b) (hmx : max n.a n.b < g.ns.length) : Calls Try.prog 52 #[.pointer (some ⟨D.d, 0, none⟩), .int .i32 (n.v : Int), .int .i32 (n.a : Int), .int .i32 (n.b : Int)] w (NodePost w o g D n) := by
  obtain ⟨i0, hi, hz0, hz1, hz2⟩ := info_parts info63
  have hfst : (g.ns.length : Int) ≤ 16777216 := by have := h.st.bd; omega
  have H1 := Lib.hid (h.alloc (.cells #[.int .i32 (n.v : Int), .int .i32 (n.a : Int), .int .i32 (n.b : Int)] 63))
  have HK := Lib.hid (keep_alloc Td w o (.cells #[.int .i32 (n.v : Int), .int .i32 (n.a : Int), .int .i32 (n.b : Int)] 63))
  have HO := Lib.hid (h.st.new w.heap.size (Nat.le_refl _))
  have HY := Lib.hid (MapKept.heap_alloc w (.cells #[.int .i32 (n.v : Int), .int .i32 (n.a : Int), .int .i32 (n.b : Int)] 63)).1
  have HIN := Lib.hid hin
  have HLEN := Lib.hid h.len
  have c0 := H1.out.dr.c0
  have c1 := H1.out.dr.c1
  have s7 := H1.out.st.cell7
  have HB0 := Lib.hid (H1.out.dr.ltd)
  have HSL := Lib.hid h.st.lts
  have HFR := Lib.hid (H1.out.st.frz 7)
  have HMX := Lib.hid (max_cast n.a n.b)

  have q1 : (((n.a : Nat) : Int) == ((n.b : Nat) : Int)) = false := by simp; omega
  have HMQ := Lib.hid hmx
  have HAB := Lib.hid hab
  clear h hin hab hmx
  go_enter Try.func52, Try.ntmps52
  go_wp2_with fail
  refine (add_u64 g.s 7 _ _ s7 HFR.out).mono ?_
  rintro e w1 ⟨⟨v, rfl⟩, hw1⟩
  obtain ⟨hd1, hk1⟩ := H1.out.works
  rw [← hw1] at hd1 hk1
  have hyy := (hk1.blk w.heap.size (by simp) (by rw [HO.out]; rfl)).trans HY.out
  have HB1 := Lib.hid (show w.heap.size < w1.heap.size from Nat.lt_of_lt_of_le (by simp) hk1.size)
  obtain ⟨B, hB⟩ : ∃ B, w.heap.size = B := ⟨_, rfl⟩
  obtain ⟨g1, hg1⟩ : ∃ g1 : SG, { g with W := g.W + 1 } = g1 := ⟨_, rfl⟩
  have HE1 := Lib.hid (show Ext g D g1 D from by rw [← hg1]; exact ⟨rfl, rfl, rfl, rfl, Nat.le_succ _, rfl, rfl, ⟨[], by simp⟩, id⟩)
  have HW1 := Lib.hid (show g1.W = g.W + 1 from by rw [← hg1])
  have HV1 := Lib.hid (show g1.val = g.val from by rw [← hg1])
  rw [hg1] at hd1
  have HD1 := Lib.hid hd1
  have HK1 := Lib.hid (HK.out.trans (hk1.more (td_of fun t ht => by simp at ht; omega)))
  have HY1 := Lib.hid hyy
  rw [hB] at HO HY1 HB1
  clear hw1 hyy hd1 hk1 hg1 c0 c1 s7 H1 HK HY HB0 HFR HSL hfst
  rw [hB]
  clear hB
  have c1 := HD1.out.dr.c1
  have HMQ1 := Lib.hid (show max n.a n.b < g1.ns.length from by rw [HE1.out.ns]; exact HMQ.out)
  obtain ⟨m, hm⟩ : ∃ m, max n.a n.b = m := ⟨_, rfl⟩
  have qm : (if n.a < n.b then (n.b : Int) else (n.a : Int)) = (m : Int) := by rw [← hm]; split <;> omega
  have qq : (m : Int) < (g1.ns.length : Int) := by rw [← hm]; have := HMQ1.out; omega
  clear hm
  go_wp2
  have c0 := HD1.out.dr.c0
  refine wp_region_T (S := fun w' => ∀ k ∈ [D.d, B], w'.heap[k]? = w1.heap[k]?) (tail := fun j => decide (5 ≤ j)) (by kernel_rfl) ?_
  change wpAnyT _ _ _ _ _ _ _ _ _ (World.drew w1)
  have BD := Lib.hid (show ∀ k ∈ [D.d, B], (World.drew w1).heap[k]? = w1.heap[k]? from fun _ _ => rfl)
  have HDD := Lib.hid HD1.out.drew
  have HKD := Lib.hid (HK1.out.trans (keep_drew _ w1 o))
  refine tk 0 39 (.pointer (some ⟨D.d, 0, none⟩)) BD.out ?y0 ?_
  case y0 =>
    intro w' hw'
    go_simp
  try simp only [Act.put, List.setIfInBounds_toArray, List.set_cons_zero, List.set_cons_succ]
  refine tk 1 40 (.pointer (some ⟨D.d, 0, none⟩)) BD.out ?y1 ?_
  case y1 =>
    intro w' hw'
    go_simp
  try simp only [Act.put, List.setIfInBounds_toArray, List.set_cons_zero, List.set_cons_succ]
  refine tk 2 41 (.pointer (some ⟨D.d, 0, none⟩)) BD.out ?y2 ?_
  case y2 =>
    intro w' hw'
    go_simp
  try simp only [Act.put, List.setIfInBounds_toArray, List.set_cons_zero, List.set_cons_succ]
  refine tk 3 42 (.pointer (some ⟨g1.s, 0, none⟩)) BD.out ?y3 ?_
  case y3 =>
    intro w' hw'
    have y0 := (World.cell?_of_block (a := ⟨D.d, 0, none⟩) (hw' _ (by simp))).trans c0
    go_simp
  try simp only [Act.put, List.setIfInBounds_toArray, List.set_cons_zero, List.set_cons_succ]
  refine tk 4 43 (.agg #[.int .i32 (n.v : Int), .int .i32 (n.a : Int), .int .i32 (n.b : Int)]) BD.out ?y4 ?_
  case y4 =>
    intro w' hw'
    obtain ⟨z0, z1, z2⟩ := box_cells ((hw' B (by simp)).trans HY1.out)
    go_simp
  try simp only [Act.put, List.setIfInBounds_toArray, List.set_cons_zero, List.set_cons_succ]
  refine on 5 (fun K hK => ?_)
  go_simp
  refine (find_any HDD.out.st (n := n) ⟨HIN.out.v, Nat.lt_of_lt_of_le HIN.out.a (Nat.le_trans HLEN.out (by decide)), Nat.lt_of_lt_of_le HIN.out.b (Nat.le_trans HLEN.out (by decide))⟩).mono ?_
  rintro e w2 ⟨mb, o2, hst, hk, hres⟩
  have HD2 := Lib.hid (HDD.out.num hst hk)
  have HK2 := Lib.hid (HKD.out.trans (hk.more (td_of fun t ht => by simp at ht; omega)))
  have HO2 := Lib.hid (show o2 B = 0 from (hk.own B HB1.out).trans HO.out)
  have HY2 := Lib.hid ((hk.blk B HB1.out (by rw [HO.out]; rfl)).trans ((BD.out B (by simp)).trans HY1.out))
  have HB2 := Lib.hid (show B < w2.heap.size from Nat.lt_of_lt_of_le HB1.out hk.size)
  obtain ⟨g2, hg2⟩ : ∃ g2 : SG, { g1 with num := some mb } = g2 := ⟨_, rfl⟩
  have HE2 := Lib.hid (show Ext g D g2 D from HE1.out.trans (by rw [← hg2]; exact ⟨rfl, rfl, rfl, rfl, Nat.le_refl _, rfl, rfl, ⟨[], by simp⟩, id⟩))
  have HW2 := Lib.hid (show g2.W = g.W + 1 from by rw [← hg2]; exact HW1.out)
  have hns2 : g2.ns = g1.ns := by rw [← hg2]
  rw [hg2] at HD2
  rw [← hns2] at hres
  clear hst hk hg2 hns2 HY1 HB1 BD
  rcases hres with ⟨i, hi2, hni, rfl⟩ | ⟨hnf, rfl⟩
  · have HR := Lib.hid (show NodePost w o g D n (.returned (.int .i32 (i : Int))) w2 from ⟨i, o2, g2, D, rfl, HD2.out, HK2.out, HE2.out, by
      have := (List.getElem?_eq_some_iff.1 hni).1
      unfold lst
      simp only [List.length_append]
      omega, Nat.le_succ _, Nat.le_of_eq HW2.out, fun _ => HW2.out, .inr (.inr ⟨HAB.out, hi2, by
      unfold lst
      rw [List.getElem?_append_left (List.getElem?_eq_some_iff.1 hni).1]
      exact hni⟩)⟩)
    clear hni
    refine hK.out _ _ (fun h => absurd h (by decide)) ?_
    clear hK K
    try simp only [Act.put, List.setIfInBounds_toArray, List.set_cons_zero, List.set_cons_succ]
    refine tkM 6 38 (.tuple #[i32 i, .bool true]) ?y6 ?_
    case y6 =>
      intro w'
      go_simp
    try simp only [Act.put, List.setIfInBounds_toArray, List.set_cons_zero, List.set_cons_succ]
    refine tkM 7 45 (i32 i) ?y7 ?_
    case y7 =>
      intro w'
      go_simp
    try simp only [Act.put, List.setIfInBounds_toArray, List.set_cons_zero, List.set_cons_succ]
    refine tkM 8 46 (.bool true) ?y8 ?_
    case y8 =>
      intro w'
      go_simp
    try simp only [Act.put, List.setIfInBounds_toArray, List.set_cons_zero, List.set_cons_succ]
    refine tkM 9 10 (i32 i) ?y9 ?_
    case y9 =>
      intro w'
      go_simp
    try simp only [Act.put, List.setIfInBounds_toArray, List.set_cons_zero, List.set_cons_succ]
    refine tkM 10 11 (.bool true) ?y10 ?_
    case y10 =>
      intro w'
      go_simp
    try simp only [Act.put, List.setIfInBounds_toArray, List.set_cons_zero, List.set_cons_succ]
    refine dn ?_
    go_wp2
    go_ret
    exact HR.out
  · have HNF := Lib.hid hnf
    clear hnf
    refine hK.out _ _ (fun h => absurd h (by decide)) ?_
    clear hK K
    try simp only [Act.put, List.setIfInBounds_toArray, List.set_cons_zero, List.set_cons_succ]
    refine tkM 6 38 (.tuple #[.int .i32 0, .bool false]) ?y6 ?_
    case y6 =>
      intro w'
      go_simp
    try simp only [Act.put, List.setIfInBounds_toArray, List.set_cons_zero, List.set_cons_succ]
    refine tkM 7 45 (.int .i32 0) ?y7 ?_
    case y7 =>
      intro w'
      go_simp
    try simp only [Act.put, List.setIfInBounds_toArray, List.set_cons_zero, List.set_cons_succ]
    refine tkM 8 46 (.bool false) ?y8 ?_
    case y8 =>
      intro w'
      go_simp
    try simp only [Act.put, List.setIfInBounds_toArray, List.set_cons_zero, List.set_cons_succ]
    refine tkM 9 10 (.int .i32 0) ?y9 ?_
    case y9 =>
      intro w'
      go_simp
    try simp only [Act.put, List.setIfInBounds_toArray, List.set_cons_zero, List.set_cons_succ]
    refine tkM 10 11 (.bool false) ?y10 ?_
    case y10 =>
      intro w'
      go_simp
    try simp only [Act.put, List.setIfInBounds_toArray, List.set_cons_zero, List.set_cons_succ]
    refine dn ?_
    go_wp2
    have c0 := HD2.out.dr.c0
    have c1 := HD2.out.dr.c1
    have c2 := HD2.out.dr.c2
    have c3 := HD2.out.dr.c3
    have c4 := HD2.out.dr.c4
    obtain ⟨A, c, hv⟩ : ∃ A c, D.val = .slice A D.ds.length c := by
      obtain ⟨-, h1⟩ := HD2.out.dr.row
      rcases h1 with ⟨h1, h3⟩ | ⟨gx, cap, cur, h1, -⟩
      · exact ⟨none, 0, by rw [h1, h3]⟩
      · exact ⟨_, _, h1⟩
    rw [hv] at c2
    have HV := Lib.hid hv
    obtain ⟨f, hmap, hnum⟩ := HD2.out.dr.map
    have HISK := Lib.hid (isK63 (n := n) HIN.out.v (Nat.lt_of_lt_of_le HIN.out.a (Nat.le_trans HLEN.out (by decide))) (Nat.lt_of_lt_of_le HIN.out.b (Nat.le_trans HLEN.out (by decide))))
    have hlk : ∀ w' : World, w'.heap[D.dm]? = w2.heap[D.dm]? → (Instr.lookup 77 (.map (some D.dm)) (ndV n) true).run Try.prog w' = .ok (.tuple #[(f (ndV n)).getD (.int .i32 0), .bool (f (ndV n)).isSome]) w' := fun w' hw' => (hmap.move hw').look K63 Try.underlying77 (z21 _) HISK.out
    have hdl := HD2.out.dr.ltd
    have hml := hmap.lt
    clear hv
    rcases hnum.cases n with ⟨i, hi2, hni, hf⟩ | ⟨hnf2, hf⟩
    · rw [hf] at hlk
      simp only [Option.getD_some, Option.isSome_some, i32] at hlk
      have HR := Lib.hid (show NodePost w o g D n (.returned (.int .i32 (i : Int))) (World.drew w2) from ⟨i, o2, g2, D, rfl, HD2.out.drew, HK2.out.trans (keep_drew _ w2 _), HE2.out, by
        have := (List.getElem?_eq_some_iff.1 hni).1
        unfold lst
        exact this, Nat.le_succ _, Nat.le_of_eq HW2.out, fun _ => HW2.out, .inr (.inr ⟨HAB.out, by have := HD2.out.st.wf.two; omega, hni⟩)⟩)
      clear hni hf hnum hmap
      have HLK := Lib.hid hlk
      clear hlk
      refine wp_region_T (S := fun w' => ∀ k ∈ [D.d, B, D.dm], w'.heap[k]? = w2.heap[k]?) (tail := fun _ => false) (by kernel_rfl) ?_
      change wpAnyT _ _ _ _ _ _ _ _ _ (World.drew w2)
      have BD := Lib.hid (show ∀ k ∈ [D.d, B, D.dm], (World.drew w2).heap[k]? = w2.heap[k]? from fun _ _ => rfl)
      refine tk 0 50 (.pointer (some ⟨D.d, 0, none⟩)) BD.out ?y0 ?_
      case y0 =>
        intro w' hw'
        go_simp
      try simp only [Act.put, List.setIfInBounds_toArray, List.set_cons_zero, List.set_cons_succ]
      refine tk 1 51 (.pointer (some ⟨D.d, 0, none⟩)) BD.out ?y1 ?_
      case y1 =>
        intro w' hw'
        go_simp
      try simp only [Act.put, List.setIfInBounds_toArray, List.set_cons_zero, List.set_cons_succ]
      refine tk 2 52 (.pointer (some ⟨D.d, 3, none⟩)) BD.out ?y2 ?_
      case y2 =>
        intro w' hw'
        go_simp
      try simp only [Act.put, List.setIfInBounds_toArray, List.set_cons_zero, List.set_cons_succ]
      refine tk 3 53 (.map (some D.dm)) BD.out ?y3 ?_
      case y3 =>
        intro w' hw'
        have y0 := (World.cell?_of_block (a := ⟨D.d, 3, none⟩) (hw' _ (by simp))).trans c3
        go_simp
      try simp only [Act.put, List.setIfInBounds_toArray, List.set_cons_zero, List.set_cons_succ]
      refine tk 4 54 (.agg #[.int .i32 (n.v : Int), .int .i32 (n.a : Int), .int .i32 (n.b : Int)]) BD.out ?y4 ?_
      case y4 =>
        intro w' hw'
        obtain ⟨z0, z1, z2⟩ := box_cells ((hw' B (by simp)).trans HY2.out)
        go_simp
      try simp only [Act.put, List.setIfInBounds_toArray, List.set_cons_zero, List.set_cons_succ]
      refine tk 5 55 (.tuple #[.int .i32 (i : Int), .bool true]) BD.out ?y5 ?_
      case y5 =>
        intro w' hw'
        have y0 := HLK.out w' (hw' D.dm (by simp))
        unfold ndV at y0
        go_simp
      try simp only [Act.put, List.setIfInBounds_toArray, List.set_cons_zero, List.set_cons_succ]
      refine tk 6 49 (.tuple #[.int .i32 (i : Int), .bool true]) BD.out ?y6 ?_
      case y6 =>
        intro w' hw'
        go_simp
      try simp only [Act.put, List.setIfInBounds_toArray, List.set_cons_zero, List.set_cons_succ]
      refine tk 7 56 (.int .i32 (i : Int)) BD.out ?y7 ?_
      case y7 =>
        intro w' hw'
        go_simp
      try simp only [Act.put, List.setIfInBounds_toArray, List.set_cons_zero, List.set_cons_succ]
      refine tk 8 57 (.bool true) BD.out ?y8 ?_
      case y8 =>
        intro w' hw'
        go_simp
      try simp only [Act.put, List.setIfInBounds_toArray, List.set_cons_zero, List.set_cons_succ]
      refine tk 9 12 (.int .i32 (i : Int)) BD.out ?y9 ?_
      case y9 =>
        intro w' hw'
        go_simp
      try simp only [Act.put, List.setIfInBounds_toArray, List.set_cons_zero, List.set_cons_succ]
      refine tk 10 13 (.bool true) BD.out ?y10 ?_
      case y10 =>
        intro w' hw'
        go_simp
      try simp only [Act.put, List.setIfInBounds_toArray, List.set_cons_zero, List.set_cons_succ]
      refine dn ?_
      go_wp2
      go_ret
      exact HR.out
    · rw [hf] at hlk
      simp only [Option.getD_none, Option.isSome_none] at hlk
      have HNF2 := Lib.hid hnf2
      have HNUM := Lib.hid hnum
      have HMAP := Lib.hid (show MapIs 63 (World.drew w2) D.dm f from hmap)
      have HMB := Lib.hid HD2.out.dr.most
      clear hnf2 hf hnum hmap
      by_cases hmo : D.most ≤ D.ds.length
      · have HMO := Lib.hid hmo
        clear hmo
        have HLK := Lib.hid hlk
        clear hlk
        refine wp_region_T (S := fun w' => ∀ k ∈ [D.d, B, D.dm], w'.heap[k]? = w2.heap[k]?) (tail := fun _ => false) (by kernel_rfl) ?_
        change wpAnyT _ _ _ _ _ _ _ _ _ (World.drew w2)
        have BD := Lib.hid (show ∀ k ∈ [D.d, B, D.dm], (World.drew w2).heap[k]? = w2.heap[k]? from fun _ _ => rfl)
        refine tk 0 50 (.pointer (some ⟨D.d, 0, none⟩)) BD.out ?y0 ?_
        case y0 =>
          intro w' hw'
          go_simp
        try simp only [Act.put, List.setIfInBounds_toArray, List.set_cons_zero, List.set_cons_succ]
        refine tk 1 51 (.pointer (some ⟨D.d, 0, none⟩)) BD.out ?y1 ?_
        case y1 =>
          intro w' hw'
          go_simp
        try simp only [Act.put, List.setIfInBounds_toArray, List.set_cons_zero, List.set_cons_succ]
        refine tk 2 52 (.pointer (some ⟨D.d, 3, none⟩)) BD.out ?y2 ?_
        case y2 =>
          intro w' hw'
          go_simp
        try simp only [Act.put, List.setIfInBounds_toArray, List.set_cons_zero, List.set_cons_succ]
        refine tk 3 53 (.map (some D.dm)) BD.out ?y3 ?_
        case y3 =>
          intro w' hw'
          have y0 := (World.cell?_of_block (a := ⟨D.d, 3, none⟩) (hw' _ (by simp))).trans c3
          go_simp
        try simp only [Act.put, List.setIfInBounds_toArray, List.set_cons_zero, List.set_cons_succ]
        refine tk 4 54 (.agg #[.int .i32 (n.v : Int), .int .i32 (n.a : Int), .int .i32 (n.b : Int)]) BD.out ?y4 ?_
        case y4 =>
          intro w' hw'
          obtain ⟨z0, z1, z2⟩ := box_cells ((hw' B (by simp)).trans HY2.out)
          go_simp
        try simp only [Act.put, List.setIfInBounds_toArray, List.set_cons_zero, List.set_cons_succ]
        refine tk 5 55 (.tuple #[.int .i32 0, .bool false]) BD.out ?y5 ?_
        case y5 =>
          intro w' hw'
          have y0 := HLK.out w' (hw' D.dm (by simp))
          unfold ndV at y0
          go_simp
        try simp only [Act.put, List.setIfInBounds_toArray, List.set_cons_zero, List.set_cons_succ]
        refine tk 6 49 (.tuple #[.int .i32 0, .bool false]) BD.out ?y6 ?_
        case y6 =>
          intro w' hw'
          go_simp
        try simp only [Act.put, List.setIfInBounds_toArray, List.set_cons_zero, List.set_cons_succ]
        refine tk 7 56 (.int .i32 0) BD.out ?y7 ?_
        case y7 =>
          intro w' hw'
          go_simp
        try simp only [Act.put, List.setIfInBounds_toArray, List.set_cons_zero, List.set_cons_succ]
        refine tk 8 57 (.bool false) BD.out ?y8 ?_
        case y8 =>
          intro w' hw'
          go_simp
        try simp only [Act.put, List.setIfInBounds_toArray, List.set_cons_zero, List.set_cons_succ]
        refine tk 9 12 (.int .i32 0) BD.out ?y9 ?_
        case y9 =>
          intro w' hw'
          go_simp
        try simp only [Act.put, List.setIfInBounds_toArray, List.set_cons_zero, List.set_cons_succ]
        refine tk 10 13 (.bool false) BD.out ?y10 ?_
        case y10 =>
          intro w' hw'
          go_simp
        try simp only [Act.put, List.setIfInBounds_toArray, List.set_cons_zero, List.set_cons_succ]
        refine dn ?_
        go_wp2
        have HDa := Lib.hid HD2.out.drew
        have HKa := Lib.hid (HK2.out.trans (keep_drew _ w2 _))
        have HBa := Lib.hid (show B < (World.drew w2).heap.size from HB2.out)
        have HYa := Lib.hid (show (World.drew w2).heap[B]? = _ from HY2.out)
        replace c0 := HDa.out.dr.c0
        replace c1 := HDa.out.dr.c1
        replace c2 := (show (World.drew w2).cell? ⟨D.d, 2, none⟩ = _ from c2)
        replace c3 := HDa.out.dr.c3
        replace c4 := HDa.out.dr.c4
        clear BD
        generalize World.drew w2 = wa at *
        refine wp_region_T (S := fun w' => ∀ k ∈ [D.d], w'.heap[k]? = wa.heap[k]?) (tail := fun _ => false) (by kernel_rfl) ?_
        change wpAnyT _ _ _ _ _ _ _ _ _ (World.drew wa)
        have BD := Lib.hid (show ∀ k ∈ [D.d], (World.drew wa).heap[k]? = wa.heap[k]? from fun _ _ => rfl)
        refine tk 0 60 (.pointer (some ⟨D.d, 0, none⟩)) BD.out ?y0 ?_
        case y0 =>
          intro w' hw'
          go_simp
        try simp only [Act.put, List.setIfInBounds_toArray, List.set_cons_zero, List.set_cons_succ]
        refine tk 1 61 (.pointer (some ⟨D.d, 0, none⟩)) BD.out ?y1 ?_
        case y1 =>
          intro w' hw'
          go_simp
        try simp only [Act.put, List.setIfInBounds_toArray, List.set_cons_zero, List.set_cons_succ]
        refine tk 2 62 (.pointer (some ⟨D.d, 2, none⟩)) BD.out ?y2 ?_
        case y2 =>
          intro w' hw'
          go_simp
        try simp only [Act.put, List.setIfInBounds_toArray, List.set_cons_zero, List.set_cons_succ]
        refine tk 3 63 (.slice A D.ds.length c) BD.out ?y3 ?_
        case y3 =>
          intro w' hw'
          have y0 := (World.cell?_of_block (a := ⟨D.d, 2, none⟩) (hw' _ (by simp))).trans c2
          go_simp
        try simp only [Act.put, List.setIfInBounds_toArray, List.set_cons_zero, List.set_cons_succ]
        refine tk 4 64 (.int .i64 ((D.ds.length : Nat) : Int)) BD.out ?y4 ?_
        case y4 =>
          intro w' hw'
          go_simp
        try simp only [Act.put, List.setIfInBounds_toArray, List.set_cons_zero, List.set_cons_succ]
        refine tk 5 65 (.pointer (some ⟨D.d, 0, none⟩)) BD.out ?y5 ?_
        case y5 =>
          intro w' hw'
          go_simp
        try simp only [Act.put, List.setIfInBounds_toArray, List.set_cons_zero, List.set_cons_succ]
        refine tk 6 66 (.pointer (some ⟨D.d, 0, none⟩)) BD.out ?y6 ?_
        case y6 =>
          intro w' hw'
          go_simp
        try simp only [Act.put, List.setIfInBounds_toArray, List.set_cons_zero, List.set_cons_succ]
        refine tk 7 67 (.pointer (some ⟨D.d, 4, none⟩)) BD.out ?y7 ?_
        case y7 =>
          intro w' hw'
          go_simp
        try simp only [Act.put, List.setIfInBounds_toArray, List.set_cons_zero, List.set_cons_succ]
        refine tk 8 68 (.int .i64 ((D.most : Nat) : Int)) BD.out ?y8 ?_
        case y8 =>
          intro w' hw'
          have y0 := (World.cell?_of_block (a := ⟨D.d, 4, none⟩) (hw' _ (by simp))).trans c4
          go_simp
        try simp only [Act.put, List.setIfInBounds_toArray, List.set_cons_zero, List.set_cons_succ]
        refine tk 9 69 (.bool true) BD.out ?y9 ?_
        case y9 =>
          intro w' hw'
          go_simp
          have := HMO.out; simp; omega
        try simp only [Act.put, List.setIfInBounds_toArray, List.set_cons_zero, List.set_cons_succ]
        refine dn ?_
        have HDb := Lib.hid HDa.out.drew
        have HKb := Lib.hid (HKa.out.trans (keep_drew _ wa _))
        clear BD c0 c1 c2 c3 c4
        generalize World.drew wa = wb at *
        have c5 := HDb.out.dr.c5
        have f5 := HDb.out.dr.frz 5
        obtain ⟨hds, hks⟩ := HDb.out.setFull HMO.out
        have HR := Lib.hid (show NodePost w o g D n (.returned (.int .i32 ((0 : Nat) : Int))) (wb.setCell ⟨D.d, 5, none⟩ (.bool true)) from ⟨0, o2, g2, { D with full := true }, rfl, hds, HKb.out.trans (hks.more (td_of fun t ht => by simp at ht; omega)), HE2.out.trans ⟨rfl, rfl, rfl, rfl, Nat.le_refl _, rfl, rfl, ⟨[], by simp⟩, fun _ => rfl⟩, by
          have := HDb.out.st.wf.two
          unfold lst
          simp only [List.length_append]
          omega, Nat.le_succ _, Nat.le_of_eq HW2.out, fun _ => HW2.out, .inl ⟨rfl, rfl⟩⟩)
        clear hds hks
        go_wp2
        go_ret
        exact HR.out
      · have HMO := Lib.hid hmo
        have HFULL := Lib.hid (show D.full = false from by
          cases hfu : D.full with
          | false => rfl
          | true => exact absurd (HD2.out.dr.fl hfu) hmo)
        clear hmo
        have HLK := Lib.hid hlk
        clear hlk
        refine wp_region_T (S := fun w' => ∀ k ∈ [D.d, B, D.dm], w'.heap[k]? = w2.heap[k]?) (tail := fun _ => false) (by kernel_rfl) ?_
        change wpAnyT _ _ _ _ _ _ _ _ _ (World.drew w2)
        have BD := Lib.hid (show ∀ k ∈ [D.d, B, D.dm], (World.drew w2).heap[k]? = w2.heap[k]? from fun _ _ => rfl)
        refine tk 0 50 (.pointer (some ⟨D.d, 0, none⟩)) BD.out ?y0 ?_
        case y0 =>
          intro w' hw'
          go_simp
        try simp only [Act.put, List.setIfInBounds_toArray, List.set_cons_zero, List.set_cons_succ]
        refine tk 1 51 (.pointer (some ⟨D.d, 0, none⟩)) BD.out ?y1 ?_
        case y1 =>
          intro w' hw'
          go_simp
        try simp only [Act.put, List.setIfInBounds_toArray, List.set_cons_zero, List.set_cons_succ]
        refine tk 2 52 (.pointer (some ⟨D.d, 3, none⟩)) BD.out ?y2 ?_
        case y2 =>
          intro w' hw'
          go_simp
        try simp only [Act.put, List.setIfInBounds_toArray, List.set_cons_zero, List.set_cons_succ]
        refine tk 3 53 (.map (some D.dm)) BD.out ?y3 ?_
        case y3 =>
          intro w' hw'
          have y0 := (World.cell?_of_block (a := ⟨D.d, 3, none⟩) (hw' _ (by simp))).trans c3
          go_simp
        try simp only [Act.put, List.setIfInBounds_toArray, List.set_cons_zero, List.set_cons_succ]
        refine tk 4 54 (.agg #[.int .i32 (n.v : Int), .int .i32 (n.a : Int), .int .i32 (n.b : Int)]) BD.out ?y4 ?_
        case y4 =>
          intro w' hw'
          obtain ⟨z0, z1, z2⟩ := box_cells ((hw' B (by simp)).trans HY2.out)
          go_simp
        try simp only [Act.put, List.setIfInBounds_toArray, List.set_cons_zero, List.set_cons_succ]
        refine tk 5 55 (.tuple #[.int .i32 0, .bool false]) BD.out ?y5 ?_
        case y5 =>
          intro w' hw'
          have y0 := HLK.out w' (hw' D.dm (by simp))
          unfold ndV at y0
          go_simp
        try simp only [Act.put, List.setIfInBounds_toArray, List.set_cons_zero, List.set_cons_succ]
        refine tk 6 49 (.tuple #[.int .i32 0, .bool false]) BD.out ?y6 ?_
        case y6 =>
          intro w' hw'
          go_simp
        try simp only [Act.put, List.setIfInBounds_toArray, List.set_cons_zero, List.set_cons_succ]
        refine tk 7 56 (.int .i32 0) BD.out ?y7 ?_
        case y7 =>
          intro w' hw'
          go_simp
        try simp only [Act.put, List.setIfInBounds_toArray, List.set_cons_zero, List.set_cons_succ]
        refine tk 8 57 (.bool false) BD.out ?y8 ?_
        case y8 =>
          intro w' hw'
          go_simp
        try simp only [Act.put, List.setIfInBounds_toArray, List.set_cons_zero, List.set_cons_succ]
        refine tk 9 12 (.int .i32 0) BD.out ?y9 ?_
        case y9 =>
          intro w' hw'
          go_simp
        try simp only [Act.put, List.setIfInBounds_toArray, List.set_cons_zero, List.set_cons_succ]
        refine tk 10 13 (.bool false) BD.out ?y10 ?_
        case y10 =>
          intro w' hw'
          go_simp
        try simp only [Act.put, List.setIfInBounds_toArray, List.set_cons_zero, List.set_cons_succ]
        refine dn ?_
        go_wp2
        have HDa := Lib.hid HD2.out.drew
        have HKa := Lib.hid (HK2.out.trans (keep_drew _ w2 _))
        have HBa := Lib.hid (show B < (World.drew w2).heap.size from HB2.out)
        have HYa := Lib.hid (show (World.drew w2).heap[B]? = _ from HY2.out)
        replace c0 := HDa.out.dr.c0
        replace c1 := HDa.out.dr.c1
        replace c2 := (show (World.drew w2).cell? ⟨D.d, 2, none⟩ = _ from c2)
        replace c3 := HDa.out.dr.c3
        replace c4 := HDa.out.dr.c4
        clear BD
        generalize World.drew w2 = wa at *
        refine wp_region_T (S := fun w' => ∀ k ∈ [D.d], w'.heap[k]? = wa.heap[k]?) (tail := fun _ => false) (by kernel_rfl) ?_
        change wpAnyT _ _ _ _ _ _ _ _ _ (World.drew wa)
        have BD := Lib.hid (show ∀ k ∈ [D.d], (World.drew wa).heap[k]? = wa.heap[k]? from fun _ _ => rfl)
        refine tk 0 60 (.pointer (some ⟨D.d, 0, none⟩)) BD.out ?y0 ?_
        case y0 =>
          intro w' hw'
          go_simp
        try simp only [Act.put, List.setIfInBounds_toArray, List.set_cons_zero, List.set_cons_succ]
        refine tk 1 61 (.pointer (some ⟨D.d, 0, none⟩)) BD.out ?y1 ?_
        case y1 =>
          intro w' hw'
          go_simp
        try simp only [Act.put, List.setIfInBounds_toArray, List.set_cons_zero, List.set_cons_succ]
        refine tk 2 62 (.pointer (some ⟨D.d, 2, none⟩)) BD.out ?y2 ?_
        case y2 =>
          intro w' hw'
          go_simp
        try simp only [Act.put, List.setIfInBounds_toArray, List.set_cons_zero, List.set_cons_succ]
        refine tk 3 63 (.slice A D.ds.length c) BD.out ?y3 ?_
        case y3 =>
          intro w' hw'
          have y0 := (World.cell?_of_block (a := ⟨D.d, 2, none⟩) (hw' _ (by simp))).trans c2
          go_simp
        try simp only [Act.put, List.setIfInBounds_toArray, List.set_cons_zero, List.set_cons_succ]
        refine tk 4 64 (.int .i64 ((D.ds.length : Nat) : Int)) BD.out ?y4 ?_
        case y4 =>
          intro w' hw'
          go_simp
        try simp only [Act.put, List.setIfInBounds_toArray, List.set_cons_zero, List.set_cons_succ]
        refine tk 5 65 (.pointer (some ⟨D.d, 0, none⟩)) BD.out ?y5 ?_
        case y5 =>
          intro w' hw'
          go_simp
        try simp only [Act.put, List.setIfInBounds_toArray, List.set_cons_zero, List.set_cons_succ]
        refine tk 6 66 (.pointer (some ⟨D.d, 0, none⟩)) BD.out ?y6 ?_
        case y6 =>
          intro w' hw'
          go_simp
        try simp only [Act.put, List.setIfInBounds_toArray, List.set_cons_zero, List.set_cons_succ]
        refine tk 7 67 (.pointer (some ⟨D.d, 4, none⟩)) BD.out ?y7 ?_
        case y7 =>
          intro w' hw'
          go_simp
        try simp only [Act.put, List.setIfInBounds_toArray, List.set_cons_zero, List.set_cons_succ]
        refine tk 8 68 (.int .i64 ((D.most : Nat) : Int)) BD.out ?y8 ?_
        case y8 =>
          intro w' hw'
          have y0 := (World.cell?_of_block (a := ⟨D.d, 4, none⟩) (hw' _ (by simp))).trans c4
          go_simp
        try simp only [Act.put, List.setIfInBounds_toArray, List.set_cons_zero, List.set_cons_succ]
        refine tk 9 69 (.bool false) BD.out ?y9 ?_
        case y9 =>
          intro w' hw'
          go_simp
          have := HMO.out; simp; omega
        try simp only [Act.put, List.setIfInBounds_toArray, List.set_cons_zero, List.set_cons_succ]
        refine dn ?_
        have HDb := Lib.hid HDa.out.drew
        have HKb := Lib.hid (HKa.out.trans (keep_drew _ wa _))
        have HBb := Lib.hid (show B < (World.drew wa).heap.size from HBa.out)
        have HYb := Lib.hid (show (World.drew wa).heap[B]? = _ from HYa.out)
        replace c1 := HDb.out.dr.c1
        replace c2 := (show (World.drew wa).cell? ⟨D.d, 2, none⟩ = _ from c2)
        replace c3 := HDb.out.dr.c3
        have HMAPb := Lib.hid (show MapIs 63 (World.drew wa) D.dm f from HMAP.out)
        clear BD c0 c4
        generalize World.drew wa = wb at *
        have HLL := Lib.hid (show g2.ns.length ≤ 16777216 ∧ D.ds.length ≤ 16777216 from by
          have h1 := HDb.out.st.bd
          have h2 := HDb.out.dr.most
          omega)
        obtain ⟨q, hq⟩ : ∃ q, g2.ns.length + D.ds.length = q := ⟨_, rfl⟩
        have HQ := Lib.hid hq
        clear hq
        go_wp2
        refine wp_region_T (S := fun w' => ∀ k ∈ [D.d], w'.heap[k]? = wb.heap[k]?) (tail := fun _ => false) (by kernel_rfl) ?_
        change wpAnyT _ _ _ _ _ _ _ _ _ (World.drew wb)
        have BD := Lib.hid (show ∀ k ∈ [D.d], (World.drew wb).heap[k]? = wb.heap[k]? from fun _ _ => rfl)
        refine tk 0 73 (.pointer (some ⟨D.d, 0, none⟩)) BD.out ?y0 ?_
        case y0 =>
          intro w' hw'
          go_simp
        try simp only [Act.put, List.setIfInBounds_toArray, List.set_cons_zero, List.set_cons_succ]
        refine tk 1 74 (.pointer (some ⟨D.d, 0, none⟩)) BD.out ?y1 ?_
        case y1 =>
          intro w' hw'
          go_simp
        try simp only [Act.put, List.setIfInBounds_toArray, List.set_cons_zero, List.set_cons_succ]
        refine tk 2 75 (.pointer (some ⟨D.d, 1, none⟩)) BD.out ?y2 ?_
        case y2 =>
          intro w' hw'
          go_simp
        try simp only [Act.put, List.setIfInBounds_toArray, List.set_cons_zero, List.set_cons_succ]
        refine tk 3 76 (.int .i32 ((g2.ns.length : Nat) : Int)) BD.out ?y3 ?_
        case y3 =>
          intro w' hw'
          have y0 := (World.cell?_of_block (a := ⟨D.d, 1, none⟩) (hw' _ (by simp))).trans c1
          go_simp
        try simp only [Act.put, List.setIfInBounds_toArray, List.set_cons_zero, List.set_cons_succ]
        refine tk 4 77 (.pointer (some ⟨D.d, 0, none⟩)) BD.out ?y4 ?_
        case y4 =>
          intro w' hw'
          go_simp
        try simp only [Act.put, List.setIfInBounds_toArray, List.set_cons_zero, List.set_cons_succ]
        refine tk 5 78 (.pointer (some ⟨D.d, 0, none⟩)) BD.out ?y5 ?_
        case y5 =>
          intro w' hw'
          go_simp
        try simp only [Act.put, List.setIfInBounds_toArray, List.set_cons_zero, List.set_cons_succ]
        refine tk 6 79 (.pointer (some ⟨D.d, 2, none⟩)) BD.out ?y6 ?_
        case y6 =>
          intro w' hw'
          go_simp
        try simp only [Act.put, List.setIfInBounds_toArray, List.set_cons_zero, List.set_cons_succ]
        refine tk 7 80 (.slice A D.ds.length c) BD.out ?y7 ?_
        case y7 =>
          intro w' hw'
          have y0 := (World.cell?_of_block (a := ⟨D.d, 2, none⟩) (hw' _ (by simp))).trans c2
          go_simp
        try simp only [Act.put, List.setIfInBounds_toArray, List.set_cons_zero, List.set_cons_succ]
        refine tk 8 81 (.int .i64 ((D.ds.length : Nat) : Int)) BD.out ?y8 ?_
        case y8 =>
          intro w' hw'
          go_simp
        try simp only [Act.put, List.setIfInBounds_toArray, List.set_cons_zero, List.set_cons_succ]
        refine tk 9 82 (.int .i32 ((D.ds.length : Nat) : Int)) BD.out ?y9 ?_
        case y9 =>
          intro w' hw'
          go_simp
          exact IntWalk.i32_in _ (by have := HLL.out; omega)
        try simp only [Act.put, List.setIfInBounds_toArray, List.set_cons_zero, List.set_cons_succ]
        refine tk 10 83 (.int .i32 ((q : Nat) : Int)) BD.out ?y10 ?_
        case y10 =>
          intro w' hw'
          go_simp
          have := HQ.out
          exact (IntWalk.i32_in _ (by have := HLL.out; omega)).trans (by omega)
        try simp only [Act.put, List.setIfInBounds_toArray, List.set_cons_zero, List.set_cons_succ]
        refine tk 11 14 (.int .i32 ((q : Nat) : Int)) BD.out ?y11 ?_
        case y11 =>
          intro w' hw'
          go_simp
        try simp only [Act.put, List.setIfInBounds_toArray, List.set_cons_zero, List.set_cons_succ]
        refine dn ?_
        go_wp2
        have HDc := Lib.hid HDb.out.drew
        have HKc := Lib.hid (HKb.out.trans (keep_drew _ wb _))
        have HBc := Lib.hid (show B < (World.drew wb).heap.size from HBb.out)
        have HYc := Lib.hid (show (World.drew wb).heap[B]? = _ from HYb.out)
        replace c2 := (show (World.drew wb).cell? ⟨D.d, 2, none⟩ = _ from c2)
        have HMAPc := Lib.hid (show MapIs 63 (World.drew wb) D.dm f from HMAPb.out)
        clear BD c1 c3
        generalize World.drew wb = wc at *
        refine wp_region_T (S := fun w' => ∀ k ∈ [D.d, B], w'.heap[k]? = wc.heap[k]?) (tail := fun j => decide (10 ≤ j)) (by kernel_rfl) ?_
        change wpAnyT _ _ _ _ _ _ _ _ _ (World.drew wc)
        have BD := Lib.hid (show ∀ k ∈ [D.d, B], (World.drew wc).heap[k]? = wc.heap[k]? from fun _ _ => rfl)
        have HDe := Lib.hid HDc.out.drew
        have HKe := Lib.hid (HKc.out.trans (keep_drew _ wc _))
        have HBe := Lib.hid (show B < (World.drew wc).heap.size from HBc.out)
        have HMAPe := Lib.hid (show MapIs 63 (World.drew wc) D.dm f from HMAPc.out)
        have HWE := Lib.hid (show (World.drew wc).heap.size = wc.heap.size from rfl)
        generalize World.drew wc = we at *
        refine tk 0 84 (.pointer (some ⟨D.d, 0, none⟩)) BD.out ?y0 ?_
        case y0 =>
          intro w' hw'
          go_simp
        try simp only [Act.put, List.setIfInBounds_toArray, List.set_cons_zero, List.set_cons_succ]
        refine tk 1 85 (.pointer (some ⟨D.d, 0, none⟩)) BD.out ?y1 ?_
        case y1 =>
          intro w' hw'
          go_simp
        try simp only [Act.put, List.setIfInBounds_toArray, List.set_cons_zero, List.set_cons_succ]
        refine tk 2 86 (.pointer (some ⟨D.d, 0, none⟩)) BD.out ?y2 ?_
        case y2 =>
          intro w' hw'
          go_simp
        try simp only [Act.put, List.setIfInBounds_toArray, List.set_cons_zero, List.set_cons_succ]
        refine tk 3 87 (.pointer (some ⟨D.d, 2, none⟩)) BD.out ?y3 ?_
        case y3 =>
          intro w' hw'
          go_simp
        try simp only [Act.put, List.setIfInBounds_toArray, List.set_cons_zero, List.set_cons_succ]
        refine tk 4 88 (.slice A D.ds.length c) BD.out ?y4 ?_
        case y4 =>
          intro w' hw'
          have y0 := (World.cell?_of_block (a := ⟨D.d, 2, none⟩) (hw' _ (by simp))).trans c2
          go_simp
        try simp only [Act.put, List.setIfInBounds_toArray, List.set_cons_zero, List.set_cons_succ]
        refine tk 5 89 (.agg #[.int .i32 (n.v : Int), .int .i32 (n.a : Int), .int .i32 (n.b : Int)]) BD.out ?y5 ?_
        case y5 =>
          intro w' hw'
          obtain ⟨z0, z1, z2⟩ := box_cells ((hw' B (by simp)).trans HYc.out)
          go_simp
        try simp only [Act.put, List.setIfInBounds_toArray, List.set_cons_zero, List.set_cons_succ]
        refine on 6 (fun K hK => ?_)
        go_simp
        have BA := Lib.hid (show ∀ k ∈ [D.d, B], (we.alloc (.cells #[.int .i32 (n.v : Int), .int .i32 (n.a : Int), .int .i32 (n.b : Int)] 63)).heap[k]? = wc.heap[k]? from fun k hk => (heap_alloc_old (by
          have h1 := HDe.out.dr.ltd
          have h2 := HBe.out
          simp at hk
          rcases hk with rfl | rfl <;> assumption)).trans (BD.out k hk))
        refine hK.out _ _ (fun _ => BA.out) ?_
        clear hK K
        try simp only [Act.put, List.setIfInBounds_toArray, List.set_cons_zero, List.set_cons_succ]
        have HA := Lib.hid (HDe.out.alloc (.cells #[.int .i32 (n.v : Int), .int .i32 (n.a : Int), .int .i32 (n.b : Int)] 63))
        have HKA := Lib.hid (HKe.out.trans (keep_alloc _ we _ (.cells #[.int .i32 (n.v : Int), .int .i32 (n.a : Int), .int .i32 (n.b : Int)] 63)))
        refine on 7 (fun K hK => ?_)
        refine wp_append_lies (we.alloc (.cells #[.int .i32 (n.v : Int), .int .i32 (n.a : Int), .int .i32 (n.b : Int)] 63)) (.tmp 88) (.tmp 90) 64 rfl 0 63 i0 (.agg #[.int .i32 0, .int .i32 0, .int .i32 0]) 3 12 Try.underlying64 hi hz0 hz1 hz2 rfl (by decide) D.val D.ds.length (cellsN D.ds) (HV.out.symm) HA.out.dr.row ⟨we.heap.size, 0, none⟩ 1 1 [.int .i32 (n.v : Int), .int .i32 (n.a : Int), .int .i32 (n.b : Int)] rfl rfl (World.news_of_block (cs := #[.int .i32 (n.v : Int), .int .i32 (n.a : Int), .int .i32 (n.b : Int)]) (t := 63) (fr := (0, 0)) (MapKept.heap_alloc we _).1) (by simp [Value.oneCell']) (by decide) (by unfold maxLen; have := HLL.out; omega) (by have := HLL.out; omega) (Nat.zero_le _) _ rfl ?_
        intro gg cap w5 hown5 hgrow5 hloc5 hlt5
        have HGR := Lib.hid (show _ ∧ _ ∧ _ ∧ _ from ⟨hown5, hgrow5, lies63 hloc5 (Nat.le_refl _), hlt5⟩)
        have B2 := Lib.hid (show ∀ k ∈ [D.d, B], w5.heap[k]? = wc.heap[k]? from fun k hk => (hgrow5.block k (by
          have h1 := HDe.out.dr.ltd
          have h2 := HBe.out
          simp at hk ⊢
          rcases hk with rfl | rfl <;> omega) (fun e => by
          have h1 := HA.out.dr.orow k e.symm
          have h2 := HO2.out
          have h3 := HA.out.dr.od
          simp at hk
          rcases hk with rfl | rfl <;> omega)).trans (BA.out k hk))
        have fr2 : w5.frozen? ⟨D.d, 2, none⟩ = false := (World.frozen?_of_block (a := ⟨D.d, 2, none⟩) (B2.out D.d (by simp))).trans (HDc.out.dr.frz 2)
        have cc2 := (World.cell?_of_block (a := ⟨D.d, 2, none⟩) (B2.out D.d (by simp))).trans c2
        clear hown5 hgrow5 hloc5 hlt5
        refine hK.out _ _ (fun _ => B2.out) ?_
        clear hK K
        try simp only [Act.put, List.setIfInBounds_toArray, List.set_cons_zero, List.set_cons_succ]
        refine tk 8 92 (.pointer (some ⟨D.d, 0, none⟩)) B2.out ?y8 ?_
        case y8 =>
          intro w' hw'
          go_simp
        try simp only [Act.put, List.setIfInBounds_toArray, List.set_cons_zero, List.set_cons_succ]
        refine tk 9 93 (.pointer (some ⟨D.d, 2, none⟩)) B2.out ?y9 ?_
        case y9 =>
          intro w' hw'
          go_simp
        try simp only [Act.put, List.setIfInBounds_toArray, List.set_cons_zero, List.set_cons_succ]
        refine on 10 (fun K hK => ?_)
        go_simp
        refine hK.out _ _ (fun h => absurd h (by decide)) ?_
        clear hK K
        try simp only [Act.put, List.setIfInBounds_toArray, List.set_cons_zero, List.set_cons_succ]
        refine dn ?_
        obtain ⟨hr1, hr2, hr3, hr4⟩ := HGR.out
        obtain ⟨-, -, hk3, -⟩ := HA.out.dr.grow (n := n) HA.out.st hr1 hr2 hr3 hr4
        obtain ⟨w6, hw6⟩ : ∃ w6, w5.setCell ⟨D.d, 2, none⟩ (.slice (some ⟨gg, 0, none⟩) (D.ds.length + 1) cap) = w6 := ⟨_, rfl⟩
        have HW6 := Lib.hid hw6
        rw [hw6] at hk3 ⊢
        have HY6 := Lib.hid (show w6.heap[B]? = _ from (by
          rw [← hw6, Below.heap_setCell _ _ _ _ (by
            have h1 := HO2.out
            have h3 := HA.out.dr.od
            intro e
            simp only at e
            rw [e] at h1
            omega)]
          exact B2.out B (by simp) : w6.heap[B]? = wc.heap[B]?).trans HYc.out)
        have d3 : w6.cell? ⟨D.d, 3, none⟩ = some (.map (some D.dm)) := by
          rw [← hw6, World.cell?_setCell_other _ _ _ _ (by simp)]
          exact (World.cell?_of_block (a := ⟨D.d, 3, none⟩) (B2.out D.d (by simp))).trans HDc.out.dr.c3
        have HM6 := Lib.hid (show MapIs 63 w6 D.dm f from HMAPe.out.move ((hk3.blk D.dm (by have := HMAPe.out.lt; simp; omega) (by have := HA.out.dr.om; rw [this]; rfl)).trans (heap_alloc_old HMAPe.out.lt)))
        have HK6 := Lib.hid hk3
        clear hr1 hr2 hr3 hr4 hk3 hw6 BD BA B2 cc2 fr2 c2
        go_wp2
        refine wp_region_T (S := fun w' => ∀ k ∈ [D.d, B], w'.heap[k]? = w6.heap[k]?) (tail := fun j => decide (6 ≤ j)) (by kernel_rfl) ?_
        change wpAnyT _ _ _ _ _ _ _ _ _ (World.drew w6)
        have BD := Lib.hid (show ∀ k ∈ [D.d, B], (World.drew w6).heap[k]? = w6.heap[k]? from fun _ _ => rfl)
        refine tk 0 94 (.pointer (some ⟨D.d, 0, none⟩)) BD.out ?y0 ?_
        case y0 =>
          intro w' hw'
          go_simp
        try simp only [Act.put, List.setIfInBounds_toArray, List.set_cons_zero, List.set_cons_succ]
        refine tk 1 95 (.pointer (some ⟨D.d, 0, none⟩)) BD.out ?y1 ?_
        case y1 =>
          intro w' hw'
          go_simp
        try simp only [Act.put, List.setIfInBounds_toArray, List.set_cons_zero, List.set_cons_succ]
        refine tk 2 96 (.pointer (some ⟨D.d, 3, none⟩)) BD.out ?y2 ?_
        case y2 =>
          intro w' hw'
          go_simp
        try simp only [Act.put, List.setIfInBounds_toArray, List.set_cons_zero, List.set_cons_succ]
        refine tk 3 97 (.map (some D.dm)) BD.out ?y3 ?_
        case y3 =>
          intro w' hw'
          have y0 := (World.cell?_of_block (a := ⟨D.d, 3, none⟩) (hw' _ (by simp))).trans d3
          go_simp
        try simp only [Act.put, List.setIfInBounds_toArray, List.set_cons_zero, List.set_cons_succ]
        refine tk 4 98 (.agg #[.int .i32 (n.v : Int), .int .i32 (n.a : Int), .int .i32 (n.b : Int)]) BD.out ?y4 ?_
        case y4 =>
          intro w' hw'
          obtain ⟨z0, z1, z2⟩ := box_cells ((hw' B (by simp)).trans HY6.out)
          go_simp
        try simp only [Act.put, List.setIfInBounds_toArray, List.set_cons_zero, List.set_cons_succ]
        refine tk 5 99 (.int .i32 ((q : Nat) : Int)) BD.out ?y5 ?_
        case y5 =>
          intro w' hw'
          go_simp
        try simp only [Act.put, List.setIfInBounds_toArray, List.set_cons_zero, List.set_cons_succ]
        obtain ⟨w7, hrun, hm7, ht7⟩ := (show MapIs 63 (World.drew w6) D.dm f from HM6.out).store K63 Try.underlying77 HISK.out (.int .i32 ((q : Nat) : Int))
        unfold ndV at hrun
        obtain ⟨hr1, hr2, hr3, hr4⟩ := HGR.out
        have ht6 : (w5.setCell ⟨D.d, 2, none⟩ (.slice (some ⟨gg, 0, none⟩) (D.ds.length + 1) cap)).grownBy w7 (some D.dm) := by
          rw [HW6.out]
          exact grown_trans (grown_any (grown_drewN w6 1)) ht7.grown
        have hlen : (g2.ns ++ D.ds).length = q := List.length_append.trans HQ.out
        have hm7' : MapIs 63 w7 D.dm (updV f (ndV n) (i32 (g2.ns ++ D.ds).length)) := by rw [hlen]; exact hm7
        obtain ⟨hdF, hkF⟩ := HA.out.push (n := n) hr1 hr2 hr3 hr4 (by
          rw [← List.append_assoc]
          obtain ⟨hv0, ha0, hb0⟩ := HIN.out.ok HFULL.out HAB.out
          have e0 : lst g D = g2.ns ++ D.ds := by unfold lst; rw [HE2.out.ns]
          have hV : g2.V = g.V := HE2.out.V
          rw [e0] at ha0 hb0
          have h1 := HIN.out.a
          have h2 := HIN.out.b
          rw [e0] at h1 h2
          exact HDc.out.dr.wf.push (by rw [hV]; exact hv0) h1 h2 HAB.out ha0 hb0 (fun i hi => by
            by_cases hlo : i < g2.ns.length
            · rw [List.getElem?_append_left hlo]
              exact HNF.out i hi
            · exact HNF2.out i (by omega))) (by have := HMO.out; omega) hm7' ht6 (by
          rw [← List.append_assoc]
          exact HNUM.out.push n (by simp) (fun i hi => HNF2.out i hi)) HFULL.out
        have HR := Lib.hid (show NodePost w o g D n (.returned (.int .i32 ((q : Nat) : Int))) w7 from ⟨q, _, g2, _, rfl, hdF, HKA.out.trans hkF, HE2.out.trans ⟨rfl, rfl, rfl, rfl, Nat.le_refl _, rfl, rfl, ⟨[n], rfl⟩, id⟩, by
          unfold lst
          have := HQ.out
          simp only [List.length_append, List.length_singleton]
          omega, by simp, Nat.le_of_eq HW2.out, fun _ => HW2.out, .inr (.inr ⟨HAB.out, by have := HDc.out.st.wf.two; have := HQ.out; omega, by
          show (g2.ns ++ (D.ds ++ [n]))[q]? = some n
          rw [← List.append_assoc, ← hlen]
          simp⟩)⟩)
        clear hr1 hr2 hr3 hr4 hm7 hm7' ht6 ht7 hdF hkF hlen
        refine on 6 (fun K hK => ?_)
        go_simp
        refine hK.out _ _ (fun h => absurd h (by decide)) ?_
        clear hK K
        try simp only [Act.put, List.setIfInBounds_toArray, List.set_cons_zero, List.set_cons_succ]
        refine dn ?_
        go_wp2
        go_ret
        exact HR.out
set_option maxHeartbeats 8000000 in
set_option maxRecDepth 100000 in
theorem node_new (h : DS w o g D) {n : Nd} (hin : NodeIn g D n) (hab : n.a ≠ n.b) (hmx : ¬ max n.a n.b < g.ns.length) : Calls Try.prog 52 #[.pointer (some ⟨D.d, 0, none⟩), .int .i32 (n.v : Int), .int .i32 (n.a : Int), .int .i32 (n.b : Int)] w (NodePost w o g D n) := by
  obtain ⟨i0, hi, hz0, hz1, hz2⟩ := info_parts info63
  have hfst : (g.ns.length : Int) ≤ 16777216 := by have := h.st.bd; omega
  have H1 := Lib.hid (h.alloc (.cells #[.int .i32 (n.v : Int), .int .i32 (n.a : Int), .int .i32 (n.b : Int)] 63))
  have HK := Lib.hid (keep_alloc Td w o (.cells #[.int .i32 (n.v : Int), .int .i32 (n.a : Int), .int .i32 (n.b : Int)] 63))
  have HO := Lib.hid (h.st.new w.heap.size (Nat.le_refl _))
  have HY := Lib.hid (MapKept.heap_alloc w (.cells #[.int .i32 (n.v : Int), .int .i32 (n.a : Int), .int .i32 (n.b : Int)] 63)).1
  have HIN := Lib.hid hin
  have HLEN := Lib.hid h.len
  have c0 := H1.out.dr.c0
  have c1 := H1.out.dr.c1
  have s7 := H1.out.st.cell7
  have HB0 := Lib.hid (H1.out.dr.ltd)
  have HSL := Lib.hid h.st.lts
  have HFR := Lib.hid (H1.out.st.frz 7)
  have HMX := Lib.hid (max_cast n.a n.b)

  have q1 : (((n.a : Nat) : Int) == ((n.b : Nat) : Int)) = false := by simp; omega
  have HMQ := Lib.hid hmx
  have HAB := Lib.hid hab
  clear h hin hab hmx
  go_enter Try.func52, Try.ntmps52
  go_wp2_with fail
  refine (add_u64 g.s 7 _ _ s7 HFR.out).mono ?_
  rintro e w1 ⟨⟨v, rfl⟩, hw1⟩
  obtain ⟨hd1, hk1⟩ := H1.out.works
  rw [← hw1] at hd1 hk1
  have hyy := (hk1.blk w.heap.size (by simp) (by rw [HO.out]; rfl)).trans HY.out
  have HB1 := Lib.hid (show w.heap.size < w1.heap.size from Nat.lt_of_lt_of_le (by simp) hk1.size)
  obtain ⟨B, hB⟩ : ∃ B, w.heap.size = B := ⟨_, rfl⟩
  obtain ⟨g1, hg1⟩ : ∃ g1 : SG, { g with W := g.W + 1 } = g1 := ⟨_, rfl⟩
  have HE1 := Lib.hid (show Ext g D g1 D from by rw [← hg1]; exact ⟨rfl, rfl, rfl, rfl, Nat.le_succ _, rfl, rfl, ⟨[], by simp⟩, id⟩)
  have HW1 := Lib.hid (show g1.W = g.W + 1 from by rw [← hg1])
  have HV1 := Lib.hid (show g1.val = g.val from by rw [← hg1])
  rw [hg1] at hd1
  have HD1 := Lib.hid hd1
  have HK1 := Lib.hid (HK.out.trans (hk1.more (td_of fun t ht => by simp at ht; omega)))
  have HY1 := Lib.hid hyy
  rw [hB] at HO HY1 HB1
  clear hw1 hyy hd1 hk1 hg1 c0 c1 s7 H1 HK HY HB0 HFR HSL hfst
  rw [hB]
  clear hB
  have c1 := HD1.out.dr.c1
  have HMQ1 := Lib.hid (show ¬ max n.a n.b < g1.ns.length from by rw [HE1.out.ns]; exact HMQ.out)
  obtain ⟨m, hm⟩ : ∃ m, max n.a n.b = m := ⟨_, rfl⟩
  have qm : (if n.a < n.b then (n.b : Int) else (n.a : Int)) = (m : Int) := by rw [← hm]; split <;> omega
  have qq : ¬ (m : Int) < (g1.ns.length : Int) := by rw [← hm]; have := HMQ1.out; omega
  clear hm
  go_wp2
  have HNF := Lib.hid (HD1.out.find0 HMQ1.out)
  have HO1 := Lib.hid HO.out
  have c0 := HD1.out.dr.c0
  have c1 := HD1.out.dr.c1
  have c2 := HD1.out.dr.c2
  have c3 := HD1.out.dr.c3
  have c4 := HD1.out.dr.c4
  obtain ⟨A, c, hv⟩ : ∃ A c, D.val = .slice A D.ds.length c := by
    obtain ⟨-, h1⟩ := HD1.out.dr.row
    rcases h1 with ⟨h1, h3⟩ | ⟨gx, cap, cur, h1, -⟩
    · exact ⟨none, 0, by rw [h1, h3]⟩
    · exact ⟨_, _, h1⟩
  rw [hv] at c2
  have HV := Lib.hid hv
  obtain ⟨f, hmap, hnum⟩ := HD1.out.dr.map
  have HISK := Lib.hid (isK63 (n := n) HIN.out.v (Nat.lt_of_lt_of_le HIN.out.a (Nat.le_trans HLEN.out (by decide))) (Nat.lt_of_lt_of_le HIN.out.b (Nat.le_trans HLEN.out (by decide))))
  have hlk : ∀ w' : World, w'.heap[D.dm]? = w1.heap[D.dm]? → (Instr.lookup 77 (.map (some D.dm)) (ndV n) true).run Try.prog w' = .ok (.tuple #[(f (ndV n)).getD (.int .i32 0), .bool (f (ndV n)).isSome]) w' := fun w' hw' => (hmap.move hw').look K63 Try.underlying77 (z21 _) HISK.out
  have hdl := HD1.out.dr.ltd
  have hml := hmap.lt
  clear hv
  rcases hnum.cases n with ⟨i, hi2, hni, hf⟩ | ⟨hnf2, hf⟩
  · rw [hf] at hlk
    simp only [Option.getD_some, Option.isSome_some, i32] at hlk
    have HR := Lib.hid (show NodePost w o g D n (.returned (.int .i32 (i : Int))) (World.drew w1) from ⟨i, o, g1, D, rfl, HD1.out.drew, HK1.out.trans (keep_drew _ w1 _), HE1.out, by
      have := (List.getElem?_eq_some_iff.1 hni).1
      unfold lst
      exact this, Nat.le_succ _, Nat.le_of_eq HW1.out, fun _ => HW1.out, .inr (.inr ⟨HAB.out, by have := HD1.out.st.wf.two; omega, hni⟩)⟩)
    clear hni hf hnum hmap
    have HLK := Lib.hid hlk
    clear hlk
    refine wp_region_T (S := fun w' => ∀ k ∈ [D.d, B, D.dm], w'.heap[k]? = w1.heap[k]?) (tail := fun _ => false) (by kernel_rfl) ?_
    change wpAnyT _ _ _ _ _ _ _ _ _ (World.drew w1)
    have BD := Lib.hid (show ∀ k ∈ [D.d, B, D.dm], (World.drew w1).heap[k]? = w1.heap[k]? from fun _ _ => rfl)
    refine tk 0 50 (.pointer (some ⟨D.d, 0, none⟩)) BD.out ?y0 ?_
    case y0 =>
      intro w' hw'
      go_simp
    try simp only [Act.put, List.setIfInBounds_toArray, List.set_cons_zero, List.set_cons_succ]
    refine tk 1 51 (.pointer (some ⟨D.d, 0, none⟩)) BD.out ?y1 ?_
    case y1 =>
      intro w' hw'
      go_simp
    try simp only [Act.put, List.setIfInBounds_toArray, List.set_cons_zero, List.set_cons_succ]
    refine tk 2 52 (.pointer (some ⟨D.d, 3, none⟩)) BD.out ?y2 ?_
    case y2 =>
      intro w' hw'
      go_simp
    try simp only [Act.put, List.setIfInBounds_toArray, List.set_cons_zero, List.set_cons_succ]
    refine tk 3 53 (.map (some D.dm)) BD.out ?y3 ?_
    case y3 =>
      intro w' hw'
      have y0 := (World.cell?_of_block (a := ⟨D.d, 3, none⟩) (hw' _ (by simp))).trans c3
      go_simp
    try simp only [Act.put, List.setIfInBounds_toArray, List.set_cons_zero, List.set_cons_succ]
    refine tk 4 54 (.agg #[.int .i32 (n.v : Int), .int .i32 (n.a : Int), .int .i32 (n.b : Int)]) BD.out ?y4 ?_
    case y4 =>
      intro w' hw'
      obtain ⟨z0, z1, z2⟩ := box_cells ((hw' B (by simp)).trans HY1.out)
      go_simp
    try simp only [Act.put, List.setIfInBounds_toArray, List.set_cons_zero, List.set_cons_succ]
    refine tk 5 55 (.tuple #[.int .i32 (i : Int), .bool true]) BD.out ?y5 ?_
    case y5 =>
      intro w' hw'
      have y0 := HLK.out w' (hw' D.dm (by simp))
      unfold ndV at y0
      go_simp
    try simp only [Act.put, List.setIfInBounds_toArray, List.set_cons_zero, List.set_cons_succ]
    refine tk 6 49 (.tuple #[.int .i32 (i : Int), .bool true]) BD.out ?y6 ?_
    case y6 =>
      intro w' hw'
      go_simp
    try simp only [Act.put, List.setIfInBounds_toArray, List.set_cons_zero, List.set_cons_succ]
    refine tk 7 56 (.int .i32 (i : Int)) BD.out ?y7 ?_
    case y7 =>
      intro w' hw'
      go_simp
    try simp only [Act.put, List.setIfInBounds_toArray, List.set_cons_zero, List.set_cons_succ]
    refine tk 8 57 (.bool true) BD.out ?y8 ?_
    case y8 =>
      intro w' hw'
      go_simp
    try simp only [Act.put, List.setIfInBounds_toArray, List.set_cons_zero, List.set_cons_succ]
    refine tk 9 12 (.int .i32 (i : Int)) BD.out ?y9 ?_
    case y9 =>
      intro w' hw'
      go_simp
    try simp only [Act.put, List.setIfInBounds_toArray, List.set_cons_zero, List.set_cons_succ]
    refine tk 10 13 (.bool true) BD.out ?y10 ?_
    case y10 =>
      intro w' hw'
      go_simp
    try simp only [Act.put, List.setIfInBounds_toArray, List.set_cons_zero, List.set_cons_succ]
    refine dn ?_
    go_wp2
    go_ret
    exact HR.out
  · rw [hf] at hlk
    simp only [Option.getD_none, Option.isSome_none] at hlk
    have HNF2 := Lib.hid hnf2
    have HNUM := Lib.hid hnum
    have HMAP := Lib.hid (show MapIs 63 (World.drew w1) D.dm f from hmap)
    have HMB := Lib.hid HD1.out.dr.most
    clear hnf2 hf hnum hmap
    by_cases hmo : D.most ≤ D.ds.length
    · have HMO := Lib.hid hmo
      clear hmo
      have HLK := Lib.hid hlk
      clear hlk
      refine wp_region_T (S := fun w' => ∀ k ∈ [D.d, B, D.dm], w'.heap[k]? = w1.heap[k]?) (tail := fun _ => false) (by kernel_rfl) ?_
      change wpAnyT _ _ _ _ _ _ _ _ _ (World.drew w1)
      have BD := Lib.hid (show ∀ k ∈ [D.d, B, D.dm], (World.drew w1).heap[k]? = w1.heap[k]? from fun _ _ => rfl)
      refine tk 0 50 (.pointer (some ⟨D.d, 0, none⟩)) BD.out ?y0 ?_
      case y0 =>
        intro w' hw'
        go_simp
      try simp only [Act.put, List.setIfInBounds_toArray, List.set_cons_zero, List.set_cons_succ]
      refine tk 1 51 (.pointer (some ⟨D.d, 0, none⟩)) BD.out ?y1 ?_
      case y1 =>
        intro w' hw'
        go_simp
      try simp only [Act.put, List.setIfInBounds_toArray, List.set_cons_zero, List.set_cons_succ]
      refine tk 2 52 (.pointer (some ⟨D.d, 3, none⟩)) BD.out ?y2 ?_
      case y2 =>
        intro w' hw'
        go_simp
      try simp only [Act.put, List.setIfInBounds_toArray, List.set_cons_zero, List.set_cons_succ]
      refine tk 3 53 (.map (some D.dm)) BD.out ?y3 ?_
      case y3 =>
        intro w' hw'
        have y0 := (World.cell?_of_block (a := ⟨D.d, 3, none⟩) (hw' _ (by simp))).trans c3
        go_simp
      try simp only [Act.put, List.setIfInBounds_toArray, List.set_cons_zero, List.set_cons_succ]
      refine tk 4 54 (.agg #[.int .i32 (n.v : Int), .int .i32 (n.a : Int), .int .i32 (n.b : Int)]) BD.out ?y4 ?_
      case y4 =>
        intro w' hw'
        obtain ⟨z0, z1, z2⟩ := box_cells ((hw' B (by simp)).trans HY1.out)
        go_simp
      try simp only [Act.put, List.setIfInBounds_toArray, List.set_cons_zero, List.set_cons_succ]
      refine tk 5 55 (.tuple #[.int .i32 0, .bool false]) BD.out ?y5 ?_
      case y5 =>
        intro w' hw'
        have y0 := HLK.out w' (hw' D.dm (by simp))
        unfold ndV at y0
        go_simp
      try simp only [Act.put, List.setIfInBounds_toArray, List.set_cons_zero, List.set_cons_succ]
      refine tk 6 49 (.tuple #[.int .i32 0, .bool false]) BD.out ?y6 ?_
      case y6 =>
        intro w' hw'
        go_simp
      try simp only [Act.put, List.setIfInBounds_toArray, List.set_cons_zero, List.set_cons_succ]
      refine tk 7 56 (.int .i32 0) BD.out ?y7 ?_
      case y7 =>
        intro w' hw'
        go_simp
      try simp only [Act.put, List.setIfInBounds_toArray, List.set_cons_zero, List.set_cons_succ]
      refine tk 8 57 (.bool false) BD.out ?y8 ?_
      case y8 =>
        intro w' hw'
        go_simp
      try simp only [Act.put, List.setIfInBounds_toArray, List.set_cons_zero, List.set_cons_succ]
      refine tk 9 12 (.int .i32 0) BD.out ?y9 ?_
      case y9 =>
        intro w' hw'
        go_simp
      try simp only [Act.put, List.setIfInBounds_toArray, List.set_cons_zero, List.set_cons_succ]
      refine tk 10 13 (.bool false) BD.out ?y10 ?_
      case y10 =>
        intro w' hw'
        go_simp
      try simp only [Act.put, List.setIfInBounds_toArray, List.set_cons_zero, List.set_cons_succ]
      refine dn ?_
      go_wp2
      have HDa := Lib.hid HD1.out.drew
      have HKa := Lib.hid (HK1.out.trans (keep_drew _ w1 _))
      have HBa := Lib.hid (show B < (World.drew w1).heap.size from HB1.out)
      have HYa := Lib.hid (show (World.drew w1).heap[B]? = _ from HY1.out)
      replace c0 := HDa.out.dr.c0
      replace c1 := HDa.out.dr.c1
      replace c2 := (show (World.drew w1).cell? ⟨D.d, 2, none⟩ = _ from c2)
      replace c3 := HDa.out.dr.c3
      replace c4 := HDa.out.dr.c4
      clear BD
      generalize World.drew w1 = wa at *
      refine wp_region_T (S := fun w' => ∀ k ∈ [D.d], w'.heap[k]? = wa.heap[k]?) (tail := fun _ => false) (by kernel_rfl) ?_
      change wpAnyT _ _ _ _ _ _ _ _ _ (World.drew wa)
      have BD := Lib.hid (show ∀ k ∈ [D.d], (World.drew wa).heap[k]? = wa.heap[k]? from fun _ _ => rfl)
      refine tk 0 60 (.pointer (some ⟨D.d, 0, none⟩)) BD.out ?y0 ?_
      case y0 =>
        intro w' hw'
        go_simp
      try simp only [Act.put, List.setIfInBounds_toArray, List.set_cons_zero, List.set_cons_succ]
      refine tk 1 61 (.pointer (some ⟨D.d, 0, none⟩)) BD.out ?y1 ?_
      case y1 =>
        intro w' hw'
        go_simp
      try simp only [Act.put, List.setIfInBounds_toArray, List.set_cons_zero, List.set_cons_succ]
      refine tk 2 62 (.pointer (some ⟨D.d, 2, none⟩)) BD.out ?y2 ?_
      case y2 =>
        intro w' hw'
        go_simp
      try simp only [Act.put, List.setIfInBounds_toArray, List.set_cons_zero, List.set_cons_succ]
      refine tk 3 63 (.slice A D.ds.length c) BD.out ?y3 ?_
      case y3 =>
        intro w' hw'
        have y0 := (World.cell?_of_block (a := ⟨D.d, 2, none⟩) (hw' _ (by simp))).trans c2
        go_simp
      try simp only [Act.put, List.setIfInBounds_toArray, List.set_cons_zero, List.set_cons_succ]
      refine tk 4 64 (.int .i64 ((D.ds.length : Nat) : Int)) BD.out ?y4 ?_
      case y4 =>
        intro w' hw'
        go_simp
      try simp only [Act.put, List.setIfInBounds_toArray, List.set_cons_zero, List.set_cons_succ]
      refine tk 5 65 (.pointer (some ⟨D.d, 0, none⟩)) BD.out ?y5 ?_
      case y5 =>
        intro w' hw'
        go_simp
      try simp only [Act.put, List.setIfInBounds_toArray, List.set_cons_zero, List.set_cons_succ]
      refine tk 6 66 (.pointer (some ⟨D.d, 0, none⟩)) BD.out ?y6 ?_
      case y6 =>
        intro w' hw'
        go_simp
      try simp only [Act.put, List.setIfInBounds_toArray, List.set_cons_zero, List.set_cons_succ]
      refine tk 7 67 (.pointer (some ⟨D.d, 4, none⟩)) BD.out ?y7 ?_
      case y7 =>
        intro w' hw'
        go_simp
      try simp only [Act.put, List.setIfInBounds_toArray, List.set_cons_zero, List.set_cons_succ]
      refine tk 8 68 (.int .i64 ((D.most : Nat) : Int)) BD.out ?y8 ?_
      case y8 =>
        intro w' hw'
        have y0 := (World.cell?_of_block (a := ⟨D.d, 4, none⟩) (hw' _ (by simp))).trans c4
        go_simp
      try simp only [Act.put, List.setIfInBounds_toArray, List.set_cons_zero, List.set_cons_succ]
      refine tk 9 69 (.bool true) BD.out ?y9 ?_
      case y9 =>
        intro w' hw'
        go_simp
        have := HMO.out; simp; omega
      try simp only [Act.put, List.setIfInBounds_toArray, List.set_cons_zero, List.set_cons_succ]
      refine dn ?_
      have HDb := Lib.hid HDa.out.drew
      have HKb := Lib.hid (HKa.out.trans (keep_drew _ wa _))
      clear BD c0 c1 c2 c3 c4
      generalize World.drew wa = wb at *
      have c5 := HDb.out.dr.c5
      have f5 := HDb.out.dr.frz 5
      obtain ⟨hds, hks⟩ := HDb.out.setFull HMO.out
      have HR := Lib.hid (show NodePost w o g D n (.returned (.int .i32 ((0 : Nat) : Int))) (wb.setCell ⟨D.d, 5, none⟩ (.bool true)) from ⟨0, o, g1, { D with full := true }, rfl, hds, HKb.out.trans (hks.more (td_of fun t ht => by simp at ht; omega)), HE1.out.trans ⟨rfl, rfl, rfl, rfl, Nat.le_refl _, rfl, rfl, ⟨[], by simp⟩, fun _ => rfl⟩, by
        have := HDb.out.st.wf.two
        unfold lst
        simp only [List.length_append]
        omega, Nat.le_succ _, Nat.le_of_eq HW1.out, fun _ => HW1.out, .inl ⟨rfl, rfl⟩⟩)
      clear hds hks
      go_wp2
      go_ret
      exact HR.out
    · have HMO := Lib.hid hmo
      have HFULL := Lib.hid (show D.full = false from by
        cases hfu : D.full with
        | false => rfl
        | true => exact absurd (HD1.out.dr.fl hfu) hmo)
      clear hmo
      have HLK := Lib.hid hlk
      clear hlk
      refine wp_region_T (S := fun w' => ∀ k ∈ [D.d, B, D.dm], w'.heap[k]? = w1.heap[k]?) (tail := fun _ => false) (by kernel_rfl) ?_
      change wpAnyT _ _ _ _ _ _ _ _ _ (World.drew w1)
      have BD := Lib.hid (show ∀ k ∈ [D.d, B, D.dm], (World.drew w1).heap[k]? = w1.heap[k]? from fun _ _ => rfl)
      refine tk 0 50 (.pointer (some ⟨D.d, 0, none⟩)) BD.out ?y0 ?_
      case y0 =>
        intro w' hw'
        go_simp
      try simp only [Act.put, List.setIfInBounds_toArray, List.set_cons_zero, List.set_cons_succ]
      refine tk 1 51 (.pointer (some ⟨D.d, 0, none⟩)) BD.out ?y1 ?_
      case y1 =>
        intro w' hw'
        go_simp
      try simp only [Act.put, List.setIfInBounds_toArray, List.set_cons_zero, List.set_cons_succ]
      refine tk 2 52 (.pointer (some ⟨D.d, 3, none⟩)) BD.out ?y2 ?_
      case y2 =>
        intro w' hw'
        go_simp
      try simp only [Act.put, List.setIfInBounds_toArray, List.set_cons_zero, List.set_cons_succ]
      refine tk 3 53 (.map (some D.dm)) BD.out ?y3 ?_
      case y3 =>
        intro w' hw'
        have y0 := (World.cell?_of_block (a := ⟨D.d, 3, none⟩) (hw' _ (by simp))).trans c3
        go_simp
      try simp only [Act.put, List.setIfInBounds_toArray, List.set_cons_zero, List.set_cons_succ]
      refine tk 4 54 (.agg #[.int .i32 (n.v : Int), .int .i32 (n.a : Int), .int .i32 (n.b : Int)]) BD.out ?y4 ?_
      case y4 =>
        intro w' hw'
        obtain ⟨z0, z1, z2⟩ := box_cells ((hw' B (by simp)).trans HY1.out)
        go_simp
      try simp only [Act.put, List.setIfInBounds_toArray, List.set_cons_zero, List.set_cons_succ]
      refine tk 5 55 (.tuple #[.int .i32 0, .bool false]) BD.out ?y5 ?_
      case y5 =>
        intro w' hw'
        have y0 := HLK.out w' (hw' D.dm (by simp))
        unfold ndV at y0
        go_simp
      try simp only [Act.put, List.setIfInBounds_toArray, List.set_cons_zero, List.set_cons_succ]
      refine tk 6 49 (.tuple #[.int .i32 0, .bool false]) BD.out ?y6 ?_
      case y6 =>
        intro w' hw'
        go_simp
      try simp only [Act.put, List.setIfInBounds_toArray, List.set_cons_zero, List.set_cons_succ]
      refine tk 7 56 (.int .i32 0) BD.out ?y7 ?_
      case y7 =>
        intro w' hw'
        go_simp
      try simp only [Act.put, List.setIfInBounds_toArray, List.set_cons_zero, List.set_cons_succ]
      refine tk 8 57 (.bool false) BD.out ?y8 ?_
      case y8 =>
        intro w' hw'
        go_simp
      try simp only [Act.put, List.setIfInBounds_toArray, List.set_cons_zero, List.set_cons_succ]
      refine tk 9 12 (.int .i32 0) BD.out ?y9 ?_
      case y9 =>
        intro w' hw'
        go_simp
      try simp only [Act.put, List.setIfInBounds_toArray, List.set_cons_zero, List.set_cons_succ]
      refine tk 10 13 (.bool false) BD.out ?y10 ?_
      case y10 =>
        intro w' hw'
        go_simp
      try simp only [Act.put, List.setIfInBounds_toArray, List.set_cons_zero, List.set_cons_succ]
      refine dn ?_
      go_wp2
      have HDa := Lib.hid HD1.out.drew
      have HKa := Lib.hid (HK1.out.trans (keep_drew _ w1 _))
      have HBa := Lib.hid (show B < (World.drew w1).heap.size from HB1.out)
      have HYa := Lib.hid (show (World.drew w1).heap[B]? = _ from HY1.out)
      replace c0 := HDa.out.dr.c0
      replace c1 := HDa.out.dr.c1
      replace c2 := (show (World.drew w1).cell? ⟨D.d, 2, none⟩ = _ from c2)
      replace c3 := HDa.out.dr.c3
      replace c4 := HDa.out.dr.c4
      clear BD
      generalize World.drew w1 = wa at *
      refine wp_region_T (S := fun w' => ∀ k ∈ [D.d], w'.heap[k]? = wa.heap[k]?) (tail := fun _ => false) (by kernel_rfl) ?_
      change wpAnyT _ _ _ _ _ _ _ _ _ (World.drew wa)
      have BD := Lib.hid (show ∀ k ∈ [D.d], (World.drew wa).heap[k]? = wa.heap[k]? from fun _ _ => rfl)
      refine tk 0 60 (.pointer (some ⟨D.d, 0, none⟩)) BD.out ?y0 ?_
      case y0 =>
        intro w' hw'
        go_simp
      try simp only [Act.put, List.setIfInBounds_toArray, List.set_cons_zero, List.set_cons_succ]
      refine tk 1 61 (.pointer (some ⟨D.d, 0, none⟩)) BD.out ?y1 ?_
      case y1 =>
        intro w' hw'
        go_simp
      try simp only [Act.put, List.setIfInBounds_toArray, List.set_cons_zero, List.set_cons_succ]
      refine tk 2 62 (.pointer (some ⟨D.d, 2, none⟩)) BD.out ?y2 ?_
      case y2 =>
        intro w' hw'
        go_simp
      try simp only [Act.put, List.setIfInBounds_toArray, List.set_cons_zero, List.set_cons_succ]
      refine tk 3 63 (.slice A D.ds.length c) BD.out ?y3 ?_
      case y3 =>
        intro w' hw'
        have y0 := (World.cell?_of_block (a := ⟨D.d, 2, none⟩) (hw' _ (by simp))).trans c2
        go_simp
      try simp only [Act.put, List.setIfInBounds_toArray, List.set_cons_zero, List.set_cons_succ]
      refine tk 4 64 (.int .i64 ((D.ds.length : Nat) : Int)) BD.out ?y4 ?_
      case y4 =>
        intro w' hw'
        go_simp
      try simp only [Act.put, List.setIfInBounds_toArray, List.set_cons_zero, List.set_cons_succ]
      refine tk 5 65 (.pointer (some ⟨D.d, 0, none⟩)) BD.out ?y5 ?_
      case y5 =>
        intro w' hw'
        go_simp
      try simp only [Act.put, List.setIfInBounds_toArray, List.set_cons_zero, List.set_cons_succ]
      refine tk 6 66 (.pointer (some ⟨D.d, 0, none⟩)) BD.out ?y6 ?_
      case y6 =>
        intro w' hw'
        go_simp
      try simp only [Act.put, List.setIfInBounds_toArray, List.set_cons_zero, List.set_cons_succ]
      refine tk 7 67 (.pointer (some ⟨D.d, 4, none⟩)) BD.out ?y7 ?_
      case y7 =>
        intro w' hw'
        go_simp
      try simp only [Act.put, List.setIfInBounds_toArray, List.set_cons_zero, List.set_cons_succ]
      refine tk 8 68 (.int .i64 ((D.most : Nat) : Int)) BD.out ?y8 ?_
      case y8 =>
        intro w' hw'
        have y0 := (World.cell?_of_block (a := ⟨D.d, 4, none⟩) (hw' _ (by simp))).trans c4
        go_simp
      try simp only [Act.put, List.setIfInBounds_toArray, List.set_cons_zero, List.set_cons_succ]
      refine tk 9 69 (.bool false) BD.out ?y9 ?_
      case y9 =>
        intro w' hw'
        go_simp
        have := HMO.out; simp; omega
      try simp only [Act.put, List.setIfInBounds_toArray, List.set_cons_zero, List.set_cons_succ]
      refine dn ?_
      have HDb := Lib.hid HDa.out.drew
      have HKb := Lib.hid (HKa.out.trans (keep_drew _ wa _))
      have HBb := Lib.hid (show B < (World.drew wa).heap.size from HBa.out)
      have HYb := Lib.hid (show (World.drew wa).heap[B]? = _ from HYa.out)
      replace c1 := HDb.out.dr.c1
      replace c2 := (show (World.drew wa).cell? ⟨D.d, 2, none⟩ = _ from c2)
      replace c3 := HDb.out.dr.c3
      have HMAPb := Lib.hid (show MapIs 63 (World.drew wa) D.dm f from HMAP.out)
      clear BD c0 c4
      generalize World.drew wa = wb at *
      have HLL := Lib.hid (show g1.ns.length ≤ 16777216 ∧ D.ds.length ≤ 16777216 from by
        have h1 := HDb.out.st.bd
        have h2 := HDb.out.dr.most
        omega)
      obtain ⟨q, hq⟩ : ∃ q, g1.ns.length + D.ds.length = q := ⟨_, rfl⟩
      have HQ := Lib.hid hq
      clear hq
      go_wp2
      refine wp_region_T (S := fun w' => ∀ k ∈ [D.d], w'.heap[k]? = wb.heap[k]?) (tail := fun _ => false) (by kernel_rfl) ?_
      change wpAnyT _ _ _ _ _ _ _ _ _ (World.drew wb)
      have BD := Lib.hid (show ∀ k ∈ [D.d], (World.drew wb).heap[k]? = wb.heap[k]? from fun _ _ => rfl)
      refine tk 0 73 (.pointer (some ⟨D.d, 0, none⟩)) BD.out ?y0 ?_
      case y0 =>
        intro w' hw'
        go_simp
      try simp only [Act.put, List.setIfInBounds_toArray, List.set_cons_zero, List.set_cons_succ]
      refine tk 1 74 (.pointer (some ⟨D.d, 0, none⟩)) BD.out ?y1 ?_
      case y1 =>
        intro w' hw'
        go_simp
      try simp only [Act.put, List.setIfInBounds_toArray, List.set_cons_zero, List.set_cons_succ]
      refine tk 2 75 (.pointer (some ⟨D.d, 1, none⟩)) BD.out ?y2 ?_
      case y2 =>
        intro w' hw'
        go_simp
      try simp only [Act.put, List.setIfInBounds_toArray, List.set_cons_zero, List.set_cons_succ]
      refine tk 3 76 (.int .i32 ((g1.ns.length : Nat) : Int)) BD.out ?y3 ?_
      case y3 =>
        intro w' hw'
        have y0 := (World.cell?_of_block (a := ⟨D.d, 1, none⟩) (hw' _ (by simp))).trans c1
        go_simp
      try simp only [Act.put, List.setIfInBounds_toArray, List.set_cons_zero, List.set_cons_succ]
      refine tk 4 77 (.pointer (some ⟨D.d, 0, none⟩)) BD.out ?y4 ?_
      case y4 =>
        intro w' hw'
        go_simp
      try simp only [Act.put, List.setIfInBounds_toArray, List.set_cons_zero, List.set_cons_succ]
      refine tk 5 78 (.pointer (some ⟨D.d, 0, none⟩)) BD.out ?y5 ?_
      case y5 =>
        intro w' hw'
        go_simp
      try simp only [Act.put, List.setIfInBounds_toArray, List.set_cons_zero, List.set_cons_succ]
      refine tk 6 79 (.pointer (some ⟨D.d, 2, none⟩)) BD.out ?y6 ?_
      case y6 =>
        intro w' hw'
        go_simp
      try simp only [Act.put, List.setIfInBounds_toArray, List.set_cons_zero, List.set_cons_succ]
      refine tk 7 80 (.slice A D.ds.length c) BD.out ?y7 ?_
      case y7 =>
        intro w' hw'
        have y0 := (World.cell?_of_block (a := ⟨D.d, 2, none⟩) (hw' _ (by simp))).trans c2
        go_simp
      try simp only [Act.put, List.setIfInBounds_toArray, List.set_cons_zero, List.set_cons_succ]
      refine tk 8 81 (.int .i64 ((D.ds.length : Nat) : Int)) BD.out ?y8 ?_
      case y8 =>
        intro w' hw'
        go_simp
      try simp only [Act.put, List.setIfInBounds_toArray, List.set_cons_zero, List.set_cons_succ]
      refine tk 9 82 (.int .i32 ((D.ds.length : Nat) : Int)) BD.out ?y9 ?_
      case y9 =>
        intro w' hw'
        go_simp
        exact IntWalk.i32_in _ (by have := HLL.out; omega)
      try simp only [Act.put, List.setIfInBounds_toArray, List.set_cons_zero, List.set_cons_succ]
      refine tk 10 83 (.int .i32 ((q : Nat) : Int)) BD.out ?y10 ?_
      case y10 =>
        intro w' hw'
        go_simp
        have := HQ.out
        exact (IntWalk.i32_in _ (by have := HLL.out; omega)).trans (by omega)
      try simp only [Act.put, List.setIfInBounds_toArray, List.set_cons_zero, List.set_cons_succ]
      refine tk 11 14 (.int .i32 ((q : Nat) : Int)) BD.out ?y11 ?_
      case y11 =>
        intro w' hw'
        go_simp
      try simp only [Act.put, List.setIfInBounds_toArray, List.set_cons_zero, List.set_cons_succ]
      refine dn ?_
      go_wp2
      have HDc := Lib.hid HDb.out.drew
      have HKc := Lib.hid (HKb.out.trans (keep_drew _ wb _))
      have HBc := Lib.hid (show B < (World.drew wb).heap.size from HBb.out)
      have HYc := Lib.hid (show (World.drew wb).heap[B]? = _ from HYb.out)
      replace c2 := (show (World.drew wb).cell? ⟨D.d, 2, none⟩ = _ from c2)
      have HMAPc := Lib.hid (show MapIs 63 (World.drew wb) D.dm f from HMAPb.out)
      clear BD c1 c3
      generalize World.drew wb = wc at *
      refine wp_region_T (S := fun w' => ∀ k ∈ [D.d, B], w'.heap[k]? = wc.heap[k]?) (tail := fun j => decide (10 ≤ j)) (by kernel_rfl) ?_
      change wpAnyT _ _ _ _ _ _ _ _ _ (World.drew wc)
      have BD := Lib.hid (show ∀ k ∈ [D.d, B], (World.drew wc).heap[k]? = wc.heap[k]? from fun _ _ => rfl)
      have HDe := Lib.hid HDc.out.drew
      have HKe := Lib.hid (HKc.out.trans (keep_drew _ wc _))
      have HBe := Lib.hid (show B < (World.drew wc).heap.size from HBc.out)
      have HMAPe := Lib.hid (show MapIs 63 (World.drew wc) D.dm f from HMAPc.out)
      have HWE := Lib.hid (show (World.drew wc).heap.size = wc.heap.size from rfl)
      generalize World.drew wc = we at *
      refine tk 0 84 (.pointer (some ⟨D.d, 0, none⟩)) BD.out ?y0 ?_
      case y0 =>
        intro w' hw'
        go_simp
      try simp only [Act.put, List.setIfInBounds_toArray, List.set_cons_zero, List.set_cons_succ]
      refine tk 1 85 (.pointer (some ⟨D.d, 0, none⟩)) BD.out ?y1 ?_
      case y1 =>
        intro w' hw'
        go_simp
      try simp only [Act.put, List.setIfInBounds_toArray, List.set_cons_zero, List.set_cons_succ]
      refine tk 2 86 (.pointer (some ⟨D.d, 0, none⟩)) BD.out ?y2 ?_
      case y2 =>
        intro w' hw'
        go_simp
      try simp only [Act.put, List.setIfInBounds_toArray, List.set_cons_zero, List.set_cons_succ]
      refine tk 3 87 (.pointer (some ⟨D.d, 2, none⟩)) BD.out ?y3 ?_
      case y3 =>
        intro w' hw'
        go_simp
      try simp only [Act.put, List.setIfInBounds_toArray, List.set_cons_zero, List.set_cons_succ]
      refine tk 4 88 (.slice A D.ds.length c) BD.out ?y4 ?_
      case y4 =>
        intro w' hw'
        have y0 := (World.cell?_of_block (a := ⟨D.d, 2, none⟩) (hw' _ (by simp))).trans c2
        go_simp
      try simp only [Act.put, List.setIfInBounds_toArray, List.set_cons_zero, List.set_cons_succ]
      refine tk 5 89 (.agg #[.int .i32 (n.v : Int), .int .i32 (n.a : Int), .int .i32 (n.b : Int)]) BD.out ?y5 ?_
      case y5 =>
        intro w' hw'
        obtain ⟨z0, z1, z2⟩ := box_cells ((hw' B (by simp)).trans HYc.out)
        go_simp
      try simp only [Act.put, List.setIfInBounds_toArray, List.set_cons_zero, List.set_cons_succ]
      refine on 6 (fun K hK => ?_)
      go_simp
      have BA := Lib.hid (show ∀ k ∈ [D.d, B], (we.alloc (.cells #[.int .i32 (n.v : Int), .int .i32 (n.a : Int), .int .i32 (n.b : Int)] 63)).heap[k]? = wc.heap[k]? from fun k hk => (heap_alloc_old (by
        have h1 := HDe.out.dr.ltd
        have h2 := HBe.out
        simp at hk
        rcases hk with rfl | rfl <;> assumption)).trans (BD.out k hk))
      refine hK.out _ _ (fun _ => BA.out) ?_
      clear hK K
      try simp only [Act.put, List.setIfInBounds_toArray, List.set_cons_zero, List.set_cons_succ]
      have HA := Lib.hid (HDe.out.alloc (.cells #[.int .i32 (n.v : Int), .int .i32 (n.a : Int), .int .i32 (n.b : Int)] 63))
      have HKA := Lib.hid (HKe.out.trans (keep_alloc _ we _ (.cells #[.int .i32 (n.v : Int), .int .i32 (n.a : Int), .int .i32 (n.b : Int)] 63)))
      refine on 7 (fun K hK => ?_)
      refine wp_append_lies (we.alloc (.cells #[.int .i32 (n.v : Int), .int .i32 (n.a : Int), .int .i32 (n.b : Int)] 63)) (.tmp 88) (.tmp 90) 64 rfl 0 63 i0 (.agg #[.int .i32 0, .int .i32 0, .int .i32 0]) 3 12 Try.underlying64 hi hz0 hz1 hz2 rfl (by decide) D.val D.ds.length (cellsN D.ds) (HV.out.symm) HA.out.dr.row ⟨we.heap.size, 0, none⟩ 1 1 [.int .i32 (n.v : Int), .int .i32 (n.a : Int), .int .i32 (n.b : Int)] rfl rfl (World.news_of_block (cs := #[.int .i32 (n.v : Int), .int .i32 (n.a : Int), .int .i32 (n.b : Int)]) (t := 63) (fr := (0, 0)) (MapKept.heap_alloc we _).1) (by simp [Value.oneCell']) (by decide) (by unfold maxLen; have := HLL.out; omega) (by have := HLL.out; omega) (Nat.zero_le _) _ rfl ?_
      intro gg cap w5 hown5 hgrow5 hloc5 hlt5
      have HGR := Lib.hid (show _ ∧ _ ∧ _ ∧ _ from ⟨hown5, hgrow5, lies63 hloc5 (Nat.le_refl _), hlt5⟩)
      have B2 := Lib.hid (show ∀ k ∈ [D.d, B], w5.heap[k]? = wc.heap[k]? from fun k hk => (hgrow5.block k (by
        have h1 := HDe.out.dr.ltd
        have h2 := HBe.out
        simp at hk ⊢
        rcases hk with rfl | rfl <;> omega) (fun e => by
        have h1 := HA.out.dr.orow k e.symm
        have h2 := HO1.out
        have h3 := HA.out.dr.od
        simp at hk
        rcases hk with rfl | rfl <;> omega)).trans (BA.out k hk))
      have fr2 : w5.frozen? ⟨D.d, 2, none⟩ = false := (World.frozen?_of_block (a := ⟨D.d, 2, none⟩) (B2.out D.d (by simp))).trans (HDc.out.dr.frz 2)
      have cc2 := (World.cell?_of_block (a := ⟨D.d, 2, none⟩) (B2.out D.d (by simp))).trans c2
      clear hown5 hgrow5 hloc5 hlt5
      refine hK.out _ _ (fun _ => B2.out) ?_
      clear hK K
      try simp only [Act.put, List.setIfInBounds_toArray, List.set_cons_zero, List.set_cons_succ]
      refine tk 8 92 (.pointer (some ⟨D.d, 0, none⟩)) B2.out ?y8 ?_
      case y8 =>
        intro w' hw'
        go_simp
      try simp only [Act.put, List.setIfInBounds_toArray, List.set_cons_zero, List.set_cons_succ]
      refine tk 9 93 (.pointer (some ⟨D.d, 2, none⟩)) B2.out ?y9 ?_
      case y9 =>
        intro w' hw'
        go_simp
      try simp only [Act.put, List.setIfInBounds_toArray, List.set_cons_zero, List.set_cons_succ]
      refine on 10 (fun K hK => ?_)
      go_simp
      refine hK.out _ _ (fun h => absurd h (by decide)) ?_
      clear hK K
      try simp only [Act.put, List.setIfInBounds_toArray, List.set_cons_zero, List.set_cons_succ]
      refine dn ?_
      obtain ⟨hr1, hr2, hr3, hr4⟩ := HGR.out
      obtain ⟨-, -, hk3, -⟩ := HA.out.dr.grow (n := n) HA.out.st hr1 hr2 hr3 hr4
      obtain ⟨w6, hw6⟩ : ∃ w6, w5.setCell ⟨D.d, 2, none⟩ (.slice (some ⟨gg, 0, none⟩) (D.ds.length + 1) cap) = w6 := ⟨_, rfl⟩
      have HW6 := Lib.hid hw6
      rw [hw6] at hk3 ⊢
      have HY6 := Lib.hid (show w6.heap[B]? = _ from (by
        rw [← hw6, Below.heap_setCell _ _ _ _ (by
          have h1 := HO1.out
          have h3 := HA.out.dr.od
          intro e
          simp only at e
          rw [e] at h1
          omega)]
        exact B2.out B (by simp) : w6.heap[B]? = wc.heap[B]?).trans HYc.out)
      have d3 : w6.cell? ⟨D.d, 3, none⟩ = some (.map (some D.dm)) := by
        rw [← hw6, World.cell?_setCell_other _ _ _ _ (by simp)]
        exact (World.cell?_of_block (a := ⟨D.d, 3, none⟩) (B2.out D.d (by simp))).trans HDc.out.dr.c3
      have HM6 := Lib.hid (show MapIs 63 w6 D.dm f from HMAPe.out.move ((hk3.blk D.dm (by have := HMAPe.out.lt; simp; omega) (by have := HA.out.dr.om; rw [this]; rfl)).trans (heap_alloc_old HMAPe.out.lt)))
      have HK6 := Lib.hid hk3
      clear hr1 hr2 hr3 hr4 hk3 hw6 BD BA B2 cc2 fr2 c2
      go_wp2
      refine wp_region_T (S := fun w' => ∀ k ∈ [D.d, B], w'.heap[k]? = w6.heap[k]?) (tail := fun j => decide (6 ≤ j)) (by kernel_rfl) ?_
      change wpAnyT _ _ _ _ _ _ _ _ _ (World.drew w6)
      have BD := Lib.hid (show ∀ k ∈ [D.d, B], (World.drew w6).heap[k]? = w6.heap[k]? from fun _ _ => rfl)
      refine tk 0 94 (.pointer (some ⟨D.d, 0, none⟩)) BD.out ?y0 ?_
      case y0 =>
        intro w' hw'
        go_simp
      try simp only [Act.put, List.setIfInBounds_toArray, List.set_cons_zero, List.set_cons_succ]
      refine tk 1 95 (.pointer (some ⟨D.d, 0, none⟩)) BD.out ?y1 ?_
      case y1 =>
        intro w' hw'
        go_simp
      try simp only [Act.put, List.setIfInBounds_toArray, List.set_cons_zero, List.set_cons_succ]
      refine tk 2 96 (.pointer (some ⟨D.d, 3, none⟩)) BD.out ?y2 ?_
      case y2 =>
        intro w' hw'
        go_simp
      try simp only [Act.put, List.setIfInBounds_toArray, List.set_cons_zero, List.set_cons_succ]
      refine tk 3 97 (.map (some D.dm)) BD.out ?y3 ?_
      case y3 =>
        intro w' hw'
        have y0 := (World.cell?_of_block (a := ⟨D.d, 3, none⟩) (hw' _ (by simp))).trans d3
        go_simp
      try simp only [Act.put, List.setIfInBounds_toArray, List.set_cons_zero, List.set_cons_succ]
      refine tk 4 98 (.agg #[.int .i32 (n.v : Int), .int .i32 (n.a : Int), .int .i32 (n.b : Int)]) BD.out ?y4 ?_
      case y4 =>
        intro w' hw'
        obtain ⟨z0, z1, z2⟩ := box_cells ((hw' B (by simp)).trans HY6.out)
        go_simp
      try simp only [Act.put, List.setIfInBounds_toArray, List.set_cons_zero, List.set_cons_succ]
      refine tk 5 99 (.int .i32 ((q : Nat) : Int)) BD.out ?y5 ?_
      case y5 =>
        intro w' hw'
        go_simp
      try simp only [Act.put, List.setIfInBounds_toArray, List.set_cons_zero, List.set_cons_succ]
      obtain ⟨w7, hrun, hm7, ht7⟩ := (show MapIs 63 (World.drew w6) D.dm f from HM6.out).store K63 Try.underlying77 HISK.out (.int .i32 ((q : Nat) : Int))
      unfold ndV at hrun
      obtain ⟨hr1, hr2, hr3, hr4⟩ := HGR.out
      have ht6 : (w5.setCell ⟨D.d, 2, none⟩ (.slice (some ⟨gg, 0, none⟩) (D.ds.length + 1) cap)).grownBy w7 (some D.dm) := by
        rw [HW6.out]
        exact grown_trans (grown_any (grown_drewN w6 1)) ht7.grown
      have hlen : (g1.ns ++ D.ds).length = q := List.length_append.trans HQ.out
      have hm7' : MapIs 63 w7 D.dm (updV f (ndV n) (i32 (g1.ns ++ D.ds).length)) := by rw [hlen]; exact hm7
      obtain ⟨hdF, hkF⟩ := HA.out.push (n := n) hr1 hr2 hr3 hr4 (by
        rw [← List.append_assoc]
        obtain ⟨hv0, ha0, hb0⟩ := HIN.out.ok HFULL.out HAB.out
        have e0 : lst g D = g1.ns ++ D.ds := by unfold lst; rw [HE1.out.ns]
        have hV : g1.V = g.V := HE1.out.V
        rw [e0] at ha0 hb0
        have h1 := HIN.out.a
        have h2 := HIN.out.b
        rw [e0] at h1 h2
        exact HDc.out.dr.wf.push (by rw [hV]; exact hv0) h1 h2 HAB.out ha0 hb0 (fun i hi => by
          by_cases hlo : i < g1.ns.length
          · rw [List.getElem?_append_left hlo]
            exact HNF.out i hi
          · exact HNF2.out i (by omega))) (by have := HMO.out; omega) hm7' ht6 (by
        rw [← List.append_assoc]
        exact HNUM.out.push n (by simp) (fun i hi => HNF2.out i hi)) HFULL.out
      have HR := Lib.hid (show NodePost w o g D n (.returned (.int .i32 ((q : Nat) : Int))) w7 from ⟨q, _, g1, _, rfl, hdF, HKA.out.trans hkF, HE1.out.trans ⟨rfl, rfl, rfl, rfl, Nat.le_refl _, rfl, rfl, ⟨[n], rfl⟩, id⟩, by
        unfold lst
        have := HQ.out
        simp only [List.length_append, List.length_singleton]
        omega, by simp, Nat.le_of_eq HW1.out, fun _ => HW1.out, .inr (.inr ⟨HAB.out, by have := HDc.out.st.wf.two; have := HQ.out; omega, by
        show (g1.ns ++ (D.ds ++ [n]))[q]? = some n
        rw [← List.append_assoc, ← hlen]
        simp⟩)⟩)
      clear hr1 hr2 hr3 hr4 hm7 hm7' ht6 ht7 hdF hkF hlen
      refine on 6 (fun K hK => ?_)
      go_simp
      refine hK.out _ _ (fun h => absurd h (by decide)) ?_
      clear hK K
      try simp only [Act.put, List.setIfInBounds_toArray, List.set_cons_zero, List.set_cons_succ]
      refine dn ?_
      go_wp2
      go_ret
      exact HR.out
set_option maxHeartbeats 8000000 in
set_option maxRecDepth 100000 in
theorem node_same (h : DS w o g D) {n : Nd} (hin : NodeIn g D n) (hab : n.a = n.b) : Calls Try.prog 52 #[.pointer (some ⟨D.d, 0, none⟩), .int .i32 (n.v : Int), .int .i32 (n.a : Int), .int .i32 (n.b : Int)] w (NodePost w o g D n) := by
  have HR := Lib.hid (show NodePost w o g D n (.returned (.int .i32 (n.a : Int))) w from ⟨n.a, o, g, D, rfl, h, Keep.refl _ _ _, Ext.refl _ _, hin.a, Nat.le_succ _, Nat.le_succ _, fun e => absurd hab e, .inr (.inl ⟨hab, rfl⟩)⟩)
  have q1 : (((n.a : Nat) : Int) == ((n.b : Nat) : Int)) = true := by simp; omega
  clear h hin hab
  go_enter Try.func52, Try.ntmps52
  go_wp2
  go_ret
  exact HR.out
theorem node_any (h : DS w o g D) {n : Nd} (hin : NodeIn g D n) : Calls Try.prog 52 #[.pointer (some ⟨D.d, 0, none⟩), .int .i32 (n.v : Int), .int .i32 (n.a : Int), .int .i32 (n.b : Int)] w (NodePost w o g D n) := by
  by_cases hab : n.a = n.b
  · exact node_same h hin hab
  · by_cases hmx : max n.a n.b < g.ns.length
    · exact node_old h hin hab hmx
    · exact node_new h hin hab hmx
end

end Go.Proofs.Ytailpphafoamfaa
