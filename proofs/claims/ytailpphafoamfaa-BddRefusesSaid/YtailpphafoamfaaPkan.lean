/- Renaming: what joins a node. Renaming: what does it. Rename. The laws: a number that fits. The reference: whether two rows are the same. Tables of what is true, way by way: the mathematics. Which nodes a small store has: the mathematics of the chapter's example. -/
import Derived.Test.YtailpphafoamfaaPkam
set_option linter.all false
namespace Go.Proofs.Ytailpphafoamfaa
open Go Go.RowKit Go.Maps


/-- What the closure that renames has caught. -/
structure JRn (V : Nat) (E : Env) (bc b2 bq : Nat) (vv : Value) (l : List Int) (w : World) (o : Nat → Nat) (g : SG) (D : DG) : Prop where
  V : g.V = V
  at_ : ∃ mp, CombAt w o D.d E mp ∧ (D.full = true ∨ DoneOk iteB (lst g D) mp)
  cq : w.cell? ⟨bq, 0, none⟩ = some vv
  cc : w.cell? ⟨bc, 0, none⟩ = some (combV E)
  c2 : w.cell? ⟨b2, 0, none⟩ = some (.pointer (some ⟨D.d, 0, none⟩))
  nums : NumsO w o vv l
  oq : o bq = 0
  oc : o bc = 0
  o2 : o b2 = 0
theorem small32 {t : Nat} (h : t < 256) : wrap32 (t : Int) = (t : Int) ∧ IntKind.i32.wrap (t : Int) = (t : Int) := ⟨wrap32_id (by omega), IntWalk.i32_in _ (by omega)⟩
def toL (l : List Int) (v : Nat) : Nat := (l.getD v 0).toNat
section
variable {V : Nat} {E : Env} {bq bc b2 : Nat} {vv : Value} {l : List Int} {w w' : World} {o o' : Nat → Nat} {g g' : SG} {D D' : DG}
theorem JRn.keeps {T : Nat → Bool} (h : JRn V E bc b2 bq vv l w o g D) (k : Keep T w o w' o') (t0 : T 0 = false) (t7 : T 7 = false) : JRn V E bc b2 bq vv l w' o' g D := by
  obtain ⟨mp, h1, h2⟩ := h.at_
  exact ⟨h.V, ⟨mp, h1.keep k t0 t7, h2⟩, (k.box h.cq h.oq t0).1, (k.box h.cc h.oc t0).1, (k.box h.c2 h.o2 t0).1, h.nums.keep k t0, (k.box h.cq h.oq t0).2, (k.box h.cc h.oc t0).2, (k.box h.c2 h.o2 t0).2⟩
theorem JRn.after (h : JRn V E bc b2 bq vv l w o g D) (k : Keep Tc w o w' o') (e : Ext g D g' D') (ha : ∃ mp, CombAt w' o' D.d E mp ∧ (D'.full = true ∨ DoneOk iteB (lst g' D') mp)) : JRn V E bc b2 bq vv l w' o' g' D' := by
  obtain ⟨mp, h1, h2⟩ := ha
  exact ⟨e.V.trans h.V, ⟨mp, by rw [e.d]; exact h1, h2⟩, (k.box h.cq h.oq rfl).1, (k.box h.cc h.oc rfl).1, by rw [e.d]; exact (k.box h.c2 h.o2 rfl).1, h.nums.keep k rfl, (k.box h.cq h.oq rfl).2, (k.box h.cc h.oc rfl).2, (k.box h.c2 h.o2 rfl).2⟩
set_option maxHeartbeats 8000000 in
set_option maxRecDepth 100000 in
theorem renamed1_call (hfv : E.fv = CHO) (hlen : l.length = V) (hall : allB V l = true) (hs : DS w o g D) (hj : JRn V E bc b2 bq vv l w o g D) {j : Nat} {n : Nd} {x y : Nat} (h2 : 2 ≤ j) (hn : (lst g D)[j]? = some n) (hx : x < (lst g D).length) (hy : y < (lst g D).length) (hR : D.full = true ∨ (RN (toL l) (lst g D) n.a x ∧ RN (toL l) (lst g D) n.b y)) :
    Calls Try.prog 66 #[.int .i32 (n.v : Int), .int .i32 (x : Int), .int .i32 (y : Int), .pointer (some ⟨bc, 0, none⟩), .pointer (some ⟨b2, 0, none⟩), .pointer (some ⟨bq, 0, none⟩)] w (JoinPost (JRn V E bc b2 bq vv l) (RN (toL l)) (2 ^ V) w o g D j) := by
  have hnd := hs.wf.nd j n h2 hn
  have hbd := hs.st.bd
  have hV := hj.V
  have hvl : n.v < l.length := by omega
  obtain ⟨A, cap, rfl, hcell⟩ := hj.nums
  obtain ⟨bl, off, rfl, hbl, hob, hcl⟩ := hcell (by intro e; rw [e] at hvl; simp at hvl)
  obtain ⟨z, hz⟩ : ∃ z, l[n.v]? = some z := ⟨_, List.getElem?_eq_getElem hvl⟩
  have hzb := allB_at hall hz
  obtain ⟨tv, rfl⟩ : ∃ tv : Nat, z = (tv : Int) := ⟨z.toNat, by omega⟩
  have kz := hcl _ _ hz
  have htv : toL l n.v = tv := by simp [toL, List.getD_eq_getElem?_getD, hz]
  have cq := hj.cq
  have cc := hj.cc
  have c2 := hj.c2
  have HS := Lib.hid hs
  have HJ := Lib.hid hj
  have HN := Lib.hid hn
  have HND := Lib.hid hnd
  have HXY := Lib.hid (show x < (lst g D).length ∧ y < (lst g D).length ∧ 2 ≤ j ∧ tv < g.V from ⟨hx, hy, h2, by omega⟩)
  have HRR := Lib.hid hR
  have HF := Lib.hid hfv
  have HTV := Lib.hid htv
  have HLT := Lib.hid (show bc < w.heap.size ∧ b2 < w.heap.size ∧ bq < w.heap.size ∧ bl < w.heap.size from ⟨lt_cell cc, lt_cell c2, lt_cell cq, hbl⟩)
  have HOO := Lib.hid (show o bc = 0 ∧ o b2 = 0 ∧ o bq = 0 ∧ o bl = 0 from ⟨hj.oc, hj.o2, hj.oq, hob⟩)
  have hb8 : tv < 256 := by omega
  obtain ⟨qw, qw2⟩ := small32 hb8
  have q1 : (n.v : Int) < (l.length : Int) := by omega
  have q0 : (0 : Int) ≤ (n.v : Int) := by omega
  have hVV := pow_pos' V
  unfold combV at cc
  clear hs hj hn hnd hx hy hR hfv h2 hbd hcell hcl hz hzb hob hbl hlen hall htv hvl hV hb8
  go_enter Try.func66, Try.ntmps66
  go_wp2
  refine wp_region_T (S := fun w' => ∀ k ∈ [bc, b2, bq, bl], w'.heap[k]? = w.heap[k]?) (tail := fun j => decide (10 ≤ j)) (by kernel_rfl) ?_
  change wpAnyT _ _ _ _ _ _ _ _ _ (World.drew w)
  have BD := Lib.hid (show ∀ k ∈ [bc, b2, bq, bl], (World.drew w).heap[k]? = w.heap[k]? from fun _ _ => rfl)
  refine tk 0 10 (.func (.func 69) #[] #[.pointer (some ⟨E.b2, 0, none⟩), .pointer (some ⟨E.b3, 0, none⟩), .pointer (some ⟨E.b5, 0, none⟩), .pointer (some ⟨E.b6, 0, none⟩)]) BD.out ?y0 ?_
  case y0 =>
    intro w' hw'
    have y0 := (World.cell?_of_block (a := ⟨bc, 0, none⟩) (hw' _ (by simp))).trans cc
    go_simp
  try simp only [Act.put, List.setIfInBounds_toArray, List.set_cons_zero, List.set_cons_succ]
  refine tk 1 11 (.pointer (some ⟨D.d, 0, none⟩)) BD.out ?y1 ?_
  case y1 =>
    intro w' hw'
    have y0 := (World.cell?_of_block (a := ⟨b2, 0, none⟩) (hw' _ (by simp))).trans c2
    go_simp
  try simp only [Act.put, List.setIfInBounds_toArray, List.set_cons_zero, List.set_cons_succ]
  refine tk 2 12 (.slice (some ⟨bl, off, none⟩) l.length cap) BD.out ?y2 ?_
  case y2 =>
    intro w' hw'
    have y0 := (World.cell?_of_block (a := ⟨bq, 0, none⟩) (hw' _ (by simp))).trans cq
    go_simp
  try simp only [Act.put, List.setIfInBounds_toArray, List.set_cons_zero, List.set_cons_succ]
  refine tk 3 13 (.int .i32 (n.v : Int)) BD.out ?y3 ?_
  case y3 =>
    intro w' hw'
    go_simp
  try simp only [Act.put, List.setIfInBounds_toArray, List.set_cons_zero, List.set_cons_succ]
  refine tk 4 14 (.pointer (some ⟨bl, off + n.v, none⟩)) BD.out ?y4 ?_
  case y4 =>
    intro w' hw'
    go_simp
  try simp only [Act.put, List.setIfInBounds_toArray, List.set_cons_zero, List.set_cons_succ]
  refine tk 5 15 (.int .i64 (tv : Int)) BD.out ?y5 ?_
  case y5 =>
    intro w' hw'
    have z0 := (World.cell?_of_block (a := ⟨bl, off + n.v, none⟩) (hw' bl (by simp))).trans kz
    go_simp
  try simp only [Act.put, List.setIfInBounds_toArray, List.set_cons_zero, List.set_cons_succ]
  refine tk 6 16 (.int .i32 (tv : Int)) BD.out ?y6 ?_
  case y6 =>
    intro w' hw'
    go_simp
  try simp only [Act.put, List.setIfInBounds_toArray, List.set_cons_zero, List.set_cons_succ]
  refine tk 8 18 (.int .i32 (y : Int)) BD.out ?y8 ?_
  case y8 =>
    intro w' hw'
    go_simp
  try simp only [Act.put, List.setIfInBounds_toArray, List.set_cons_zero, List.set_cons_succ]
  refine tk 9 19 (.int .i32 (x : Int)) BD.out ?y9 ?_
  case y9 =>
    intro w' hw'
    go_simp
  try simp only [Act.put, List.setIfInBounds_toArray, List.set_cons_zero, List.set_cons_succ]
  refine on 7 (fun K hK => ?_)
  go_simp
  refine (node_any (n := ⟨tv, 0, 1⟩) HS.out.drew ⟨by have := HS.out.wf.two; show 0 < _; omega, by have := HS.out.wf.two; show 1 < _; omega, by have h1 := HXY.out.2.2.2; have h2 := HS.out.st.bd; show tv < _; omega, fun _ _ => ⟨HXY.out.2.2.2, by rw [HS.out.wf.ask0]; exact HXY.out.2.2.2, by rw [HS.out.wf.ask1]; exact HXY.out.2.2.2⟩⟩).mono ?_
  rintro e w4 ⟨q, o4, g4, D4, rfl, hout⟩
  have HO := Lib.hid hout
  have HKd := Lib.hid (show Keep Td w o w4 o4 from (keep_drew _ w o).trans hout.keep)
  have HK4 := Lib.hid (show Keep Tc w o w4 o4 from HKd.out.more td_tc)
  obtain ⟨mp, hca, hdn⟩ := HJ.out.at_
  have hca4 := hca.keep HKd.out rfl rfl
  have hdn4 : D4.full = true ∨ DoneOk iteB (lst g4 D4) mp := by
    cases hfu : D4.full with
    | true => exact .inl rfl
    | false => exact .inr (hout.ext.edone HS.out hout.ds (hdn.resolve_left (by rw [full_false hout.ext hfu]; simp)))
  have HJ4 := Lib.hid (HJ.out.after HK4.out hout.ext ⟨mp, hca4, hdn4⟩)
  have HCA := Lib.hid (show CombAt w4 o4 D4.d E mp ∧ (D4.full = true ∨ DoneOk iteB (lst g4 D4) mp) from ⟨by rw [hout.ext.d]; exact hca4, hdn4⟩)
  refine hK.out _ _ (fun _ k hk2 => (HK4.out.blk k (by
    have hL := HLT.out
    rcases (by simpa using hk2 : k = bc ∨ k = b2 ∨ k = bq ∨ k = bl) with rfl | rfl | rfl | rfl
    · exact hL.1
    · exact hL.2.1
    · exact hL.2.2.1
    · exact hL.2.2.2) (by
    have hL := HOO.out
    rcases (by simpa using hk2 : k = bc ∨ k = b2 ∨ k = bq ∨ k = bl) with rfl | rfl | rfl | rfl
    · rw [hL.1]; rfl
    · rw [hL.2.1]; rfl
    · rw [hL.2.2.1]; rfl
    · rw [hL.2.2.2]; rfl))) ?_
  clear hK K hout hca hdn hca4 hdn4
  try simp only [Act.put, List.setIfInBounds_toArray, List.set_cons_zero, List.set_cons_succ]
  refine on 10 (fun K hK => ?_)
  go_simp
  refine (combC_any chosen_settles g4.V w4 o4 g4 D4 E mp q y x HO.out.ds HCA.out.1 (by rw [HF.out]; exact set_chosen) HCA.out.2 HO.out.lt (Nat.lt_of_lt_of_le HXY.out.2.1 HO.out.ext.len_le) (Nat.lt_of_lt_of_le HXY.out.1 HO.out.ext.len_le) (by omega)).mono ?_
  rintro e w5 ⟨r, o5, g5, D5, mp5, rfl, hc⟩
  have hJ5 := HJ4.out.after hc.keep hc.ext ⟨mp5, by have := hc.at_; exact this, hc.mp⟩
  have HR := Lib.hid (show JoinPost (JRn V E bc b2 bq (.slice (some ⟨bl, off, none⟩) l.length cap) l) (RN (toL l)) (2 ^ V) w o g D j (.returned (.int .i32 (r : Int))) w5 from ⟨r, o5, g5, D5, rfl, hc.ds, hJ5, HK4.out.trans hc.keep, HO.out.ext.trans hc.ext, hc.lt, (by
    cases hfu : D5.full with
    | true => exact .inl rfl
    | false =>
      right
      have hf4 := full_false hc.ext hfu
      have hD := full_false HO.out.ext hf4
      obtain ⟨ra, rb⟩ := HRR.out.resolve_left (by rw [hD]; simp)
      obtain ⟨K4, hK4, hw1, hw2⟩ := HO.out.ext.emore HS.out HO.out.ds
      obtain ⟨K5, hK5, hw3, hw4⟩ := hc.ext.emore HO.out.ds hc.ds
      have ci := hc.is.resolve_left (by rw [hfu]; simp)
      have qi := HO.out.is.resolve_left (by rintro ⟨-, h2⟩; rw [hf4] at h2; cases h2)
      have hjl := (List.getElem?_eq_some_iff.1 HN.out).1
      have hle := HO.out.ext.len_le
      have hxy := HXY.out
      have hla := Nat.lt_trans HND.out.2.1 hjl
      have hlb := Nat.lt_trans HND.out.2.2.1 hjl
      have qi5 : NodeIs (lst g5 D5) ⟨toL l n.v, 0, 1⟩ q := by
        rw [HTV.out]
        rcases qi with ⟨e1, -⟩ | ⟨e1, e2, e3⟩
        · cases e1
        · exact .inr ⟨e1, e2, by rw [hK5, List.getElem?_append_left (List.getElem?_eq_some_iff.1 e3).1]; exact e3⟩
      have hn5 : (lst g5 D5)[j]? = some n := by
        rw [hK5, List.getElem?_append_left (Nat.lt_of_lt_of_le hjl hle), hK4, List.getElem?_append_left hjl]
        exact HN.out
      have ra4 : RN (toL l) (lst g4 D4) n.a x := by rw [hK4]; exact ra.mono hw1 hw2 hla hxy.1
      have rb4 : RN (toL l) (lst g4 D4) n.b y := by rw [hK4]; exact rb.mono hw1 hw2 hlb hxy.2.1
      have ra5 : RN (toL l) (lst g5 D5) n.a x := by rw [hK5]; exact ra4.mono hw3 hw4 (Nat.lt_of_lt_of_le hla hle) (Nat.lt_of_lt_of_le hxy.1 hle)
      have rb5 : RN (toL l) (lst g5 D5) n.b y := by rw [hK5]; exact rb4.mono hw3 hw4 (Nat.lt_of_lt_of_le hlb hle) (Nat.lt_of_lt_of_le hxy.2.1 hle)
      exact RN.node hc.ds.wf hxy.2.2.1 hn5 ra5 rb5 qi5 ci), by
    have h1 := hc.len
    have h2 := HO.out.len
    have h3 := pow_le_V g4.V (m3 (lst g4 D4) q y x)
    have h4 := HJ.out.V
    have h5 : g4.V = g.V := HO.out.ext.V
    rw [← h4, ← h5]; omega, by
    have h1 := hc.W
    have h2 := HO.out.W1
    have h3 := pow_le_V g4.V (m3 (lst g4 D4) q y x)
    have h4 := HJ.out.V
    have h5 : g4.V = g.V := HO.out.ext.V
    rw [← h4, ← h5]; omega⟩)
  refine hK.out _ _ (fun h => absurd h (by decide)) ?_
  clear hK K hc hJ5
  try simp only [Act.put, List.setIfInBounds_toArray, List.set_cons_zero, List.set_cons_succ]
  refine tkM 11 9 (.int .i32 (r : Int)) ?y11 ?_
  case y11 =>
    intro w'
    go_simp
  try simp only [Act.put, List.setIfInBounds_toArray, List.set_cons_zero, List.set_cons_succ]
  refine dn ?_
  go_wp2
  go_ret
  exact HR.out
theorem renamed1_join (hfv : E.fv = CHO) (hlen : l.length = V) (hall : allB V l = true) : JoinS 66 (.pointer (some ⟨bc, 0, none⟩)) (.pointer (some ⟨b2, 0, none⟩)) (.pointer (some ⟨bq, 0, none⟩)) (JRn V E bc b2 bq vv l) (RN (toL l)) (2 ^ V) where
  enters := enters_of Try.func66 (by kernel_rfl) rfl
  keeps := fun h k t0 t7 => h.keeps k t0 t7
  call := fun w o g D j n x y hs hj h2 hn hx hy hR => renamed1_call hfv hlen hall hs hj h2 hn hx hy hR
  mono := fun hw hw' hj hr h => h.mono hw hw' hj hr
  r0 := fun _ => RN.zero
  r1 := fun _ => RN.one
end

end Go.Proofs.Ytailpphafoamfaa
namespace Go.Proofs.Ytailpphafoamfaa
open Go Go.RowKit Go.Maps


section
variable {w w' : World} {o o' : Nat → Nat} {g g' : SG} {D D' : DG} {l : List Int}
def RenamedPost (w : World) (o : Nat → Nat) (g : SG) (D : DG) (vv : Value) (l : List Int) (e : Ending) (w' : World) : Prop :=
  ∃ (R : REnv) (E : Env) (bc b2 bq : Nat) (o' : Nat → Nat), e = .returned (rebV R) ∧ R.jv = .func (.func 66) #[] #[.pointer (some ⟨bc, 0, none⟩), .pointer (some ⟨b2, 0, none⟩), .pointer (some ⟨bq, 0, none⟩)] ∧ DS w' o' g D ∧ RebAt w' o' D.d R mp01 ∧ JRn g.V E bc b2 bq vv l w' o' g D ∧ E.fv = CHO ∧ Keep (fun _ => false) w o w' o'
set_option maxHeartbeats 8000000 in
set_option maxRecDepth 100000 in
theorem renamed_any (hs : DS w o g D) {vv : Value} (hv : NumsO w o vv l) : Calls Try.prog 51 #[.pointer (some ⟨D.d, 0, none⟩), vv] w (RenamedPost w o g D vv l) := by
  have hmf : ∀ (fn : Fn) (first cap : Array Value) (w : World), (Instr.makeFunc fn first cap).run Try.prog w = .ok (.func fn first cap) w := fun _ _ _ _ => rfl
  have HNM := Lib.hid hv
  obtain ⟨A, c, rfl, -⟩ := hv
  obtain ⟨wr, hwr⟩ : ∃ wr, (w.alloc (.cells #[.pointer (some ⟨D.d, 0, none⟩)] 94)).alloc (.cells #[.slice A l.length c] 28) = wr := ⟨_, rfl⟩
  have hgr : w.grownBy wr none := by rw [← hwr]; exact grown_trans (grown_alloc _ _) (grown_alloc _ _)
  have hz : wr.heap.size = w.heap.size + 2 := by rw [← hwr]; simp
  have hc2 : wr.cell? ⟨w.heap.size, 0, none⟩ = some (.pointer (some ⟨D.d, 0, none⟩)) := by
    have e : wr.heap[w.heap.size]? = some (.cells #[.pointer (some ⟨D.d, 0, none⟩)] 94 (0, 0)) := by
      rw [← hwr, heap_alloc_old (by simp)]
      exact (MapKept.heap_alloc w _).1
    exact (cell_of e).trans rfl
  have hcq : wr.cell? ⟨w.heap.size + 1, 0, none⟩ = some (.slice A l.length c) := by
    have := (MapKept.heap_alloc (w.alloc (.cells #[.pointer (some ⟨D.d, 0, none⟩)] 94)) (.cells #[.slice A l.length c] 28)).1
    have e : (w.alloc (.cells #[.pointer (some ⟨D.d, 0, none⟩)] 94)).heap.size = w.heap.size + 1 := by simp
    rw [e, hwr] at this
    exact (cell_of this).trans rfl
  have HS := Lib.hid hs
  have HG := Lib.hid hgr
  have HSR := Lib.hid (hs.grown hgr)
  have HCB := Lib.hid (combiner_any HSR.out CHO set_chosen)
  have HZ := Lib.hid hz
  have HC2 := Lib.hid hc2
  have HCQ := Lib.hid hcq
  rw [← hwr] at HCB
  have HWR := Lib.hid hwr
  clear hs hwr hgr hz hc2 hcq
  unfold CHO at HCB
  go_enter Try.func51, Try.ntmps51
  go_wp2_with fail
  refine (HCB.out).mono ?_
  rintro e w3 ⟨E, o3, rfl, hfv, hs3, hc3, hk3⟩
  rw [HWR.out] at hk3
  unfold combV
  obtain ⟨b2, hb2⟩ : ∃ b2, w.heap.size = b2 := ⟨_, rfl⟩
  obtain ⟨bq, hbq⟩ : ∃ bq, b2 + 1 = bq := ⟨_, rfl⟩
  rw [hb2] at HZ HC2 HCQ ⊢
  rw [hbq] at HCQ ⊢
  have hwz := HZ.out
  have HO := Lib.hid (show o3 b2 = 0 ∧ o3 bq = 0 from ⟨(hk3.own b2 (by omega)).trans (HS.out.st.new b2 (by omega)), (hk3.own bq (by omega)).trans (HS.out.st.new bq (by omega))⟩)
  have HFV := Lib.hid hfv
  have c2' : w3.cell? ⟨b2, 0, none⟩ = some (.pointer (some ⟨D.d, 0, none⟩)) := (World.cell?_of_block (a := ⟨b2, 0, none⟩) (hk3.blk _ (by show b2 < _; omega) rfl)).trans HC2.out
  have cq' : w3.cell? ⟨bq, 0, none⟩ = some (.slice A l.length c) := (World.cell?_of_block (a := ⟨bq, 0, none⟩) (hk3.blk _ (by show bq < _; omega) rfl)).trans HCQ.out
  obtain ⟨w4, hw4⟩ : ∃ w4, w3.alloc (.cells #[combV E] 100) = w4 := ⟨_, rfl⟩
  have hg4 : w3.grownBy w4 none := by rw [← hw4]; exact grown_alloc _ _
  have hcc : w4.cell? ⟨w3.heap.size, 0, none⟩ = some (combV E) := by rw [← hw4]; simp
  have HK4 := Lib.hid (show Keep (fun _ => false) w o w4 o3 from (keep_none _ o HG.out).trans (hk3.trans (keep_none _ o3 hg4)))
  have HJ4 := Lib.hid (show JRn g.V E w3.heap.size b2 bq (.slice A l.length c) l w4 o3 g D from ⟨rfl, ⟨_, hc3.keep (keep_none (fun _ => false) o3 hg4) rfl rfl, .inr (done_none _ _)⟩,
    (World.cell?_of_block (a := ⟨bq, 0, none⟩) (grown_far hg4 (lt_cell cq'))).trans cq', hcc, (World.cell?_of_block (a := ⟨b2, 0, none⟩) (grown_far hg4 (lt_cell c2'))).trans c2', HNM.out.keep HK4.out rfl, HO.out.2, hs3.st.new _ (Nat.le_refl _), HO.out.1⟩)
  have HS4 := Lib.hid (hs3.grown hg4)
  have lb2 : b2 < w3.heap.size := lt_cell c2'
  have HRB := Lib.hid (rebuilder_any HS4.out 66 (.pointer (some ⟨w3.heap.size, 0, none⟩)) (.pointer (some ⟨b2, 0, none⟩)) (.pointer (some ⟨bq, 0, none⟩)))
  have hz1 : ((w3.alloc (.cells #[.nilFunc] 100)).cell? ⟨w3.heap.size, 0, none⟩) = some .nilFunc := by simp
  have hz2 : ((w3.alloc (.cells #[.nilFunc] 100)).frozen? ⟨w3.heap.size, 0, none⟩) = false := frz_of (MapKept.heap_alloc w3 _).1
  clear hfv hs3 hc3 hk3 cq' hg4 hcc hwz
  go_wp2_with fail
  change Calls _ _ _ (w3.alloc (.cells #[combV E] 100)) _
  rw [hw4]
  clear hw4
  refine (HRB.out).mono ?_
  rintro e w5 ⟨R, o5, rfl, hjv, hs5, ha5, hk5⟩
  have HR := Lib.hid (show RenamedPost w o g D (.slice A l.length c) l (.returned (rebV R)) w5 from ⟨R, E, w3.heap.size, b2, bq, o5, rfl, hjv, hs5, ha5, HJ4.out.keeps hk5 rfl rfl, HFV.out, HK4.out.trans hk5⟩)
  unfold rebV at HR
  unfold rebV
  clear hjv hs5 ha5 hk5
  go_wp2
  go_ret
  exact HR.out
end

end Go.Proofs.Ytailpphafoamfaa
namespace Go.Proofs.Ytailpphafoamfaa
open Go Go.RowKit Go.Maps


section
variable {w w' : World} {o o' : Nat → Nat} {g g' : SG} {D D' : DG} {l : List Int}
/-- What a renaming must be. -/
def RenOk (g : SG) (f : Nat) (l : List Int) : Prop := l.length = g.V ∧ allB g.V l = true ∧ ApartIs g.ns (vis g.ns [] f) l
def RenamePost (w : World) (o : Nat → Nat) (g : SG) (f : Int) (l : List Int) (e : Ending) (w' : World) : Prop :=
  (okB g.ns.length f = false → bad92 w e w') ∧ (okB g.ns.length f = true → ¬ RenOk g f.toNat l → e = .returned (.tuple #[.int .i64 0, .int .i64 91]) ∧ ∃ o', StoreAt w' o' g ∧ Keep T0 w o w' o') ∧
    (okB g.ns.length f = true → RenOk g f.toNat l → OpPost w o g (fun m => ev g.ns f.toNat (fun x => m (toL l x))) (2 ^ g.V * 2 ^ (g.V - ask g.ns f.toNat) - 2 ^ g.V) 0 e w')
set_option maxHeartbeats 8000000 in
set_option maxRecDepth 100000 in
theorem rename_bad92 (h : StoreAt w o g) (f : Int) (hv : okB g.ns.length f = false) {vv : Value} (hl : NumsO w o vv l) : Calls Try.prog 29 #[.pointer (some ⟨g.s, 0, none⟩), .int .i64 f, vv] w (RenamePost w o g f l) := by
  have HV := Lib.hid (hasNodes_any (h.alloc (.cells #[.int .i64 f] 3)) (nums_one w f) (by simp))
  have e0 : allB g.ns.length [f] = false := by simp [allB, hv]
  rw [e0] at HV
  have HE := Lib.hid (show RenamePost w o g f l (.returned (.tuple #[.int .i64 0, .int .i64 92])) (w.alloc (.cells #[.int .i64 f] 3)) from ⟨fun _ => ⟨rfl, grown_alloc _ _⟩, fun h1 => (by rw [hv] at h1; cases h1), fun h1 => (by rw [hv] at h1; cases h1)⟩)
  have hnot : ∀ (x : Bool) (w : World), (Op.unary .not (.bool x)).run Try.prog w = .ok (.bool (!x)) w := fun _ _ => rfl
  obtain ⟨A, c, rfl, -⟩ := hl
  clear h hv e0
  go_enter Try.func29, Try.ntmps29
  go_wp2_with fail
  refine (HV.out).mono ?_
  rintro e w1 ⟨rfl, rfl⟩
  go_wp2
  go_ret2
  exact HE.out
set_option maxHeartbeats 8000000 in
set_option maxRecDepth 100000 in
theorem rename_good (h : StoreAt w o g) (f : Nat) (hf : f < g.ns.length) {vv : Value} (hl : NumsO w o vv l) (hll : l.length ≤ 1000000) : Calls Try.prog 29 #[.pointer (some ⟨g.s, 0, none⟩), .int .i64 (f : Int), vv] w (RenamePost w o g (f : Int) l) := by
  have HV := Lib.hid (hasNodes_any (h.alloc (.cells #[.int .i64 (f : Int)] 3)) (nums_one w (f : Int)) (by simp))
  have e1 := okB_of hf
  have e0 : allB g.ns.length [(f : Int)] = true := by simp [allB, e1]
  rw [e0] at HV
  have HA := Lib.hid (h.alloc (.cells #[.int .i64 (f : Int)] 3))
  have HKA := Lib.hid (keep_alloc T0 w o (.cells #[.int .i64 (f : Int)] 3))
  have hl1 := hl.keep (keep_alloc (fun _ => false) w o (.cells #[.int .i64 (f : Int)] 3)) rfl
  have HQ := Lib.hid (hasVars_any (h.alloc (.cells #[.int .i64 (f : Int)] 3)) hl1.nums hll)
  have HNL := Lib.hid hl1
  have HE := Lib.hid e1
  have s0 := HA.out.cell0
  have hbd := h.bd
  have qw : wrap32 (f : Int) = (f : Int) := wrap32_id (by omega)
  have HH := Lib.hid h
  have HF := Lib.hid hf
  have hnot : ∀ (x : Bool) (w : World), (Op.unary .not (.bool x)).run Try.prog w = .ok (.bool (!x)) w := fun _ _ => rfl
  have HBAD := Lib.hid (fun (w' : World) (o' : Nat → Nat) (h1 : StoreAt w' o' g) (h2 : Keep T0 w o w' o') (h3 : ¬ RenOk g f l) => show RenamePost w o g (f : Int) l (.returned (.tuple #[.int .i64 0, .int .i64 91])) w' from ⟨fun h4 => (by rw [e1] at h4; cases h4), fun _ _ => ⟨rfl, o', h1, h2⟩, fun _ h4 => absurd h4 h3⟩)
  obtain ⟨A, c, rfl, -⟩ := hl
  by_cases hlen : l.length = g.V
  · have qn : (((l.length : Nat) : Int) != ((g.V : Nat) : Int)) = false := by simp; omega
    have HLEN := Lib.hid hlen
    cases hall : allB g.V l with
    | false =>
      rw [hall] at HQ
      have HR := Lib.hid (HBAD.out _ o HA.out HKA.out (fun h => by have := h.2.1; rw [hall] at this; cases this))
      clear h e1 e0 hll hbd hf hl1 hlen hall
      go_enter Try.func29, Try.ntmps29
      go_wp2_with fail
      refine (HV.out).mono ?_
      rintro e w1 ⟨rfl, hw1⟩
      rw [hw1] at HQ HR s0
      clear hw1
      go_wp2_with fail
      refine (HQ.out).mono ?_
      rintro e w2 ⟨rfl, rfl⟩
      go_wp2
      go_ret2
      exact HR.out
    | true =>
      rw [hall] at HQ
      have HALL := Lib.hid hall
      have HAP := Lib.hid (apart_any HA.out f HF.out HNL.out hlen hall)
      clear h e1 e0 hll hbd hf hl1 hlen hall
      go_enter Try.func29, Try.ntmps29
      go_wp2_with fail
      refine (HV.out).mono ?_
      rintro e w1 ⟨rfl, hw1⟩
      rw [hw1] at HQ HAP s0 HKA HNL
      clear hw1
      go_wp2_with fail
      refine (HQ.out).mono ?_
      rintro e w2 ⟨rfl, hw2⟩
      rw [hw2] at HAP HKA HNL
      clear hw2 s0
      go_wp2_with fail
      refine (HAP.out).mono ?_
      rintro e w3 ⟨b, rfl, hb, o3, hs3, hk3⟩
      cases b with
      | false =>
        have HR := Lib.hid (HBAD.out w3 o3 hs3 (HKA.out.trans hk3) (fun h => by have := hb.2 h.2.2; cases this))
        clear hb hs3 hk3
        go_wp2
        go_ret2
        exact HR.out
      | true =>
        have HOK := Lib.hid (show RenOk g f l from ⟨HLEN.out, HALL.out, hb.1 rfl⟩)
        have HK3 := Lib.hid (show Keep T0 w o w3 o3 from HKA.out.trans hk3)
        have HDR := Lib.hid (draft_any hs3)
        have HN3 := Lib.hid (HNL.out.keep hk3 rfl)
        clear hb hs3 hk3
        go_wp2_with fail
        refine (HDR.out).mono ?_
        rintro e w4 ⟨d, dm, o4, rfl, hst, hdr, hk⟩
        have HS2 := Lib.hid (show DS w4 o4 g _ from ⟨hst, hdr⟩)
        have HK2 := Lib.hid (show Keep T0 w o w4 o4 from HK3.out.trans (hk.more (t0_of rfl)))
        have HN2 := Lib.hid (HN3.out.keep hk rfl)
        clear hst hdr hk
        have HWT := Lib.hid (renamed_any HS2.out HN2.out)
        go_wp2_with fail
        refine (HWT.out).mono ?_
        rintro e w5 ⟨R, E, bc, b2, bq, o5, rfl, hjv, hs5, ha5, hj5, hfv, hk5⟩
        have HK5 := Lib.hid hk5
        have HJS := Lib.hid (renamed1_join (V := g.V) (bq := bq) (bc := bc) (b2 := b2) (vv := .slice A l.length c) hfv HLEN.out HALL.out)
        have HRB := Lib.hid (reb_any HJS.out f w5 o5 g _ R mp01 hs5 hj5 ha5 hjv (rdone_start HJS.out hs5.wf _) (by unfold lst; simp; exact HF.out))
        clear hjv hs5 ha5 hj5 hfv hk5
        unfold rebV
        go_wp2_with fail
        refine (HRB.out).mono ?_
        rintro e w6 ⟨r, o6, g6, D6, mp6, rfl, hout⟩
        have HO := Lib.hid hout
        have hkp := keep_any hout.ds hout.lt
        rw [hout.ext.d] at hkp
        have HKP := Lib.hid hkp
        clear hout hkp
        go_wp2_with fail
        refine (HKP.out).mono ?_
        intro e w7 hp
        have hop := op_reb (F := fun m => ev g.ns f (fun x => m (toL l x))) HK2.out HS2.out ⟨rfl, Nat.le_max_left _ _⟩ HK5.out HF.out HO.out (fun L K hw hL hR m => by
          rw [hR m, hL]
          exact ev_app HH.out.wf (by rw [← hL]; exact hw) _ f HF.out) hp
        have HFIN := Lib.hid (show RenamePost w o g (f : Int) l e w7 from ⟨fun h4 => (by have := HE.out; rw [this] at h4; cases h4), fun _ h4 => absurd HOK.out h4, fun _ _ => hop⟩)
        clear hop
        rcases hp with ⟨rfl, -⟩ | ⟨r', o', g', rfl, -⟩
        · go_wp2
          go_ret2
          exact HFIN.out
        · go_wp2
          go_ret2
          exact HFIN.out
  · have qn : (((l.length : Nat) : Int) != ((g.V : Nat) : Int)) = true := by simp; omega
    have HR := Lib.hid (HBAD.out _ o HA.out HKA.out (fun h => hlen h.1))
    clear h e1 e0 hll hbd hf hl1 hlen
    go_enter Try.func29, Try.ntmps29
    go_wp2_with fail
    refine (HV.out).mono ?_
    rintro e w1 ⟨rfl, hw1⟩
    rw [hw1] at HR s0
    clear hw1
    go_wp2
    go_ret2
    exact HR.out
theorem rename_any (h : StoreAt w o g) (f : Int) {vv : Value} (hl : NumsO w o vv l) (hll : l.length ≤ 1000000) : Calls Try.prog 29 #[.pointer (some ⟨g.s, 0, none⟩), .int .i64 f, vv] w (RenamePost w o g f l) := by
  cases hv : okB g.ns.length f with
  | false => exact rename_bad92 h f hv hl
  | true =>
    obtain ⟨k, rfl, hk⟩ := okB_nat hv
    exact rename_good h k hk hl hll
end

end Go.Proofs.Ytailpphafoamfaa
namespace Go.Proofs.Ytailpphafoamfaa
open Go Go.RowKit Go.Maps


theorem tmod_bounds (x n : Int) (hn : 0 < n) : -n < x.tmod n ∧ x.tmod n < n := by
  have h1 := Int.tmod_lt_of_pos x hn
  have h2 := Int.tmod_lt_of_pos (-x) hn
  rw [Int.neg_tmod] at h2
  omega
theorem tmod_emod (x n : Int) : x % n = x.tmod n % n := by
  have h := Int.mul_tdiv_add_tmod x n
  have h2 : x.tmod n % n = (x.tmod n + n * x.tdiv n) % n := by rw [Int.add_mul_emod_self_left]
  rw [h2, Int.add_comm, h]
theorem fit_eq (x n : Int) (hn : 0 < n) : x % n = if x.tmod n < 0 then x.tmod n + n else x.tmod n := by
  obtain ⟨h1, h2⟩ := tmod_bounds x n hn
  rw [tmod_emod]
  split
  · have : x.tmod n % n = (x.tmod n + n) % n := by simp
    rw [this, Int.emod_eq_of_lt (by omega) (by omega)]
  · rw [Int.emod_eq_of_lt (by omega) (by omega)]
set_option maxHeartbeats 8000000 in
set_option maxRecDepth 100000 in
theorem fit_any (w : World) (x n : Int) (hn : 0 < n ∧ n ≤ 1000000) : Calls Try.prog 42 #[.int .i64 x, .int .i64 n] w fun e w' => e = .returned (.int .i64 (x % n)) ∧ w = w' := by
  have hfe := fit_eq x n hn.1
  obtain ⟨hb1, hb2⟩ := tmod_bounds x n hn.1
  have hn0 : n ≠ 0 := by omega
  obtain ⟨h1, h2⟩ := hn
  rw [hfe]
  by_cases hneg : x.tmod n < 0
  · rw [if_pos hneg]
    obtain ⟨t, ht⟩ : ∃ t, x.tmod n = t := ⟨_, rfl⟩
    rw [ht] at hneg hb1 hb2 ⊢
    clear hfe
    go_enter Try.func42, Try.ntmps42
    go_wp2
    go_ret
    exact ⟨rfl, rfl⟩
  · rw [if_neg hneg]
    obtain ⟨t, ht⟩ : ∃ t, x.tmod n = t := ⟨_, rfl⟩
    rw [ht] at hneg hb1 hb2 ⊢
    clear hfe
    go_enter Try.func42, Try.ntmps42
    go_wp2
    go_ret
    exact ⟨rfl, rfl⟩

end Go.Proofs.Ytailpphafoamfaa
namespace Go.Proofs.Ytailpphafoamfaa
open Go Go.RowKit Go.Maps


section
variable {w : World} {va vb : Value} {la lb : List Bool}
theorem take_next {l : List Bool} {k : Nat} {x : Bool} (hx : l[k]? = some x) : l.take (k + 1) = l.take k ++ [x] := by
  obtain ⟨h1, h2⟩ := List.getElem?_eq_some_iff.1 hx
  rw [List.take_succ_eq_append_getElem h1, h2]
set_option maxHeartbeats 8000000 in
set_option maxRecDepth 100000 in
theorem same_any (ha : Bools w va la) (hb : Bools w vb lb) (hl : la.length ≤ 1000000 ∧ lb.length ≤ 1000000) : Calls Try.prog 15 #[va, vb] w fun e w' => e = .returned (.bool (decide (la = lb))) ∧ w.grownBy w' none := by
  have HA := Lib.hid ha
  have HB := Lib.hid hb
  obtain ⟨A, ca, rfl, -⟩ := ha
  obtain ⟨B, cb, rfl, -⟩ := hb
  have HL := Lib.hid hl
  by_cases hlen : la.length = lb.length
  · have HLEN := Lib.hid hlen
    have qn : (((la.length : Nat) : Int) != ((lb.length : Nat) : Int)) = false := by simp; omega
    obtain ⟨n, hn⟩ : ∃ n, la.length = n := ⟨_, rfl⟩
    obtain ⟨n2, hn2⟩ : ∃ n2, lb.length = n2 := ⟨_, rfl⟩
    rw [hn, hn2] at qn ⊢
    have HN := Lib.hid (show la.length = n ∧ lb.length = n2 ∧ n = n2 from ⟨hn, hn2, by omega⟩)
    have hnb : n ≤ 1000000 := by omega
    clear hlen hl hn hn2
    go_enter Try.func15, Try.ntmps15
    go_wp2
    go_loopw [5] (fun v wr => ∃ k : Nat, v = .int .i64 (k : Int) ∧ k ≤ n ∧ Hid (la.take k = lb.take k ∧ w.grownBy wr none)) (fun v _ => n - (intOf v).toNat)
    case atStart => exact ⟨0, rfl, Nat.zero_le _, Lib.hid ⟨rfl, World.grownBy.refl _ _⟩⟩
    case round =>
      obtain ⟨k, rfl, hk, hI⟩ := hrel
      have HI := hI
      by_cases hlt : k < n
      · obtain ⟨A', ca', hA', hca⟩ := HA.out.grown HI.out.2
        rw [HN.out.1] at hA'
        simp at hA'
        obtain ⟨rfl, rfl⟩ := hA'
        obtain ⟨B', cb', hB', hcb⟩ := HB.out.grown HI.out.2
        rw [HN.out.2.1] at hB'
        simp at hB'
        obtain ⟨rfl, rfl⟩ := hB'
        have hka : k < la.length := by have := HN.out; omega
        have hkb : k < lb.length := by have := HN.out; omega
        obtain ⟨ba, oa, rfl, hba, hcla⟩ := hca (by intro e; rw [e] at hka; simp at hka)
        obtain ⟨bb, ob, rfl, hbb, hclb⟩ := hcb (by intro e; rw [e] at hkb; simp at hkb)
        obtain ⟨x, hx⟩ : ∃ x, la[k]? = some x := ⟨_, List.getElem?_eq_getElem hka⟩
        obtain ⟨y, hy⟩ : ∃ y, lb[k]? = some y := ⟨_, List.getElem?_eq_getElem hkb⟩
        have kx := hcla _ _ hx
        have ky := hclb _ _ hy
        have HXY := Lib.hid (show la[k]? = some x ∧ lb[k]? = some y ∧ k < n from ⟨hx, hy, hlt⟩)
        have q1 : (k : Int) < (n : Int) := by omega
        have q2 : (k : Int) < (n2 : Int) := by have := HN.out; omega
        have HD := Lib.hid (grown_trans HI.out.2 (grown_drewN wr 1))
        obtain ⟨d, hd⟩ : ∃ d, (x != y) = d := ⟨_, rfl⟩
        have HDD := Lib.hid hd
        clear hcla hclb hx hy hka hkb hca hcb hI hd
        go_wp2
        refine wp_region_T (S := fun w' => ∀ k ∈ [ba, bb], w'.heap[k]? = wr.heap[k]?) (tail := fun _ => false) (by kernel_rfl) ?_
        change wpAnyT _ _ _ _ _ _ _ _ _ (World.drew wr)
        have BD := Lib.hid (show ∀ k ∈ [ba, bb], (World.drew wr).heap[k]? = wr.heap[k]? from fun _ _ => rfl)
        refine tk 0 17 (.slice (some ⟨ba, oa, none⟩) n ca) BD.out ?y0 ?_
        case y0 =>
          intro w' hw'
          go_simp
        try simp only [Act.put, List.setIfInBounds_toArray, List.set_cons_zero, List.set_cons_succ]
        refine tk 1 18 (.int .i64 (k : Int)) BD.out ?y1 ?_
        case y1 =>
          intro w' hw'
          go_simp
        try simp only [Act.put, List.setIfInBounds_toArray, List.set_cons_zero, List.set_cons_succ]
        refine tk 2 19 (.pointer (some ⟨ba, oa + k, none⟩)) BD.out ?y2 ?_
        case y2 =>
          intro w' hw'
          go_simp
        try simp only [Act.put, List.setIfInBounds_toArray, List.set_cons_zero, List.set_cons_succ]
        refine tk 3 20 (.bool x) BD.out ?y3 ?_
        case y3 =>
          intro w' hw'
          have z0 := (World.cell?_of_block (a := ⟨ba, oa + k, none⟩) (hw' ba (by simp))).trans kx
          go_simp
        try simp only [Act.put, List.setIfInBounds_toArray, List.set_cons_zero, List.set_cons_succ]
        refine tk 4 21 (.slice (some ⟨bb, ob, none⟩) n2 cb) BD.out ?y4 ?_
        case y4 =>
          intro w' hw'
          go_simp
        try simp only [Act.put, List.setIfInBounds_toArray, List.set_cons_zero, List.set_cons_succ]
        refine tk 5 22 (.int .i64 (k : Int)) BD.out ?y5 ?_
        case y5 =>
          intro w' hw'
          go_simp
        try simp only [Act.put, List.setIfInBounds_toArray, List.set_cons_zero, List.set_cons_succ]
        refine tk 6 23 (.pointer (some ⟨bb, ob + k, none⟩)) BD.out ?y6 ?_
        case y6 =>
          intro w' hw'
          go_simp
        try simp only [Act.put, List.setIfInBounds_toArray, List.set_cons_zero, List.set_cons_succ]
        refine tk 7 24 (.bool y) BD.out ?y7 ?_
        case y7 =>
          intro w' hw'
          have z0 := (World.cell?_of_block (a := ⟨bb, ob + k, none⟩) (hw' bb (by simp))).trans ky
          go_simp
        try simp only [Act.put, List.setIfInBounds_toArray, List.set_cons_zero, List.set_cons_succ]
        refine tk 8 25 (.bool d) BD.out ?y8 ?_
        case y8 =>
          intro w' hw'
          go_simp
          rw [← HDD.out]
          try (cases x <;> cases y <;> rfl)
        try simp only [Act.put, List.setIfInBounds_toArray, List.set_cons_zero, List.set_cons_succ]
        refine dn ?_
        cases d with
        | true =>
          have hne : decide (la = lb) = false := by
            simp
            intro e
            have h1 := HXY.out.1
            rw [e, HXY.out.2.1] at h1
            have h2 := HDD.out
            simp at h1 h2
            exact h2 h1.symm
          have HNE := Lib.hid hne
          clear hne
          go_wp2
          go_ret
          refine ⟨?_, HD.out⟩
          rw [HNE.out]
          rfl
        | false =>
          have hxy : x = y := by have h2 := HDD.out; simpa using h2
          have HT := Lib.hid (show la.take (k + 1) = lb.take (k + 1) from by rw [take_next HXY.out.1, take_next HXY.out.2.1, HI.out.1, hxy])
          go_wp2
          refine ⟨⟨k + 1, by simp, HXY.out.2.2, Lib.hid ⟨HT.out, HD.out⟩⟩, ?_⟩
          have := HXY.out.2.2
          simp only [intOf]
          omega
      · have e1 : k = n := by omega
        subst e1
        have he : decide (la = lb) = true := by
          simp
          have h1 := HI.out.1
          rw [List.take_of_length_le (by have := HN.out; omega), List.take_of_length_le (by have := HN.out; omega)] at h1
          exact h1
        have HE := Lib.hid he
        clear he
        go_wp2
        go_ret
        refine ⟨?_, HI.out.2⟩
        rw [HE.out]
        rfl
  · have qn : (((la.length : Nat) : Int) != ((lb.length : Nat) : Int)) = true := by simp; omega
    have hne : decide (la = lb) = false := by simp; intro e; exact hlen (by rw [e])
    rw [hne]
    clear HA HB hl HL
    go_enter Try.func15, Try.ntmps15
    go_wp2
    go_ret
    exact ⟨rfl, World.grownBy.refl _ _⟩
end

end Go.Proofs.Ytailpphafoamfaa
namespace Go.Proofs.Ytailpphafoamfaa

/-- The way number i of n variables. -/
def way (n i v : Nat) : Bool := i.testBit (n - 1 - v)
def wayL (n i : Nat) : List Bool := (List.range n).map (way n i)
def atS (a : Nat) (b : Bool) : Nat := 2 * a + b.toNat
/-- The number of a way. -/
def atL (l : List Bool) : Nat := l.foldl atS 0
def Hangs (n : Nat) (F : (Nat → Bool) → Bool) : Prop := ∀ m m', (∀ x, x < n → m x = m' x) → F m = F m'
/-- What is true, way by way. -/
def tabF (n : Nat) (F : (Nat → Bool) → Bool) : List Bool := (List.range (2 ^ n)).map fun i => F (way n i)
theorem fold_bounds : ∀ (l : List Bool) (a : Nat), a * 2 ^ l.length ≤ l.foldl atS a ∧ l.foldl atS a < (a + 1) * 2 ^ l.length
  | [], a => by simp
  | b :: l, a => by
    have h := fold_bounds l (atS a b)
    have h1 : a * 2 ^ (b :: l).length = (2 * a) * 2 ^ l.length := by rw [List.length_cons, Nat.pow_succ, Nat.mul_comm 2 a, Nat.mul_assoc, Nat.mul_comm 2]
    have h2 : (a + 1) * 2 ^ (b :: l).length = (2 * a + 2) * 2 ^ l.length := by
      rw [List.length_cons, Nat.pow_succ, show 2 * a + 2 = (a + 1) * 2 from by omega, Nat.mul_assoc, Nat.mul_comm 2]
    have h3 : 2 * a * 2 ^ l.length ≤ atS a b * 2 ^ l.length := Nat.mul_le_mul_right _ (by unfold atS; omega)
    have h4 : (atS a b + 1) * 2 ^ l.length ≤ (2 * a + 2) * 2 ^ l.length := Nat.mul_le_mul_right _ (by unfold atS; cases b <;> simp)
    show _ ≤ l.foldl atS (atS a b) ∧ l.foldl atS (atS a b) < _
    rw [h1, h2]
    omega
theorem atL_lt (l : List Bool) : atL l < 2 ^ l.length := by
  have := (fold_bounds l 0).2
  simpa [atL] using this
theorem fold_div (l : List Bool) (a : Nat) : l.foldl atS a / 2 ^ l.length = a := by
  obtain ⟨h1, h2⟩ := fold_bounds l a
  have hp : 0 < 2 ^ l.length := Nat.two_pow_pos _
  exact Nat.le_antisymm (Nat.le_of_lt_succ ((Nat.div_lt_iff_lt_mul hp).2 h2)) ((Nat.le_div_iff_mul_le hp).2 h1)
theorem fold_bit : ∀ (l : List Bool) (a v : Nat), v < l.length → (l.foldl atS a).testBit (l.length - 1 - v) = l.getD v false
  | b :: l, a, 0, _ => by
    show (l.foldl atS (atS a b)).testBit (l.length + 1 - 1 - 0) = b
    rw [Nat.testBit_eq_decide_div_mod_eq, show l.length + 1 - 1 - 0 = l.length from by omega, fold_div]
    unfold atS
    cases b <;> simp <;> omega
  | b :: l, a, v + 1, h => by
    have := fold_bit l (atS a b) v (by simpa using h)
    show (l.foldl atS (atS a b)).testBit (l.length + 1 - 1 - (v + 1)) = l.getD v false
    rw [← this]
    congr 1
    omega
theorem way_at {n : Nat} {l : List Bool} (hl : l.length = n) {v : Nat} (hv : v < n) : way n (atL l) v = l.getD v false := by
  subst hl
  exact fold_bit l 0 v hv
theorem wayL_len (n i : Nat) : (wayL n i).length = n := by simp [wayL]
theorem wayL_get {n i v : Nat} (hv : v < n) : (wayL n i).getD v false = way n i v := by
  simp [wayL, List.getD_eq_getElem?_getD, hv]
theorem way_inj {n i j : Nat} (hi : i < 2 ^ n) (hj : j < 2 ^ n) (h : ∀ v, v < n → way n i v = way n j v) : i = j := by
  apply Nat.eq_of_testBit_eq
  intro k
  by_cases hk : k < n
  · have := h (n - 1 - k) (by omega)
    unfold way at this
    rw [show n - 1 - (n - 1 - k) = k from by omega] at this
    exact this
  · have hp : 2 ^ n ≤ 2 ^ k := Nat.pow_le_pow_right (by decide) (by omega)
    rw [Nat.testBit_lt_two_pow (Nat.lt_of_lt_of_le hi hp), Nat.testBit_lt_two_pow (Nat.lt_of_lt_of_le hj hp)]
theorem at_way {n i : Nat} (hi : i < 2 ^ n) : atL (wayL n i) = i := by
  have h1 := atL_lt (wayL n i)
  rw [wayL_len] at h1
  refine way_inj h1 hi fun v hv => ?_
  rw [way_at (wayL_len n i) hv, wayL_get hv]
theorem tab_len (n : Nat) (F : (Nat → Bool) → Bool) : (tabF n F).length = 2 ^ n := by simp [tabF]
theorem tab_get {n i : Nat} (F : (Nat → Bool) → Bool) (hi : i < 2 ^ n) : (tabF n F)[i]? = some (F (way n i)) := by
  simp [tabF, hi]
theorem tab_getD {n i : Nat} (F : (Nat → Bool) → Bool) (hi : i < 2 ^ n) : (tabF n F).getD i false = F (way n i) := by
  rw [List.getD_eq_getElem?_getD, tab_get F hi]; rfl
/-- A way's number: the entry there is what is true of it. -/
def noOf (n : Nat) (m : Nat → Bool) : Nat := atL ((List.range n).map m)
theorem noOf_lt (n : Nat) (m : Nat → Bool) : noOf n m < 2 ^ n := by
  have := atL_lt ((List.range n).map m)
  rw [List.length_map, List.length_range] at this
  exact this
theorem way_noOf {n : Nat} (m : Nat → Bool) {v : Nat} (hv : v < n) : way n (noOf n m) v = m v := by
  unfold noOf
  rw [way_at (by simp) hv]
  simp [List.getD_eq_getElem?_getD, hv]
theorem tab_noOf {n : Nat} {F : (Nat → Bool) → Bool} (h : Hangs n F) (m : Nat → Bool) : F (way n (noOf n m)) = F m := h _ _ fun _ hx => way_noOf m hx
theorem tab_inj {n : Nat} {F G : (Nat → Bool) → Bool} (hF : Hangs n F) (hG : Hangs n G) (h : tabF n F = tabF n G) (m : Nat → Bool) : F m = G m := by
  have hl := noOf_lt n m
  have h1 := tab_get F hl
  rw [h, tab_get G hl] at h1
  simp only [Option.some.injEq] at h1
  rw [tab_noOf hF, tab_noOf hG] at h1
  exact h1.symm
theorem tab_congr {n : Nat} {F G : (Nat → Bool) → Bool} (h : ∀ i, i < 2 ^ n → F (way n i) = G (way n i)) : tabF n F = tabF n G := by
  unfold tabF
  exact List.map_congr_left fun i hi => h i (by simpa using hi)
theorem tab_hang {n : Nat} {F G : (Nat → Bool) → Bool} (h : ∀ m, F m = G m) : tabF n F = tabF n G := tab_congr fun _ _ => h _
/-- The same way with one variable the other way. -/
def flipI (n i v : Nat) : Nat := i ^^^ 2 ^ (n - 1 - v)
def flipM (m : Nat → Bool) (v : Nat) : Nat → Bool := setM m v (!m v)
theorem flip_lt {n i v : Nat} (hi : i < 2 ^ n) (hv : v < n) : flipI n i v < 2 ^ n := Nat.xor_lt_two_pow hi (Nat.pow_lt_pow_right (by decide) (by omega))
theorem way_flip {n i v x : Nat} (hv : v < n) (hx : x < n) : way n (flipI n i v) x = flipM (way n i) v x := by
  unfold flipM
  by_cases e : x = v
  · subst e
    rw [setM_same]
    simp [way, flipI, Nat.testBit_xor, Nat.testBit_two_pow]
  · rw [setM_other _ _ e]
    have h2 : ¬ n - 1 - v = n - 1 - x := by omega
    simp [way, flipI, Nat.testBit_xor, Nat.testBit_two_pow, h2]
theorem flip_at {n : Nat} {F : (Nat → Bool) → Bool} (h : Hangs n F) {i v : Nat} (hv : v < n) : F (way n (flipI n i v)) = F (flipM (way n i) v) := h _ _ fun _ hx => way_flip hv hx
theorem flipM_flipM (m : Nat → Bool) (v : Nat) : flipM (flipM m v) v = m := by
  funext x
  by_cases e : x = v
  · subst e; simp [flipM, setM]
  · simp [flipM, setM, e]
theorem Hangs.flip {n : Nat} {F : (Nat → Bool) → Bool} (h : Hangs n F) (v : Nat) : Hangs n fun m => F (flipM m v) := fun m m' hm => h _ _ fun x hx => by
  by_cases e : x = v
  · subst e; simp [flipM, setM, hm x hx]
  · simp [flipM, setM, e, hm x hx]
/-- Does a table ask a variable? -/
def asksT (t : List Bool) (n v : Nat) : Bool := (List.range t.length).any fun i => t.getD i false != t.getD (flipI n i v) false
def Asks (F : (Nat → Bool) → Bool) (v : Nat) : Prop := ∃ m, F m ≠ F (flipM m v)
theorem asks_iff {n v : Nat} {F : (Nat → Bool) → Bool} (h : Hangs n F) (hv : v < n) : asksT (tabF n F) n v = true ↔ Asks F v := by
  unfold asksT
  rw [List.any_eq_true]
  constructor
  · rintro ⟨i, hi, hx⟩
    rw [tab_len] at hi
    have hi' : i < 2 ^ n := by simpa using hi
    rw [tab_getD F hi', tab_getD F (flip_lt hi' hv), flip_at h hv] at hx
    exact ⟨way n i, by simpa using hx⟩
  · rintro ⟨m, hm⟩
    have hl := noOf_lt n m
    refine ⟨noOf n m, by rw [tab_len]; simpa using hl, ?_⟩
    rw [tab_getD F hl, tab_getD F (flip_lt hl hv), flip_at h hv, tab_noOf h]
    have : F (flipM (way n (noOf n m)) v) = F (flipM m v) := h _ _ fun x hx => by
      by_cases e : x = v
      · subst e; simp [flipM, setM, way_noOf m hx]
      · simp [flipM, setM, e, way_noOf m hx]
    rw [this]
    simpa using hm
/-- What is not asked doesn't matter. -/
theorem asks_not {F : (Nat → Bool) → Bool} {v : Nat} (h : ¬ Asks F v) (m : Nat → Bool) (b : Bool) : F (setM m v b) = F m := by
  by_cases e : b = m v
  · have : setM m v b = m := by
      funext x
      by_cases ex : x = v
      · subst ex; rw [setM_same, e]
      · rw [setM_other _ _ ex]
    rw [this]
  · have hb : b = !m v := by cases b <;> cases hm : m v <;> simp_all
    rw [hb]
    apply Classical.byContradiction
    intro hc
    exact h ⟨m, fun e => hc e.symm⟩
theorem asks_agree {n : Nat} {F : (Nat → Bool) → Bool} (h : Hangs n F) : ∀ k, k ≤ n → ∀ m m', (∀ x, x < n → k ≤ x → m x = m' x) → (∀ x, x < n → Asks F x → m x = m' x) → F m = F m'
  | 0, _, m, m', h1, _ => h m m' fun x hx => h1 x hx (Nat.zero_le _)
  | k + 1, hk, m, m', h1, h2 => by
    have e : F (setM m k (m' k)) = F m := by
      by_cases ha : Asks F k
      · have : setM m k (m' k) = m := by
          funext x
          by_cases ex : x = k
          · subst ex; rw [setM_same, h2 x (by omega) ha]
          · rw [setM_other _ _ ex]
        rw [this]
      · exact asks_not ha m _
    rw [← e]
    refine asks_agree h k (by omega) _ m' (fun x hx hkx => ?_) (fun x hx ha => ?_)
    · by_cases ex : x = k
      · subst ex; rw [setM_same]
      · rw [setM_other _ _ ex]; exact h1 x hx (by omega)
    · by_cases ex : x = k
      · subst ex; rw [setM_same]
      · rw [setM_other _ _ ex]; exact h2 x hx ha
theorem Hangs.agree {n : Nat} {F : (Nat → Bool) → Bool} (h : Hangs n F) {m m' : Nat → Bool} (h2 : ∀ x, x < n → Asks F x → m x = m' x) : F m = F m' := asks_agree h n (Nat.le_refl _) m m' (fun x hx hk => by omega) h2
/-- A table with a variable being somehow. -/
def exT (t : List Bool) (n v : Nat) : List Bool := (List.range t.length).map fun i => t.getD i false || t.getD (flipI n i v) false
def ex1 (F : (Nat → Bool) → Bool) (v : Nat) (m : Nat → Bool) : Bool := F m || F (flipM m v)
theorem exT_tab {n v : Nat} {F : (Nat → Bool) → Bool} (h : Hangs n F) (hv : v < n) : exT (tabF n F) n v = tabF n (ex1 F v) := by
  unfold exT
  rw [tab_len]
  exact List.map_congr_left fun i hi => by
    have hi' : i < 2 ^ n := by simpa using hi
    rw [tab_getD F hi', tab_getD F (flip_lt hi' hv), flip_at h hv]
    rfl
theorem ex1_hangs {n v : Nat} {F : (Nat → Bool) → Bool} (h : Hangs n F) : Hangs n (ex1 F v) := fun m m' hm => by
  unfold ex1
  rw [h m m' hm, show F (flipM m v) = F (flipM m' v) from h.flip v m m' hm]
theorem ex1_iff (F : (Nat → Bool) → Bool) (v : Nat) (m : Nat → Bool) : ex1 F v m = true ↔ ∃ b, F (setM m v b) = true := by
  have h0 : setM m v (m v) = m := by
    funext x
    by_cases ex : x = v
    · subst ex; rw [setM_same]
    · rw [setM_other _ _ ex]
  unfold ex1 flipM
  rw [Bool.or_eq_true]
  constructor
  · rintro (h | h)
    · exact ⟨m v, by rw [h0]; exact h⟩
    · exact ⟨_, h⟩
  · rintro ⟨b, h⟩
    by_cases e : b = m v
    · left; rw [e, h0] at h; exact h
    · right
      have hb : b = !m v := by cases b <;> cases hm : m v <;> simp_all
      rw [← hb]; exact h
/-- One after the other is all at once. -/
theorem ex_list : ∀ (l : List Nat) (F : (Nat → Bool) → Bool) (m : Nat → Bool), l.foldl ex1 F m = true ↔ Some' (fun v => decide (v ∈ l)) F m
  | [], F, m => by
    constructor
    · intro h; exact ⟨m, fun _ _ => rfl, h⟩
    · rintro ⟨m', h1, h2⟩
      have : m' = m := funext fun x => h1 x (by simp)
      rw [this] at h2
      exact h2
  | v :: l, F, m => by
    show l.foldl ex1 (ex1 F v) m = true ↔ _
    rw [ex_list l (ex1 F v) m]
    constructor
    · rintro ⟨m', h1, h2⟩
      rw [ex1_iff] at h2
      obtain ⟨b, hb⟩ := h2
      refine ⟨_, fun x hx => ?_, hb⟩
      have hxv : x ≠ v := by rintro rfl; simp at hx
      rw [setM_other _ _ hxv]
      exact h1 x (by simp at hx ⊢; exact hx.2)
    · rintro ⟨m', h1, h2⟩
      refine ⟨setM m' v (m v), fun x hx => ?_, ?_⟩
      · by_cases ex : x = v
        · subst ex; rw [setM_same]
        · rw [setM_other _ _ ex]
          exact h1 x (by simp at hx ⊢; exact ⟨ex, hx⟩)
      · rw [ex1_iff]
        refine ⟨m' v, ?_⟩
        have : setM (setM m' v (m v)) v (m' v) = m' := by
          funext x
          by_cases ex : x = v
          · subst ex; rw [setM_same]
          · rw [setM_other _ _ ex, setM_other _ _ ex]
        rw [this]; exact h2
theorem exT_list {n : Nat} : ∀ (l : List Nat) (F : (Nat → Bool) → Bool), Hangs n F → (∀ v ∈ l, v < n) → l.foldl (fun t v => exT t n v) (tabF n F) = tabF n (l.foldl ex1 F) ∧ Hangs n (l.foldl ex1 F)
  | [], F, h, _ => ⟨rfl, h⟩
  | v :: l, F, h, hl => by
    have := exT_list l (ex1 F v) (ex1_hangs h) (fun u hu => hl u (by simp [hu]))
    refine ⟨?_, this.2⟩
    show l.foldl (fun t v => exT t n v) (exT (tabF n F) n v) = _
    rw [exT_tab h (hl v (by simp))]
    exact this.1
/-- A table renamed. -/
def oldL (t : List Bool) (n : Nat) (to : List Int) (i : Nat) : List Bool := (List.range n).map fun v => if asksT t n v = true then way n i (to.getD v 0).toNat else false
def renT (t : List Bool) (n : Nat) (to : List Int) : List Bool := (List.range t.length).map fun i => t.getD (atL (oldL t n to i)) false
theorem renT_tab {n : Nat} {F : (Nat → Bool) → Bool} (h : Hangs n F) (to : List Int) : renT (tabF n F) n to = tabF n fun m => F fun x => m (to.getD x 0).toNat := by
  unfold renT
  rw [tab_len]
  refine List.map_congr_left fun i hi => ?_
  have hl : (oldL (tabF n F) n to i).length = n := by simp [oldL]
  have hlt := atL_lt (oldL (tabF n F) n to i)
  rw [hl] at hlt
  rw [tab_getD F hlt]
  refine h.agree fun x hx ha => ?_
  rw [way_at hl hx]
  have : asksT (tabF n F) n x = true := (asks_iff h hx).2 ha
  simp [oldL, List.getD_eq_getElem?_getD, hx, this]
/-- May a table be renamed so? -/
def RenamesT (t : List Bool) (n : Nat) (to : List Int) : Prop := to.length = n ∧ (∀ v, v < n → 0 ≤ to.getD v 0 ∧ to.getD v 0 < (n : Int)) ∧ ∀ v w, v < n → w < v → to.getD v 0 = to.getD w 0 → asksT t n v = true → asksT t n w = true → False
end Go.Proofs.Ytailpphafoamfaa
namespace Go.Proofs.Ytailpphafoamfaa

section
variable {V lo r : Nat} {L K : List Nd}
/-- What is asked first and what then is are told by what is true. -/
theorem WF.node_is (hw : WF V L) {v a b : Nat} (hr : r < L.length) (hv : v < V) (ha : a < L.length) (hb : b < L.length) (hab : a ≠ b) (va : v < ask L a) (vb : v < ask L b) (he : ∀ m, ev L r m = if m v = true then ev L b m else ev L a m) : 2 ≤ r ∧ L[r]? = some ⟨v, a, b⟩ := by
  by_cases hex : ∃ i, 2 ≤ i ∧ L[i]? = some ⟨v, a, b⟩
  · obtain ⟨i, h2, hi⟩ := hex
    have : r = i := hw.one hr (List.getElem?_eq_some_iff.1 hi).1 fun m => by
      rw [he m, hw.ev_node m h2 hi]
    subst this
    exact ⟨h2, hi⟩
  · exfalso
    have hw' := hw.push (n := ⟨v, a, b⟩) hv ha hb hab va vb (fun i h2 hi => hex ⟨i, h2, hi⟩)
    have hn : (L ++ [(⟨v, a, b⟩ : Nd)])[L.length]? = some ⟨v, a, b⟩ := by simp
    have h2 := hw.two
    have : r = L.length := hw'.one (by simp; omega) (by simp) fun m => by
      rw [ev_app hw hw' m r hr, he m, hw'.ev_node m h2 hn, ev_app hw hw' m b hb, ev_app hw hw' m a ha]
    omega
/-- One new node alone. -/
theorem Src.one (hw : WF V L) (h : Src lo L r) (h2 : 2 ≤ lo) (hr : lo ≤ r) (hrl : r < L.length) (hc : ∀ n, L[r]? = some n → n.a < lo ∧ n.b < lo) : r = lo ∧ L.length = lo + 1 := by
  have par : ∀ x y n, lo ≤ y → L[y]? = some n → (n.a = x ∨ n.b = x) → x < y ∧ y < L.length := fun x y n hy hn hx => by
    obtain ⟨a1, a2, a3, -⟩ := hw.nd y n (by omega) hn
    have := (List.getElem?_eq_some_iff.1 hn).1
    rcases hx with rfl | rfl <;> exact ⟨by assumption, this⟩
  have e1 : r = L.length - 1 := by
    rcases h (L.length - 1) (by omega) (by omega) with e | ⟨y, n, hy, hn, hx⟩
    · exact e.symm
    · have := par _ _ _ hy hn hx
      omega
  by_cases e : lo = r
  · omega
  · exfalso
    rcases h (r - 1) (by omega) (by omega) with e2 | ⟨y, n, hy, hn, hx⟩
    · omega
    · have h3 := par _ _ _ hy hn hx
      obtain rfl : y = r := by omega
      have := hc n hn
      rcases hx with hx | hx <;> omega
end
/-- The example's store: two variables, both, either. -/
structure Eg (L : List Nd) : Prop where
  wf : WF 2 L
  n2 : L[2]? = some ⟨0, 0, 1⟩
  n3 : L[3]? = some ⟨1, 0, 1⟩
  n4 : L[4]? = some ⟨0, 0, 3⟩
theorem eg_var0 {L : List Nd} {r : Nat} (hw : WF 2 L) (hs : Src 2 L r) (hr : r < L.length) (he : ∀ m, ev L r m = m 0) : r = 2 ∧ L.length = 3 ∧ L[2]? = some ⟨0, 0, 1⟩ := by
  have h2 := hw.two
  obtain ⟨h1, hn⟩ := hw.node_is (v := 0) (a := 0) (b := 1) hr (by omega) (by omega) (by omega) (by omega) (by rw [hw.ask0]; omega) (by rw [hw.ask1]; omega) (fun m => by
    rw [he m, ev0, ev1]; cases m 0 <;> rfl)
  obtain ⟨rfl, h3⟩ := hs.one hw (Nat.le_refl _) h1 hr (fun n h => by rw [hn] at h; cases h; exact ⟨by decide, by decide⟩)
  exact ⟨rfl, h3, hn⟩
theorem eg_var1 {L : List Nd} {r : Nat} (hw : WF 2 L) (hs : Src 3 L r) (hr : r < L.length) (hl : 3 ≤ L.length) (hn2 : L[2]? = some ⟨0, 0, 1⟩) (he : ∀ m, ev L r m = m 1) : r = 3 ∧ L.length = 4 ∧ L[3]? = some ⟨1, 0, 1⟩ := by
  obtain ⟨h1, hn⟩ := hw.node_is (v := 1) (a := 0) (b := 1) hr (by omega) (by omega) (by omega) (by omega) (by rw [hw.ask0]; omega) (by rw [hw.ask1]; omega) (fun m => by
    rw [he m, ev0, ev1]; cases m 1 <;> rfl)
  have h3 : 3 ≤ r := by
    apply Classical.byContradiction
    intro hc
    obtain rfl : r = 2 := by omega
    rw [hn2] at hn
    simp at hn
  obtain ⟨rfl, h4⟩ := hs.one hw (by omega) h3 hr (fun n h => by rw [hn] at h; cases h; exact ⟨by decide, by decide⟩)
  exact ⟨rfl, h4, hn⟩
theorem eg_ev2 {L : List Nd} (hw : WF 2 L) (hn2 : L[2]? = some ⟨0, 0, 1⟩) (m : Nat → Bool) : ev L 2 m = m 0 := by
  rw [hw.ev_node m (by omega) hn2, ev0, ev1]; cases m 0 <;> rfl
theorem eg_ev3 {L : List Nd} (hw : WF 2 L) (hn3 : L[3]? = some ⟨1, 0, 1⟩) (m : Nat → Bool) : ev L 3 m = m 1 := by
  rw [hw.ev_node m (by omega) hn3, ev0, ev1]; cases m 1 <;> rfl
theorem eg_and {L : List Nd} {r : Nat} (hw : WF 2 L) (hs : Src 4 L r) (hr : r < L.length) (hl : 4 ≤ L.length) (hn2 : L[2]? = some ⟨0, 0, 1⟩) (hn3 : L[3]? = some ⟨1, 0, 1⟩) (he : ∀ m, ev L r m = (m 0 && m 1)) : r = 4 ∧ L.length = 5 ∧ L[4]? = some ⟨0, 0, 3⟩ := by
  obtain ⟨h1, hn⟩ := hw.node_is (v := 0) (a := 0) (b := 3) hr (by omega) (by omega) (by omega) (by omega) (by rw [hw.ask0]; omega) (by rw [ask_at hn3]; show 0 < 1; omega) (fun m => by
    rw [he m, ev0, eg_ev3 hw hn3]; cases m 0 <;> rfl)
  have h3 : 4 ≤ r := by
    apply Classical.byContradiction
    intro hc
    rcases (by omega : r = 2 ∨ r = 3) with rfl | rfl
    · rw [hn2] at hn; simp at hn
    · rw [hn3] at hn; simp at hn
  obtain ⟨rfl, h4⟩ := hs.one hw (by omega) h3 hr (fun n h => by rw [hn] at h; cases h; exact ⟨by decide, by decide⟩)
  exact ⟨rfl, h4, hn⟩
theorem Eg.or {L : List Nd} (h : Eg L) {r : Nat} (hr : r < L.length) (he : ∀ m, ev L r m = (m 0 || m 1)) : 2 ≤ r ∧ L[r]? = some ⟨0, 3, 1⟩ := by
  have hl := (List.getElem?_eq_some_iff.1 h.n4).1
  exact h.wf.node_is (v := 0) (a := 3) (b := 1) hr (by omega) (by omega) (by omega) (by omega) (by rw [ask_at h.n3]; show 0 < 1; omega) (by rw [h.wf.ask1]; omega) (fun m => by
    rw [he m, ev1, eg_ev3 h.wf h.n3]; cases m 0 <;> rfl)
theorem Eg.count {L : List Nd} (h : Eg L) {r : Nat} (h2 : 2 ≤ r) (hn : L[r]? = some ⟨0, 3, 1⟩) : cN L r * 2 ^ ask L r = 3 := by
  rw [ask_at hn, h.wf.cN_node h2 hn, h.wf.cN_node (by omega) h.n3]
  simp only [cN_end (L := L) (Nat.zero_le 1), cN_end (L := L) (Nat.le_refl 1), ask_at h.n3, h.wf.ask0, h.wf.ask1]
theorem Eg.first {L : List Nd} (h : Eg L) {r : Nat} (hr : r < L.length) (he : ∀ m, ev L r m = (m 0 || m 1)) {m : Nat → Bool} (hf : First 2 L r m) : m 0 = false ∧ m 1 = true := by
  have htr := hf.tr
  rw [he] at htr
  have hx := hf.lex (fun x => x == 1) (by rw [he]; rfl)
  rcases hx with ⟨v, hv, h1, h2, h3⟩ | h1
  · obtain rfl : v = 1 := by simpa using h3
    have h0 := h1 0 (by omega)
    simp at h0
    rw [h0, h2] at htr
    simp at htr
  · have h0 := h1 0 (by omega)
    have h1 := h1 1 (by omega)
    simp at h0 h1
    exact ⟨h0, h1⟩
theorem Eg.some {L : List Nd} (h : Eg L) {r : Nat} (hr : r < L.length) (he : ∀ m, ev L r m = true ↔ Some' (fun v => decide (v = 0)) (fun m => m 0 && m 1) m) : r = 3 := by
  have hl := (List.getElem?_eq_some_iff.1 h.n4).1
  refine h.wf.one hr (by omega) fun m => ?_
  rw [eg_ev3 h.wf h.n3]
  have : ev L r m = true ↔ m 1 = true := by
    rw [he]
    constructor
    · rintro ⟨m', h1, h2⟩
      have := h1 1 (by simp)
      simp at h2
      rw [← this]; exact h2.2
    · intro h1
      refine ⟨setM m 0 true, fun x hx => ?_, ?_⟩
      · exact setM_other _ _ (by simpa using hx)
      · simp [setM, h1]
  cases h1 : m 1
  · cases h2 : ev L r m
    · rfl
    · rw [this.1 h2] at h1; cases h1
  · exact this.2 h1
end Go.Proofs.Ytailpphafoamfaa
