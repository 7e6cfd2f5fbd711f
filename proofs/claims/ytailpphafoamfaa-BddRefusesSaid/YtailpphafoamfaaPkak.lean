/- Rebuilding. The rebuilder. What is true where a diagram can be; what is true of a diagram with other variables: the mathematics. What leaves out variables. Leaving out variables, whatever they are. What is true where a diagram can be. -/
import Derived.Laws.EntriesVeiled
import Derived.Test.YtailpphafoamfaaPkaj
set_option linter.all false
namespace Go.Proofs.Ytailpphafoamfaa
open Go Go.RowKit Go.Maps


section
variable {jf : FuncId} {k1 k2 k3 : Value} {J : World → (Nat → Nat) → SG → DG → Prop} {R : List Nd → Nat → Nat → Prop} {c : Nat} {w w' : World} {o o' : Nat → Nat} {g g' : SG} {D D' : DG} {E : REnv} {d : Nat} {mp mp' : Value → Option Value}
set_option maxHeartbeats 8000000 in
set_option maxRecDepth 100000 in
theorem reb_hit (S : JoinS jf k1 k2 k3 J R c) {j r : Nat} (hs : DS w o g D) (hj : J w o g D) (ha : RebAt w o D.d E mp) (hd : RDone R D.full (lst g D) mp) (hl : j < (lst g D).length) (hx : mp (.int .i32 (j : Int)) = some (.int .i32 (r : Int))) :
    Calls Try.prog 75 #[.int .i32 (j : Int), .pointer (some ⟨E.b5, 0, none⟩), .pointer (some ⟨E.b2, 0, none⟩), .pointer (some ⟨E.b3, 0, none⟩), .pointer (some ⟨E.b6, 0, none⟩)] w (RebPost J R c w o g D E j) := by
  have hlen := hs.len
  have hlk := ha.map.look K21 Try.underlying129 (z21 _) (isK21 (x := (j : Int)) (by omega))
  rw [hx] at hlk
  simp only [Option.getD_some, Option.isSome_some] at hlk
  have HR := Lib.hid (show RebPost J R c w o g D E j (.returned (.int .i32 (r : Int))) w from (by
    obtain ⟨k, r', e1, e2, h1, h2, h3⟩ := hd.al _ _ hx
    simp only [Value.int.injEq, true_and] at e1 e2
    have q1 : j = k := by omega
    have q2 : r = r' := by omega
    subst q1 q2
    exact ⟨r, o, g, D, mp, rfl, RebOut.same hs hj ha hd h2 h3⟩))
  have c5 := ha.c5
  clear hs hj ha hd hl hx hlen
  go_enter Try.func75, Try.ntmps75
  go_wp2
  go_ret
  exact HR.out
set_option maxHeartbeats 8000000 in
set_option maxRecDepth 100000 in
theorem reb_miss (S : JoinS jf k1 k2 k3 J R c) {j : Nat} (IH : ∀ k, k < j → RebC J R c (.func (.func jf) #[] #[k1, k2, k3]) k) (hs : DS w o g D) (hj : J w o g D) (ha : RebAt w o D.d E mp) (hjv : E.jv = .func (.func jf) #[] #[k1, k2, k3]) (hd : RDone R D.full (lst g D) mp) (hl : j < (lst g D).length) (hx : mp (.int .i32 (j : Int)) = none) :
    Calls Try.prog 75 #[.int .i32 (j : Int), .pointer (some ⟨E.b5, 0, none⟩), .pointer (some ⟨E.b2, 0, none⟩), .pointer (some ⟨E.b3, 0, none⟩), .pointer (some ⟨E.b6, 0, none⟩)] w (RebPost J R c w o g D E j) := by
  have hlen := hs.len
  have h2 : 2 ≤ j := by
    apply Classical.byContradiction
    intro hc
    rcases (by omega : j = 0 ∨ j = 1) with rfl | rfl
    · rw [show ((0 : Nat) : Int) = 0 from rfl, hd.z] at hx; cases hx
    · rw [show ((1 : Nat) : Int) = 1 from rfl, hd.o] at hx; cases hx
  have HISK := Lib.hid (isK21 (x := (j : Int)) (by omega))
  have hlk := ha.map.look K21 Try.underlying129 (z21 _) HISK.out
  rw [hx] at hlk
  simp only [Option.getD_none, Option.isSome_none] at hlk
  obtain ⟨n, hn⟩ := get_lt hl
  have HAT := Lib.hid (at_any hs.st hs.dr hn)
  have c5 := ha.c5
  have c2 := ha.c2
  have HS := Lib.hid hs
  have HJ := Lib.hid hj
  have HA := Lib.hid ha
  have HD := Lib.hid hd
  have HN := Lib.hid hn
  have H2 := Lib.hid h2
  have HIH := Lib.hid IH
  have HSS := Lib.hid S
  have HJV := Lib.hid hjv
  clear hs hj ha hjv hd hl hx hlen h2 hn IH S
  go_enter Try.func75, Try.ntmps75
  go_wp2_with fail
  refine (HAT.out).mono ?_
  rintro e w1 ⟨rfl, hg⟩
  unfold ndV
  have HG1 := Lib.hid hg
  clear hg hlk c5 c2
  go_wp2
  obtain ⟨N, hN⟩ : ∃ N, w1.heap.size = N := ⟨_, rfl⟩
  obtain ⟨wa, hwa⟩ : ∃ wa, w1.alloc (.cells #[.int .i32 (n.v : Int), .int .i32 (n.a : Int), .int .i32 (n.b : Int)] 63) = wa := ⟨_, rfl⟩
  have HGA := Lib.hid (show w.grownBy wa none from by rw [← hwa]; exact grown_trans HG1.out (grown_alloc _ _))
  have HY := Lib.hid (show wa.heap[N]? = some (.cells #[.int .i32 (n.v : Int), .int .i32 (n.a : Int), .int .i32 (n.b : Int)] 63 (0, 0)) from by rw [← hwa, ← hN]; exact (MapKept.heap_alloc w1 _).1)
  have HON := Lib.hid (show o N = 0 from HS.out.st.new N (by rw [← hN]; exact HG1.out.size))
  rw [hwa, hN]
  clear hwa hN
  have HSA := Lib.hid (HS.out.grown HGA.out)
  have HJA := Lib.hid (HSS.out.keeps HJ.out (keep_none (fun _ => false) o HGA.out) rfl rfl)
  have HAA := Lib.hid (HA.out.keep (keep_none (fun _ => false) o HGA.out) rfl rfl)
  have a3 := HAA.out.c3
  rw [HJV.out] at a3
  have a6 := HAA.out.c6
  unfold rebV at a6
  refine wp_region_T (S := fun w' => ∀ k ∈ [E.b3, E.b6, N], w'.heap[k]? = wa.heap[k]?) (tail := fun j => decide (11 ≤ j)) (by kernel_rfl) ?_
  change wpAnyT _ _ _ _ _ _ _ _ _ (World.drew wa)
  have BD := Lib.hid (show ∀ k ∈ [E.b3, E.b6, N], (World.drew wa).heap[k]? = wa.heap[k]? from fun _ _ => rfl)
  have HSD := Lib.hid HSA.out.drew
  have HJD := Lib.hid (HSS.out.keeps HJA.out (keep_drew (fun _ => false) wa o) rfl rfl)
  have HAD := Lib.hid (HAA.out.keep (keep_drew (fun _ => false) wa o) rfl rfl)
  have HGD := Lib.hid (show w.grownBy (World.drew wa) none from grown_trans HGA.out (grown_drewN wa 1))
  have HLT := Lib.hid (show ∀ k ∈ [E.b3, E.b6, N], k < (World.drew wa).heap.size ∧ o k = 0 from fun k hk => by
    simp at hk
    rcases hk with rfl | rfl | rfl
    · exact ⟨lt_cell a3, HAA.out.o3⟩
    · exact ⟨lt_cell a6, HAA.out.o6⟩
    · exact ⟨(Array.getElem?_eq_some_iff.1 HY.out).1, HON.out⟩)
  have HAB := Lib.hid (show n.a < j ∧ n.b < j ∧ j < (lst g D).length from by
    have h1 := HS.out.wf.nd j n H2.out HN.out
    exact ⟨h1.2.1, h1.2.2.1, (List.getElem?_eq_some_iff.1 HN.out).1⟩)
  refine tk 0 22 (.func (.func jf) #[] #[k1, k2, k3]) BD.out ?y0 ?_
  case y0 =>
    intro w' hw'
    have y0 := (World.cell?_of_block (a := ⟨E.b3, 0, none⟩) (hw' _ (by simp))).trans a3
    go_simp
  try simp only [Act.put, List.setIfInBounds_toArray, List.set_cons_zero, List.set_cons_succ]
  refine tk 1 23 (.pointer (some ⟨N, 0, none⟩)) BD.out ?y1 ?_
  case y1 =>
    intro w' hw'
    go_simp
  try simp only [Act.put, List.setIfInBounds_toArray, List.set_cons_zero, List.set_cons_succ]
  refine tk 2 24 (.int .i32 (n.v : Int)) BD.out ?y2 ?_
  case y2 =>
    intro w' hw'
    have y0 := (World.cell?_of_block (a := ⟨N, 0, none⟩) (hw' N (by simp))).trans (box_cells HY.out).1
    go_simp
  try simp only [Act.put, List.setIfInBounds_toArray, List.set_cons_zero, List.set_cons_succ]
  refine tk 3 25 (.func (.func 75) #[] #[.pointer (some ⟨E.b5, 0, none⟩), .pointer (some ⟨E.b2, 0, none⟩), .pointer (some ⟨E.b3, 0, none⟩), .pointer (some ⟨E.b6, 0, none⟩)]) BD.out ?y3 ?_
  case y3 =>
    intro w' hw'
    have y0 := (World.cell?_of_block (a := ⟨E.b6, 0, none⟩) (hw' _ (by simp))).trans a6
    go_simp
  try simp only [Act.put, List.setIfInBounds_toArray, List.set_cons_zero, List.set_cons_succ]
  refine tk 4 26 (.pointer (some ⟨N, 1, none⟩)) BD.out ?y4 ?_
  case y4 =>
    intro w' hw'
    go_simp
  try simp only [Act.put, List.setIfInBounds_toArray, List.set_cons_zero, List.set_cons_succ]
  refine tk 5 27 (.int .i32 (n.a : Int)) BD.out ?y5 ?_
  case y5 =>
    intro w' hw'
    have y0 := (World.cell?_of_block (a := ⟨N, 1, none⟩) (hw' N (by simp))).trans (box_cells HY.out).2.1
    go_simp
  try simp only [Act.put, List.setIfInBounds_toArray, List.set_cons_zero, List.set_cons_succ]
  refine tk 7 29 (.func (.func 75) #[] #[.pointer (some ⟨E.b5, 0, none⟩), .pointer (some ⟨E.b2, 0, none⟩), .pointer (some ⟨E.b3, 0, none⟩), .pointer (some ⟨E.b6, 0, none⟩)]) BD.out ?y7 ?_
  case y7 =>
    intro w' hw'
    have y0 := (World.cell?_of_block (a := ⟨E.b6, 0, none⟩) (hw' _ (by simp))).trans a6
    go_simp
  try simp only [Act.put, List.setIfInBounds_toArray, List.set_cons_zero, List.set_cons_succ]
  refine tk 8 30 (.pointer (some ⟨N, 2, none⟩)) BD.out ?y8 ?_
  case y8 =>
    intro w' hw'
    go_simp
  try simp only [Act.put, List.setIfInBounds_toArray, List.set_cons_zero, List.set_cons_succ]
  refine tk 9 31 (.int .i32 (n.b : Int)) BD.out ?y9 ?_
  case y9 =>
    intro w' hw'
    have y0 := (World.cell?_of_block (a := ⟨N, 2, none⟩) (hw' N (by simp))).trans (box_cells HY.out).2.2
    go_simp
  try simp only [Act.put, List.setIfInBounds_toArray, List.set_cons_zero, List.set_cons_succ]
  refine on 6 (fun K hK => ?_)
  go_simp
  refine (HIH.out n.a HAB.out.1 (World.drew wa) o g D E mp HSD.out HJD.out HAD.out HJV.out HD.out (Nat.lt_trans HAB.out.1 HAB.out.2.2)).mono ?_
  rintro e wA ⟨x, oA, gA, DA, mA, rfl, hA⟩
  have CA := Lib.hid hA
  have SA := Lib.hid (show ∀ k ∈ [E.b3, E.b6, N], wA.heap[k]? = wa.heap[k]? from fun k hk => (hA.keep.blk k (HLT.out k hk).1 (by rw [(HLT.out k hk).2]; rfl)).trans (BD.out k hk))
  clear hA
  refine hK.out _ _ (fun _ => SA.out) ?_
  clear hK K
  try simp only [Act.put, List.setIfInBounds_toArray, List.set_cons_zero, List.set_cons_succ]
  refine on 10 (fun K hK => ?_)
  go_simp
  refine (HIH.out n.b HAB.out.2.1 wA oA gA DA E mA CA.out.ds CA.out.j_ (by rw [CA.out.ext.d]; exact CA.out.at_) HJV.out CA.out.dn (Nat.lt_of_lt_of_le (Nat.lt_trans HAB.out.2.1 HAB.out.2.2) CA.out.ext.len_le)).mono ?_
  rintro e wB ⟨y, oB, gB, DB, mB, rfl, hB⟩
  have CB := Lib.hid hB
  have SB := Lib.hid (show ∀ k ∈ [E.b3, E.b6, N], wB.heap[k]? = wa.heap[k]? from fun k hk => (hB.keep.blk k (Nat.lt_of_lt_of_le (HLT.out k hk).1 CA.out.keep.size) (by rw [CA.out.keep.own k (HLT.out k hk).1, (HLT.out k hk).2]; rfl)).trans (SA.out k hk))
  clear hB
  refine hK.out _ _ (fun _ => SB.out) ?_
  clear hK K
  try simp only [Act.put, List.setIfInBounds_toArray, List.set_cons_zero, List.set_cons_succ]
  refine on 11 (fun K hK => ?_)
  have hje := HSS.out.enters
  go_simp
  have hjn := HSS.out.call wB oB gB DB j n x y CB.out.ds CB.out.j_ H2.out (by
    obtain ⟨K1, hK1⟩ := (CA.out.ext.trans CB.out.ext).ex
    rw [hK1, List.getElem?_append_left HAB.out.2.2]
    exact HN.out) (Nat.lt_of_lt_of_le CA.out.lt CB.out.ext.len_le) CB.out.lt (by
    cases hfu : DB.full with
    | true => exact .inl rfl
    | false =>
      right
      have hfa := full_false CB.out.ext hfu
      refine ⟨?_, CB.out.is.resolve_left (by rw [hfu]; simp)⟩
      exact CB.out.ext.rmono HSS.out CA.out.ds CB.out.ds (Nat.lt_of_lt_of_le (Nat.lt_trans HAB.out.1 HAB.out.2.2) CA.out.ext.len_le) CA.out.lt (CA.out.is.resolve_left (by rw [hfa]; simp)))
  refine hjn.mono ?_
  rintro e wC ⟨r, oC, gC, DC, rfl, hC⟩
  have CN := Lib.hid hC
  clear hC hjn hje
  refine hK.out _ _ (fun h => absurd h (by decide)) ?_
  clear hK K
  try simp only [Act.put, List.setIfInBounds_toArray, List.set_cons_zero, List.set_cons_succ]
  refine tkM 12 10 (.int .i32 (r : Int)) ?y12 ?_
  case y12 =>
    intro w'
    go_simp
  try simp only [Act.put, List.setIfInBounds_toArray, List.set_cons_zero, List.set_cons_succ]
  refine dn ?_
  have AC := Lib.hid (CB.out.at_.keep CN.out.keep rfl rfl)
  have c5' := AC.out.c5
  obtain ⟨w9, hrun, hm9, ht9⟩ := AC.out.map.store K21 Try.underlying129 HISK.out (.int .i32 (r : Int))
  have HR := Lib.hid (show RebPost J R c w o g D E j (.returned (.int .i32 (r : Int))) w9 from by
    have hc := reb_end HSS.out HSD.out H2.out HN.out CA.out CB.out CN.out hm9 ht9.grown
    exact ⟨r, oC, gC, DC, _, rfl, hc.ds, hc.j_, hc.at_, hc.dn, (keep_none _ o HGD.out).trans hc.keep, hc.ext, hc.lt, hc.is, hc.len, hc.W⟩)
  clear hm9 ht9
  go_wp2
  go_ret
  exact HR.out
theorem reb_any (S : JoinS jf k1 k2 k3 J R c) : ∀ j, RebC J R c (.func (.func jf) #[] #[k1, k2, k3]) j := by
  intro j
  induction j using Nat.strongRecOn with
  | ind j ih =>
    intro w o g D E mp hs hj ha hjv hd hl
    cases hx : mp (.int .i32 (j : Int)) with
    | none => exact reb_miss S ih hs hj ha hjv hd hl hx
    | some z =>
      obtain ⟨k, r, -, rfl, -⟩ := hd.al _ _ hx
      exact reb_hit S hs hj ha hd hl hx
end

end Go.Proofs.Ytailpphafoamfaa
namespace Go.Proofs.Ytailpphafoamfaa
open Go Go.RowKit Go.Maps

section
variable {jf : FuncId} {k1 k2 k3 : Value} {J : World → (Nat → Nat) → SG → DG → Prop} {R : List Nd → Nat → Nat → Prop} {c : Nat} {w w' : World} {o o' : Nat → Nat} {g g' : SG} {D D' : DG} {E : REnv} {d : Nat} {mp mp' : Value → Option Value}
noncomputable def mp01 : Value → Option Value := updV (updV (fun _ => none) (.int .i32 0) (.int .i32 0)) (.int .i32 1) (.int .i32 1)
theorem rdone_start (S : JoinS jf k1 k2 k3 J R c) {V : Nat} {L : List Nd} (hw : WF V L) (full : Bool) : RDone R full L mp01 := by
  have h2 := hw.two
  refine ⟨?_, updV_same _ _ _, fun v x hv => ?_⟩
  · unfold mp01
    rw [updV_other _ _ (by simp), updV_same]
  · unfold mp01 at hv
    by_cases e1 : v = .int .i32 1
    · rw [e1, updV_same] at hv
      cases hv
      exact ⟨1, 1, e1, rfl, by omega, by omega, .inr (S.r1 hw)⟩
    · rw [updV_other _ _ e1] at hv
      by_cases e0 : v = .int .i32 0
      · rw [e0, updV_same] at hv
        cases hv
        exact ⟨0, 0, e0, rfl, by omega, by omega, .inr (S.r0 hw)⟩
      · rw [updV_other _ _ e0] at hv
        cases hv
theorem turned_size {w w' : World} {b : Nat} (h : w.mapTurned w' b) : w'.heap.size = w.heap.size := by
  obtain ⟨es, cl, es', cl', h1, rfl⟩ := h
  simp [ChangeMaps.setBlock]
def RebuilderPost (w : World) (o : Nat → Nat) (g : SG) (D : DG) (jv : Value) (e : Ending) (w' : World) : Prop :=
  ∃ E o', e = .returned (rebV E) ∧ E.jv = jv ∧ DS w' o' g D ∧ RebAt w' o' D.d E mp01 ∧ Keep (fun _ => false) w o w' o'
/-- The world ahead of the rebuilder's boxes is as it was but for what is new. -/
theorem rebuilder_new (hs : DS w o g D) (jv x : Value) {w3 w5 : World} (hw3 : w3 = ((w.alloc (.cells #[.pointer (some ⟨D.d, 0, none⟩)] 94)).alloc (.cells #[jv] 100)).alloc (.map #[] 0)) (hg : w3.grownBy w5 (some (w.heap.size + 1 + 1))) (hz : w5.heap.size = w3.heap.size) (hm : MapIs 21 w5 (w.heap.size + 1 + 1) mp01)
    (hx : x = rebV ⟨w5.heap.size, w.heap.size, w.heap.size + 1, w5.heap.size + 1, w.heap.size + 1 + 1, jv⟩) : RebuilderPost w o g D jv (.returned x) ((w5.alloc (.cells #[.map (some (w.heap.size + 1 + 1))] 129)).alloc (.cells #[x] 97)) := by
  have e3 : w3.heap.size = w.heap.size + 3 := by rw [hw3]; simp
  have s1 : ∀ (w : World) (x : Obj), (w.alloc x).heap = w.heap.push x := fun _ _ => rfl
  have h0 : w3.heap[w.heap.size]? = some (.cells #[.pointer (some ⟨D.d, 0, none⟩)] 94 (0, 0)) := by
    rw [hw3]
    simp only [s1, Array.size_push, Array.getElem?_push]
    rw [if_neg (by omega), if_neg (by omega), if_pos trivial]
  have h1 : w3.heap[w.heap.size + 1]? = some (.cells #[jv] 100 (0, 0)) := by
    rw [hw3]
    simp only [s1, Array.size_push, Array.getElem?_push]
    rw [if_neg (by omega), if_pos trivial]
  have hg0 : w.grownBy w3 none := by rw [hw3]; exact grown_trans (grown_trans (grown_alloc _ _) (grown_alloc _ _)) (grown_alloc _ _)
  have hg5 : w.grownBy w5 none := grown_out hg0 hg (by omega)
  obtain ⟨wz, hwz⟩ : ∃ wz, (w5.alloc (.cells #[.map (some (w.heap.size + 1 + 1))] 129)).alloc (.cells #[x] 97) = wz := ⟨_, rfl⟩
  have hg6 : w5.grownBy wz none := by rw [← hwz]; exact grown_trans (grown_alloc _ _) (grown_alloc _ _)
  have h5 : wz.heap[w5.heap.size]? = some (.cells #[.map (some (w.heap.size + 1 + 1))] 129 (0, 0)) := by
    rw [← hwz, heap_alloc_old (by simp)]
    exact (MapKept.heap_alloc w5 _).1
  have h6 : wz.heap[w5.heap.size + 1]? = some (.cells #[x] 97 (0, 0)) := by
    have := (MapKept.heap_alloc (w5.alloc (.cells #[.map (some (w.heap.size + 1 + 1))] 129)) (.cells #[x] 97)).1
    have e : (w5.alloc (.cells #[.map (some (w.heap.size + 1 + 1))] 129)).heap.size = w5.heap.size + 1 := by simp
    rw [e, hwz] at this
    exact this
  have hsz : wz.heap.size = w5.heap.size + 2 := by rw [← hwz]; simp
  rw [hwz]
  have hk : Keep (fun _ => false) w o wz (ownG o (w.heap.size + 1 + 1) 8) := Keep.grown (grown_trans hg5 hg6) (by simp) (fun k hk => ownG_other _ _ (by omega))
  have ho := hs.st.new
  have cc : ∀ (b : Nat) (v : Value) (t : TypeId), wz.heap[b]? = some (.cells #[v] t (0, 0)) → wz.cell? ⟨b, 0, none⟩ = some v := fun b v t h => (cell_of h).trans rfl
  have b0 : wz.heap[w.heap.size]? = some (.cells #[.pointer (some ⟨D.d, 0, none⟩)] 94 (0, 0)) := (grown_far hg6 (by omega)).trans ((hg.block _ (by omega) (by simp only [ne_eq, Option.some.injEq]; omega)).trans h0)
  have b1 : wz.heap[w.heap.size + 1]? = some (.cells #[jv] 100 (0, 0)) := (grown_far hg6 (by omega)).trans ((hg.block _ (by omega) (by simp only [ne_eq, Option.some.injEq]; omega)).trans h1)
  refine ⟨⟨w5.heap.size, w.heap.size, w.heap.size + 1, w5.heap.size + 1, w.heap.size + 1 + 1, jv⟩, _, by rw [hx], rfl, ⟨hs.st.keep hk ⟨rfl, rfl, rfl⟩ (fun b hb => ?_), hs.dr.keep hk ⟨rfl, rfl, rfl⟩⟩, ⟨cc _ _ _ h5, cc _ _ _ b0, cc _ _ _ b1, (cc _ _ _ h6).trans (by rw [hx]), ?_, ?_, ?_, ?_, ownG_same _ _ _, hm.move (grown_far hg6 hm.lt)⟩, hk⟩
  · rw [ownG_other _ _ (by omega)]
    exact ho b (by omega)
  · show ownG o _ 8 w5.heap.size = 0
    rw [ownG_other _ _ (by omega)]; exact ho _ (by omega)
  · show ownG o _ 8 w.heap.size = 0
    rw [ownG_other _ _ (by omega)]; exact ho _ (Nat.le_refl _)
  · show ownG o _ 8 (w.heap.size + 1) = 0
    rw [ownG_other _ _ (by omega)]; exact ho _ (by omega)
  · show ownG o _ 8 (w5.heap.size + 1) = 0
    rw [ownG_other _ _ (by omega)]; exact ho _ (by omega)
set_option maxHeartbeats 8000000 in
set_option maxRecDepth 100000 in
theorem rebuilder_any (hs : DS w o g D) (jf : FuncId) (k1 k2 k3 : Value) : Calls Try.prog 63 #[.pointer (some ⟨D.d, 0, none⟩), .func (.func jf) #[] #[k1, k2, k3]] w (RebuilderPost w o g D (.func (.func jf) #[] #[k1, k2, k3])) := by
  have hmm := @run_makeMap Try.prog
  have hmf : ∀ (fn : Fn) (first cap : Array Value) (w : World), (Instr.makeFunc fn first cap).run Try.prog w = .ok (.func fn first cap) w := fun _ _ _ _ => rfl
  obtain ⟨w3, hw3⟩ : ∃ w3, w3 = ((w.alloc (.cells #[.pointer (some ⟨D.d, 0, none⟩)] 94)).alloc (.cells #[.func (.func jf) #[] #[k1, k2, k3]] 100)).alloc (.map #[] 0) := ⟨_, rfl⟩
  have hm0 : MapIs 21 w3 (w.heap.size + 1 + 1) (fun _ => none) := by
    have := MapIs.made (k := 21) ((w.alloc (.cells #[.pointer (some ⟨D.d, 0, none⟩)] 94)).alloc (.cells #[.func (.func jf) #[] #[k1, k2, k3]] 100))
    rw [← hw3] at this
    have e : ((w.alloc (.cells #[.pointer (some ⟨D.d, 0, none⟩)] 94)).alloc (.cells #[.func (.func jf) #[] #[k1, k2, k3]] 100)).heap.size = w.heap.size + 1 + 1 := by simp
    rw [e] at this
    exact this
  obtain ⟨w4, hr4, hm4, ht4⟩ := hm0.store K21 Try.underlying129 (isK21 (x := 0) (by omega)) (.int .i32 0)
  obtain ⟨w5, hr5, hm5, ht5⟩ := hm4.store K21 Try.underlying129 (isK21 (x := 1) (by omega)) (.int .i32 1)
  have HNEW := Lib.hid (rebuilder_new hs (.func (.func jf) #[] #[k1, k2, k3]) _ hw3 (grown_trans ht4.grown ht5.grown) ((turned_size ht5).trans (turned_size ht4)) hm5 rfl)
  have hc : ((w5.alloc (.cells #[.map (some (w.heap.size + 1 + 1))] 129)).alloc (.cells #[.nilFunc] 97)).cell? ⟨w5.heap.size + 1, 0, none⟩ = some .nilFunc := by
    have := (MapKept.heap_alloc (w5.alloc (.cells #[.map (some (w.heap.size + 1 + 1))] 129)) (.cells #[.nilFunc] 97)).1
    have e : (w5.alloc (.cells #[.map (some (w.heap.size + 1 + 1))] 129)).heap.size = w5.heap.size + 1 := by simp
    rw [e] at this
    exact (cell_of this).trans rfl
  have hz : ((w5.alloc (.cells #[.map (some (w.heap.size + 1 + 1))] 129)).alloc (.cells #[.nilFunc] 97)).frozen? ⟨w5.heap.size + 1, 0, none⟩ = false := by
    have := (MapKept.heap_alloc (w5.alloc (.cells #[.map (some (w.heap.size + 1 + 1))] 129)) (.cells #[.nilFunc] 97)).1
    have e : (w5.alloc (.cells #[.map (some (w.heap.size + 1 + 1))] 129)).heap.size = w5.heap.size + 1 := by simp
    rw [e] at this
    exact frz_of this
  rw [hw3] at hr4
  clear hs hw3 hm0 hm4 ht4 hm5 ht5
  unfold rebV at HNEW
  go_enter Try.func63, Try.ntmps63
  go_wp2
  go_ret
  exact HNEW.out
end
end Go.Proofs.Ytailpphafoamfaa
namespace Go.Proofs.Ytailpphafoamfaa

/-- Some way in which the free variables are somehow. -/
def Some' (free : Nat → Bool) (F : (Nat → Bool) → Bool) (m : Nat → Bool) : Prop := ∃ m', (∀ x, free x = false → m' x = m x) ∧ F m' = true
structure RE (free : Nat → Bool) (L : List Nd) (j r : Nat) : Prop where
  ak : ask L j ≤ ask L r
  tr : ∀ m, ev L r m = true ↔ Some' free (ev L j) m
section
variable {V : Nat} {L K : List Nd} {free : Nat → Bool}
theorem RE.mono (hw : WF V L) (hw' : WF V (L ++ K)) {j r : Nat} (hj : j < L.length) (hr : r < L.length) (h : RE free L j r) : RE free (L ++ K) j r := by
  refine ⟨by rw [ask_app hj, ask_app hr]; exact h.ak, fun m => ?_⟩
  rw [ev_app hw hw' m r hr, h.tr m]
  constructor
  · rintro ⟨m', h1, h2⟩
    exact ⟨m', h1, by rw [ev_app hw hw' m' j hj]; exact h2⟩
  · rintro ⟨m', h1, h2⟩
    exact ⟨m', h1, by rw [ev_app hw hw' m' j hj] at h2; exact h2⟩
theorem RE.zero : RE free L 0 0 := ⟨Nat.le_refl _, fun m => by
  constructor
  · intro h; rw [ev0] at h; cases h
  · rintro ⟨m', -, h2⟩; rw [ev0] at h2; cases h2⟩
theorem RE.one : RE free L 1 1 := ⟨Nat.le_refl _, fun m => ⟨fun _ => ⟨m, fun _ _ => rfl, ev1 m⟩, fun _ => ev1 m⟩⟩
theorem RE.isfree (hw : WF V L) {j x y r : Nat} {n : Nd} (h2 : 2 ≤ j) (hn : L[j]? = some n) (hv : free n.v = true) (ha : RE free L n.a x) (hb : RE free L n.b y) (hx : x < L.length) (hy : y < L.length) (c : CombIs iteB L x 1 y r) : RE free L j r := by
  obtain ⟨a1, a2, a3, a4, a5, a6⟩ := hw.nd j n h2 hn
  have hj := (List.getElem?_eq_some_iff.1 hn).1
  have e1 := hw.ask1
  refine ⟨?_, fun m => ?_⟩
  · rw [ask_at hn]
    have h1 := ha.ak
    have h3 := hb.ak
    have h4 := c.ask
    have h5 := hw.ask_le hx
    unfold m3 at h4
    omega
  · rw [c.ev m, ev1]
    unfold iteB
    constructor
    · intro h
      by_cases hxm : ev L x m = true
      · obtain ⟨m', h3, h4⟩ := (ha.tr m).1 hxm
        refine ⟨setM m' n.v false, fun z hz => ?_, ?_⟩
        · rw [setM_other _ _ (by rintro rfl; rw [hv] at hz; cases hz)]
          exact h3 z hz
        · have := hw.low m' h2 hn false
          rw [this]
          simpa using h4
      · rw [if_neg hxm] at h
        obtain ⟨m', h3, h4⟩ := (hb.tr m).1 h
        refine ⟨setM m' n.v true, fun z hz => ?_, ?_⟩
        · rw [setM_other _ _ (by rintro rfl; rw [hv] at hz; cases hz)]
          exact h3 z hz
        · have := hw.low m' h2 hn true
          rw [this]
          simpa using h4
    · rintro ⟨m', h3, h4⟩
      rw [hw.ev_node m' h2 hn] at h4
      by_cases hm : m' n.v = true
      · rw [if_pos hm] at h4
        have : ev L y m = true := (hb.tr m).2 ⟨m', h3, h4⟩
        rw [this]
        split <;> rfl
      · rw [if_neg hm] at h4
        have : ev L x m = true := (ha.tr m).2 ⟨m', h3, h4⟩
        rw [if_pos this]
theorem RE.bound (hw : WF V L) {j x y r : Nat} {n : Nd} (h2 : 2 ≤ j) (hn : L[j]? = some n) (hv : free n.v = false) (ha : RE free L n.a x) (hb : RE free L n.b y) (c : NodeIs L ⟨n.v, x, y⟩ r) : RE free L j r := by
  obtain ⟨a1, a2, a3, a4, a5, a6⟩ := hw.nd j n h2 hn
  have h1 := ha.ak
  have h3 := hb.ak
  have hev : ∀ m, ev L r m = if m n.v then ev L y m else ev L x m := by
    intro m
    rcases c with ⟨e1, e2⟩ | ⟨e1, e2, e3⟩
    · simp only at e1 e2
      rw [e2, ← e1]
      split <;> rfl
    · exact hw.ev_node m e2 e3
  refine ⟨?_, fun m => ?_⟩
  · rw [ask_at hn]
    rcases c with ⟨e1, e2⟩ | ⟨e1, e2, e3⟩
    · simp only at e1 e2
      rw [e2]; omega
    · rw [ask_at e3]; exact Nat.le_refl _
  · rw [hev m]
    constructor
    · intro h
      by_cases hm : m n.v = true
      · rw [if_pos hm] at h
        obtain ⟨m', h4, h5⟩ := (hb.tr m).1 h
        exact ⟨m', h4, by rw [hw.ev_node m' h2 hn, h4 _ hv, if_pos hm]; exact h5⟩
      · rw [if_neg hm] at h
        obtain ⟨m', h4, h5⟩ := (ha.tr m).1 h
        exact ⟨m', h4, by rw [hw.ev_node m' h2 hn, h4 _ hv, if_neg hm]; exact h5⟩
    · rintro ⟨m', h4, h5⟩
      rw [hw.ev_node m' h2 hn, h4 _ hv] at h5
      by_cases hm : m n.v = true
      · rw [if_pos hm] at h5 ⊢
        exact (hb.tr m).2 ⟨m', h4, h5⟩
      · rw [if_neg hm] at h5 ⊢
        exact (ha.tr m).2 ⟨m', h4, h5⟩
/-- With other variables. -/
def RN (to : Nat → Nat) (L : List Nd) (j r : Nat) : Prop := ∀ m, ev L r m = ev L j (fun x => m (to x))
theorem RN.mono {to : Nat → Nat} (hw : WF V L) (hw' : WF V (L ++ K)) {j r : Nat} (hj : j < L.length) (hr : r < L.length) (h : RN to L j r) : RN to (L ++ K) j r := fun m => by
  rw [ev_app hw hw' m r hr, ev_app hw hw' _ j hj]
  exact h m
theorem RN.zero {to : Nat → Nat} : RN to L 0 0 := fun m => by rw [ev0, ev0]
theorem RN.one {to : Nat → Nat} : RN to L 1 1 := fun m => by rw [ev1, ev1]
theorem RN.node {to : Nat → Nat} (hw : WF V L) {j x y q r : Nat} {n : Nd} (h2 : 2 ≤ j) (hn : L[j]? = some n) (ha : RN to L n.a x) (hb : RN to L n.b y) (hq : NodeIs L ⟨to n.v, 0, 1⟩ q) (c : CombIs iteB L q y x r) : RN to L j r := fun m => by
  rw [c.ev m, ha m, hb m, hw.ev_node _ h2 hn]
  have e : ev L q m = m (to n.v) := by
    rcases hq with ⟨e1, -⟩ | ⟨-, e2, e3⟩
    · cases e1
    · rw [hw.ev_node m e2 e3]
      simp only [ev0, ev1]
      cases m (to n.v) <;> rfl
  rw [e]
  rfl
end
end Go.Proofs.Ytailpphafoamfaa
namespace Go.Proofs.Ytailpphafoamfaa
open Go Go.RowKit Go.Maps


def CHO : Value := .func (.func 59) #[] #[]
theorem z65 (w : World) : (zeroValue 65).run Try.prog w = .ok (.agg #[]) w := by kernel_rfl
/-- What the closure that leaves out variables has caught. -/
structure JEx (V : Nat) (E : Env) (bq bf bc b2 : Nat) (ff : Value → Option Value) (w : World) (o : Nat → Nat) (g : SG) (D : DG) : Prop where
  V : g.V = V
  at_ : ∃ mp, CombAt w o D.d E mp ∧ (D.full = true ∨ DoneOk iteB (lst g D) mp)
  cq : w.cell? ⟨bq, 0, none⟩ = some (.map (some bf))
  cc : w.cell? ⟨bc, 0, none⟩ = some (combV E)
  c2 : w.cell? ⟨b2, 0, none⟩ = some (.pointer (some ⟨D.d, 0, none⟩))
  mf : MapIs 21 w bf ff
  oq : o bq = 0
  oc : o bc = 0
  o2 : o b2 = 0
  of_ : o bf = 0
section
variable {V : Nat} {E : Env} {bq bf bc b2 : Nat} {ff : Value → Option Value} {free : Nat → Bool} {w w' : World} {o o' : Nat → Nat} {g g' : SG} {D D' : DG}
theorem JEx.keeps {T : Nat → Bool} (h : JEx V E bq bf bc b2 ff w o g D) (k : Keep T w o w' o') (t0 : T 0 = false) (t7 : T 7 = false) : JEx V E bq bf bc b2 ff w' o' g D := by
  obtain ⟨mp, h1, h2⟩ := h.at_
  exact ⟨h.V, ⟨mp, h1.keep k t0 t7, h2⟩, (k.box h.cq h.oq t0).1, (k.box h.cc h.oc t0).1, (k.box h.c2 h.o2 t0).1, h.mf.move (k.blk _ h.mf.lt (by rw [h.of_]; exact t0)), (k.box h.cq h.oq t0).2, (k.box h.cc h.oc t0).2, (k.box h.c2 h.o2 t0).2, (k.own _ h.mf.lt).trans h.of_⟩
/-- Behind a call that keeps what isn't the draft's. -/
theorem JEx.after (h : JEx V E bq bf bc b2 ff w o g D) (k : Keep Tc w o w' o') (e : Ext g D g' D') (ha : ∃ mp, CombAt w' o' D.d E mp ∧ (D'.full = true ∨ DoneOk iteB (lst g' D') mp)) : JEx V E bq bf bc b2 ff w' o' g' D' := by
  obtain ⟨mp, h1, h2⟩ := ha
  exact ⟨e.V.trans h.V, ⟨mp, by rw [e.d]; exact h1, h2⟩, (k.box h.cq h.oq rfl).1, (k.box h.cc h.oc rfl).1, by rw [e.d]; exact (k.box h.c2 h.o2 rfl).1, h.mf.move (k.blk _ h.mf.lt (by rw [h.of_]; rfl)), (k.box h.cq h.oq rfl).2, (k.box h.cc h.oc rfl).2, (k.box h.c2 h.o2 rfl).2, (k.own _ h.mf.lt).trans h.of_⟩
theorem pow_pred {V a n : Nat} (h : n + 1 ≤ 2 ^ (V - a)) : n ≤ 2 ^ V := by
  have := pow_le_V V a
  omega
set_option maxHeartbeats 8000000 in
set_option maxRecDepth 100000 in
theorem without1_free (hfv : E.fv = CHO) (hff : ∀ v : Nat, v < 256 → (ff (.int .i32 (v : Int))).isSome = free v) (hfz : ∀ v z, ff v = some z → z = .agg #[]) (hs : DS w o g D) (hj : JEx V E bq bf bc b2 ff w o g D) {j : Nat} {n : Nd} {x y : Nat} (h2 : 2 ≤ j) (hn : (lst g D)[j]? = some n) (hx : x < (lst g D).length) (hy : y < (lst g D).length) (hR : D.full = true ∨ (RE free (lst g D) n.a x ∧ RE free (lst g D) n.b y)) (hv : free n.v = true) :
    Calls Try.prog 64 #[.int .i32 (n.v : Int), .int .i32 (x : Int), .int .i32 (y : Int), .pointer (some ⟨bq, 0, none⟩), .pointer (some ⟨bc, 0, none⟩), .pointer (some ⟨b2, 0, none⟩)] w (JoinPost (JEx V E bq bf bc b2 ff) (RE free) (2 ^ V) w o g D j) := by
  have hnd := hs.wf.nd j n h2 hn
  have hbd := hs.st.bd
  have hlk := hj.mf.look K21 Try.underlying107 (z65 _) (isK21 (x := (n.v : Int)) (by omega))
  have hsm := hff n.v (by omega)
  rw [hv] at hsm
  have hz : (ff (.int .i32 (n.v : Int))).getD (.agg #[]) = .agg #[] := by
    cases hq : ff (.int .i32 (n.v : Int)) with
    | none => rfl
    | some z => exact hfz _ z hq
  rw [hsm, hz] at hlk
  have cq := hj.cq
  have cc := hj.cc
  have c2 := hj.c2
  have HS := Lib.hid hs
  have HJ := Lib.hid hj
  have HN := Lib.hid hn
  have HND := Lib.hid hnd
  have HXY := Lib.hid (show x < (lst g D).length ∧ y < (lst g D).length ∧ 2 ≤ j from ⟨hx, hy, h2⟩)
  have HRR := Lib.hid hR
  have HV := Lib.hid hv
  have HF := Lib.hid hfv
  obtain ⟨mp, hca, hdn⟩ := hj.at_
  have HCA := Lib.hid hca
  have HDN := Lib.hid hdn
  have lcc : bc < w.heap.size := lt_cell cc
  unfold combV at cc
  have HGA := Lib.hid (grown_alloc w (.cells #[] 65))
  clear hs hj hn hnd hx hy hR hv hfv hff hfz hsm hz h2 hca hdn hbd
  go_enter Try.func64, Try.ntmps64
  go_wp2_with fail
  refine (combC_any chosen_settles g.V (w.alloc (.cells #[] 65)) o g D E mp x 1 y (HS.out.grown HGA.out) (HCA.out.keep (keep_none (fun _ => false) o HGA.out) rfl rfl) (by rw [HF.out]; exact set_chosen) HDN.out HXY.out.1 (by have := HS.out.wf.two; omega) HXY.out.2.1 (by omega)).mono ?_
  rintro e w4 ⟨r, o4, g4, D4, mp4, rfl, hout⟩
  have HO := Lib.hid hout
  have hJ4 := (HJ.out.keeps (keep_none (fun _ => false) o HGA.out) rfl rfl).after hout.keep hout.ext ⟨mp4, hout.at_, hout.mp⟩
  have HR := Lib.hid (show JoinPost (JEx V E bq bf bc b2 ff) (RE free) (2 ^ V) w o g D j (.returned (.int .i32 (r : Int))) w4 from ⟨r, o4, g4, D4, rfl, hout.ds, hJ4, (keep_none _ o HGA.out).trans hout.keep, hout.ext, hout.lt, (by
    cases hfu : D4.full with
    | true => exact .inl rfl
    | false =>
      right
      have hD := full_false hout.ext hfu
      obtain ⟨ra, rb⟩ := HRR.out.resolve_left (by rw [hD]; simp)
      obtain ⟨K, hK, hw1, hw2⟩ := hout.ext.emore HS.out hout.ds
      have ci := hout.is.resolve_left (by rw [hfu]; simp)
      have hjl := (List.getElem?_eq_some_iff.1 HN.out).1
      rw [hK] at ci ⊢
      exact RE.isfree hw2 HXY.out.2.2 (by rw [List.getElem?_append_left hjl]; exact HN.out) HV.out (ra.mono hw1 hw2 (Nat.lt_trans HND.out.2.1 hjl) HXY.out.1) (rb.mono hw1 hw2 (Nat.lt_trans HND.out.2.2.1 hjl) HXY.out.2.1) (by rw [List.length_append]; have := HXY.out.1; omega) (by rw [List.length_append]; have := HXY.out.2.1; omega) ci), by
    have h1 := hout.len
    have h2 := pow_le_V g.V (m3 (lst g D) x 1 y)
    have h3 := HJ.out.V
    rw [← h3]; omega, by
    have h1 := hout.W
    have h2 := pow_le_V g.V (m3 (lst g D) x 1 y)
    have h3 := HJ.out.V
    rw [← h3]; omega⟩)
  clear hout hJ4
  go_wp2
  go_ret
  exact HR.out
set_option maxHeartbeats 8000000 in
set_option maxRecDepth 100000 in
theorem without1_bound (hfv : E.fv = CHO) (hff : ∀ v : Nat, v < 256 → (ff (.int .i32 (v : Int))).isSome = free v) (hfz : ∀ v z, ff v = some z → z = .agg #[]) (hs : DS w o g D) (hj : JEx V E bq bf bc b2 ff w o g D) {j : Nat} {n : Nd} {x y : Nat} (h2 : 2 ≤ j) (hn : (lst g D)[j]? = some n) (hx : x < (lst g D).length) (hy : y < (lst g D).length) (hR : D.full = true ∨ (RE free (lst g D) n.a x ∧ RE free (lst g D) n.b y)) (hv : free n.v = false) :
    Calls Try.prog 64 #[.int .i32 (n.v : Int), .int .i32 (x : Int), .int .i32 (y : Int), .pointer (some ⟨bq, 0, none⟩), .pointer (some ⟨bc, 0, none⟩), .pointer (some ⟨b2, 0, none⟩)] w (JoinPost (JEx V E bq bf bc b2 ff) (RE free) (2 ^ V) w o g D j) := by
  have hnd := hs.wf.nd j n h2 hn
  have hbd := hs.st.bd
  have hlk := hj.mf.look K21 Try.underlying107 (z65 _) (isK21 (x := (n.v : Int)) (by omega))
  have hsm := hff n.v (by omega)
  rw [hv] at hsm
  have hz : (ff (.int .i32 (n.v : Int))).getD (.agg #[]) = .agg #[] := by
    cases hq : ff (.int .i32 (n.v : Int)) with
    | none => rfl
    | some z => exact hfz _ z hq
  rw [hsm, hz] at hlk
  have cq := hj.cq
  have cc := hj.cc
  have c2 := hj.c2
  have HS := Lib.hid hs
  have HJ := Lib.hid hj
  have HN := Lib.hid hn
  have HND := Lib.hid hnd
  have HXY := Lib.hid (show x < (lst g D).length ∧ y < (lst g D).length ∧ 2 ≤ j from ⟨hx, hy, h2⟩)
  have HRR := Lib.hid hR
  have HV := Lib.hid hv
  have HF := Lib.hid hfv
  have HGA := Lib.hid (grown_alloc w (.cells #[] 65))
  have lc2 : b2 < w.heap.size := lt_cell c2
  clear hs hj hn hnd hx hy hR hv hfv hff hfz hsm hz h2 hbd cc
  go_enter Try.func64, Try.ntmps64
  go_wp2_with fail
  refine (node_any (n := ⟨n.v, x, y⟩) (HS.out.grown HGA.out) ⟨HXY.out.1, HXY.out.2.1, by have h1 := HND.out.1; have h2 := HS.out.st.bd; show n.v < _; omega, fun hf _ => by
    obtain ⟨ra, rb⟩ := HRR.out.resolve_left (by rw [hf]; simp)
    have h1 := ra.ak
    have h2 := rb.ak
    have h3 := HND.out
    exact ⟨h3.1, Nat.lt_of_lt_of_le h3.2.2.2.2.1 h1, Nat.lt_of_lt_of_le h3.2.2.2.2.2 h2⟩⟩).mono ?_
  rintro e w4 ⟨r, o4, g4, D4, rfl, hout⟩
  obtain ⟨mp, hca, hdn⟩ := HJ.out.at_
  have hca4 := (hca.keep (keep_none (fun _ => false) o HGA.out) rfl rfl).keep hout.keep rfl rfl
  have hdn4 : D4.full = true ∨ DoneOk iteB (lst g4 D4) mp := by
    cases hfu : D4.full with
    | true => exact .inl rfl
    | false => exact .inr (hout.ext.edone HS.out hout.ds (hdn.resolve_left (by rw [full_false hout.ext hfu]; simp)))
  have hJ4 := (HJ.out.keeps (keep_none (fun _ => false) o HGA.out) rfl rfl).after (hout.keep.more td_tc) hout.ext ⟨mp, hca4, hdn4⟩
  have HR := Lib.hid (show JoinPost (JEx V E bq bf bc b2 ff) (RE free) (2 ^ V) w o g D j (.returned (.int .i32 (r : Int))) w4 from ⟨r, o4, g4, D4, rfl, hout.ds, hJ4, (keep_none _ o HGA.out).trans (hout.keep.more td_tc), hout.ext, hout.lt, (by
    cases hfu : D4.full with
    | true => exact .inl rfl
    | false =>
      right
      have hD := full_false hout.ext hfu
      obtain ⟨ra, rb⟩ := HRR.out.resolve_left (by rw [hD]; simp)
      obtain ⟨K, hK, hw1, hw2⟩ := hout.ext.emore HS.out hout.ds
      have ci := hout.is.resolve_left (by rintro ⟨-, h2⟩; rw [hfu] at h2; cases h2)
      have hjl := (List.getElem?_eq_some_iff.1 HN.out).1
      rw [hK] at ci ⊢
      exact RE.bound hw2 HXY.out.2.2 (by rw [List.getElem?_append_left hjl]; exact HN.out) HV.out (ra.mono hw1 hw2 (Nat.lt_trans HND.out.2.1 hjl) HXY.out.1) (rb.mono hw1 hw2 (Nat.lt_trans HND.out.2.2.1 hjl) HXY.out.2.1) ci), by
    have h1 := hout.len
    have h2 := pow_pos' V
    omega, by
    have h1 := hout.W1
    have h2 := pow_pos' V
    omega⟩)
  clear hout hJ4 hca hdn hca4 hdn4
  go_wp2
  go_ret
  exact HR.out
theorem without1_join (hfv : E.fv = CHO) (hff : ∀ v : Nat, v < 256 → (ff (.int .i32 (v : Int))).isSome = free v) (hfz : ∀ v z, ff v = some z → z = .agg #[]) : JoinS 64 (.pointer (some ⟨bq, 0, none⟩)) (.pointer (some ⟨bc, 0, none⟩)) (.pointer (some ⟨b2, 0, none⟩)) (JEx V E bq bf bc b2 ff) (RE free) (2 ^ V) where
  enters := enters_of Try.func64 (by kernel_rfl) rfl
  keeps := fun h k t0 t7 => h.keeps k t0 t7
  call := fun w o g D j n x y hs hj h2 hn hx hy hR => by
    cases hv : free n.v with
    | true => exact without1_free hfv hff hfz hs hj h2 hn hx hy hR hv
    | false => exact without1_bound hfv hff hfz hs hj h2 hn hx hy hR hv
  mono := fun hw hw' hj hr h => h.mono hw hw' hj hr
  r0 := fun _ => RE.zero
  r1 := fun _ => RE.one
end

end Go.Proofs.Ytailpphafoamfaa
namespace Go.Proofs.Ytailpphafoamfaa
open Go Go.RowKit Go.Maps


def freeL (l : List Int) (v : Nat) : Bool := decide ((v : Int) ∈ l)
structure FreeOk (ff : Value → Option Value) (l : List Int) : Prop where
  from_ : ∀ v z, ff v = some z → z = .agg #[] ∧ ∃ y ∈ l, v = .int .i32 y
  to : ∀ y ∈ l, (ff (.int .i32 y)).isSome = true
theorem FreeOk.free {ff : Value → Option Value} {l : List Int} (h : FreeOk ff l) (v : Nat) : (ff (.int .i32 (v : Int))).isSome = freeL l v := by
  unfold freeL
  by_cases hv : (v : Int) ∈ l
  · rw [h.to _ hv, decide_eq_true hv]
  · rw [decide_eq_false hv]
    cases hq : ff (.int .i32 (v : Int)) with
    | none => rfl
    | some z =>
      obtain ⟨-, y, hy, e⟩ := h.from_ _ z hq
      simp at e
      rw [← e] at hy
      exact absurd hy hv
theorem FreeOk.push {ff : Value → Option Value} {l : List Int} (h : FreeOk ff l) (y : Int) : FreeOk (updV ff (.int .i32 y) (.agg #[])) (l ++ [y]) := by
  refine ⟨fun v z hz => ?_, fun x hx => ?_⟩
  · by_cases e : v = .int .i32 y
    · rw [e, updV_same] at hz
      cases hz
      exact ⟨rfl, y, by simp, e⟩
    · rw [updV_other _ _ e] at hz
      obtain ⟨h1, x, h2, h3⟩ := h.from_ v z hz
      exact ⟨h1, x, by simp [h2], h3⟩
  · by_cases e : x = y
    · rw [e, updV_same]; rfl
    · rw [updV_other _ _ (by simpa using e)]
      simp only [List.mem_append, List.mem_singleton] at hx
      exact h.to x (hx.resolve_right e)
theorem FreeOk.nil : FreeOk (fun _ => none) [] := ⟨fun v z h => (by cases h), fun y hy => (by cases hy)⟩
section
variable {w w' : World} {o o' : Nat → Nat} {g g' : SG} {D D' : DG}
def WithoutPost (w : World) (o : Nat → Nat) (g : SG) (D : DG) (l : List Int) (e : Ending) (w' : World) : Prop :=
  ∃ (R : REnv) (E : Env) (bq bf bc b2 : Nat) (ff : Value → Option Value) (o' : Nat → Nat), e = .returned (rebV R) ∧ R.jv = .func (.func 64) #[] #[.pointer (some ⟨bq, 0, none⟩), .pointer (some ⟨bc, 0, none⟩), .pointer (some ⟨b2, 0, none⟩)] ∧
    DS w' o' g D ∧ RebAt w' o' D.d R mp01 ∧ JEx g.V E bq bf bc b2 ff w' o' g D ∧ E.fv = CHO ∧ FreeOk ff l ∧ Keep (fun _ => false) w o w' o'
def exW0 (w : World) (d : Nat) : World := ((w.alloc (.cells #[.pointer (some ⟨d, 0, none⟩)] 94)).alloc (.map #[] 0)).alloc (.cells #[.map (some (w.heap.size + 1))] 107)
theorem exW0_at (w : World) (d : Nat) : w.grownBy (exW0 w d) none ∧ (exW0 w d).heap.size = w.heap.size + 3 ∧ (exW0 w d).cell? ⟨w.heap.size, 0, none⟩ = some (.pointer (some ⟨d, 0, none⟩)) ∧ MapIs 21 (exW0 w d) (w.heap.size + 1) (fun _ => none) ∧ (exW0 w d).cell? ⟨w.heap.size + 1 + 1, 0, none⟩ = some (.map (some (w.heap.size + 1))) := by
  have s1 : ∀ (w : World) (x : Obj), (w.alloc x).heap = w.heap.push x := fun _ _ => rfl
  refine ⟨grown_trans (grown_trans (grown_alloc _ _) (grown_alloc _ _)) (grown_alloc _ _), by simp [exW0], ?_, ⟨#[], 0, ?_, by simp, by simp, by simp, by simp⟩, ?_⟩
  · have : (exW0 w d).heap[w.heap.size]? = some (.cells #[.pointer (some ⟨d, 0, none⟩)] 94 (0, 0)) := by
      unfold exW0
      simp only [s1, Array.size_push, Array.getElem?_push]
      rw [if_neg (by omega), if_neg (by omega), if_pos trivial]
    exact (cell_of this).trans rfl
  · unfold exW0
    simp only [s1, Array.size_push, Array.getElem?_push]
    rw [if_neg (by omega), if_pos trivial]
  · have : (exW0 w d).heap[w.heap.size + 1 + 1]? = some (.cells #[.map (some (w.heap.size + 1))] 107 (0, 0)) := by
      unfold exW0
      simp only [s1, Array.size_push, Array.getElem?_push]
      rw [if_pos trivial]
    exact (cell_of this).trans rfl
set_option maxHeartbeats 8000000 in
set_option maxRecDepth 100000 in
theorem without_any (hs : DS w o g D) {vv : Value} {l : List Int} (hv : Nums w vv l) (hl : l.length ≤ 1000000) (hall : allB g.V l = true) : Calls Try.prog 49 #[.pointer (some ⟨D.d, 0, none⟩), vv] w (WithoutPost w o g D l) := by
  have hmm := @run_makeMap Try.prog
  have hmf : ∀ (fn : Fn) (first cap : Array Value) (w : World), (Instr.makeFunc fn first cap).run Try.prog w = .ok (.func fn first cap) w := fun _ _ _ _ => rfl
  have hze := z65
  have HW0 := Lib.hid (exW0_at w D.d)
  have HNM := Lib.hid hv
  obtain ⟨A, c, rfl, -⟩ := hv
  have HS := Lib.hid hs
  have HALL := Lib.hid hall
  have HB := Lib.hid hl
  have hbd := hs.st.bd
  have HBD := Lib.hid hbd
  obtain ⟨len, hlen⟩ : ∃ len, l.length = len := ⟨_, rfl⟩
  have HLN := Lib.hid hlen
  rw [hlen]
  clear hs hall hl hbd hlen
  go_enter Try.func49, Try.ntmps49
  go_wp2
  obtain ⟨w0, hw0⟩ : ∃ w0, exW0 w D.d = w0 := ⟨_, rfl⟩
  rw [hw0] at HW0
  change Code.wp _ _ _ _ (exW0 w D.d)
  rw [hw0]
  clear hw0
  obtain ⟨b2, hb2⟩ : ∃ b2, w.heap.size = b2 := ⟨_, rfl⟩
  obtain ⟨bq, hbq⟩ : ∃ bq, b2 + 1 + 1 = bq := ⟨_, rfl⟩
  obtain ⟨bf, hbf⟩ : ∃ bf, b2 + 1 = bf := ⟨_, rfl⟩
  rw [hb2] at HW0 ⊢
  have HSZ := Lib.hid (show w.heap.size = b2 ∧ bf = b2 + 1 ∧ bq = b2 + 2 by omega)
  rw [hbq, hbf] at HW0
  rw [hbq]
  try rw [hbf]
  clear hb2 hbq hbf
  go_loopw [12] (fun v wr => ∃ (k : Nat) (ff : Value → Option Value), v = .int .i64 (k : Int) ∧ k ≤ len ∧ Hid (MapIs 21 wr bf ff ∧ FreeOk ff (l.take k) ∧ w0.grownBy wr (some bf))) (fun v _ => len - (intOf v).toNat)
  case atStart => exact ⟨0, _, rfl, Nat.zero_le _, Lib.hid ⟨HW0.out.2.2.2.1, by simpa using FreeOk.nil, World.grownBy.refl _ _⟩⟩
  case round =>
    obtain ⟨k, ff, rfl, hk, hI⟩ := hrel
    have HI := hI
    have cq : wr.cell? ⟨bq, 0, none⟩ = some (.map (some bf)) := HI.out.2.2.cell HW0.out.2.2.2.2 (by have := HSZ.out; simp only [ne_eq, Option.some.injEq]; omega)
    by_cases hlt : k < len
    · have hkl : k < l.length := by rw [HLN.out]; exact hlt
      obtain ⟨A', c', hA', hcell⟩ := HNM.out
      rw [HLN.out] at hA'
      simp at hA'
      obtain ⟨rfl, rfl⟩ := hA'
      obtain ⟨bb, off, rfl, hbb, hcl⟩ := hcell (by intro e; rw [e] at hkl; simp at hkl)
      obtain ⟨x, hx⟩ : ∃ x, l[k]? = some x := ⟨_, List.getElem?_eq_getElem hkl⟩
      have hxb : okB g.V x = true := by
        have := HALL.out
        unfold allB at this
        rw [List.all_eq_true] at this
        exact this x (List.mem_of_getElem? hx)
      obtain ⟨y, rfl, hyV⟩ := okB_nat hxb
      have hbbs : bb ≠ bf := by
        have h1 : bb < w.heap.size := hbb
        have := HSZ.out
        omega
      have kx := HI.out.2.2.cell ((World.cell?_of_block (a := ⟨bb, off + k, none⟩) (grown_far HW0.out.1 hbb)).trans (hcl k _ hx)) (by simp only [ne_eq, Option.some.injEq]; exact hbbs)
      obtain ⟨w5, hrun, hm5, ht5⟩ := HI.out.1.store K21 Try.underlying107 (isK21 (x := (y : Int)) (by have := HBD.out; omega)) (.agg #[])
      have HI2 := Lib.hid (show MapIs 21 w5 bf (updV ff (.int .i32 (y : Int)) (.agg #[])) ∧ FreeOk (updV ff (.int .i32 (y : Int)) (.agg #[])) (l.take (k + 1)) ∧ w0.grownBy w5 (some bf) from ⟨hm5, by
        rw [List.take_succ_eq_append_getElem hkl]
        have : l[k] = (y : Int) := (List.getElem?_eq_some_iff.1 hx).2
        rw [this]
        exact HI.out.2.1.push _, grown_trans HI.out.2.2 ht5.grown⟩)
      have q1 : (k : Int) < (len : Int) := by omega
      have qw : wrap32 (y : Int) = (y : Int) := wrap32_id (by have := HBD.out; omega)
      have HLT := Lib.hid hlt
      have HK := Lib.hid (show (k : Int) ≤ 1000000 by have := HB.out; rw [HLN.out] at this; omega)
      clear hkl hcell hcl hx hxb hyV hbbs hm5 ht5 hI hlt hk hbb
      have qk := HK.out
      go_wp2
      go_roundw
      case rel => exact ⟨k + 1, _, by go_num, HLT.out, HI2⟩
      case measure => simp [intOf]; have := HLT.out; omega
    · obtain rfl : k = len := by omega
      have hgr : w.grownBy wr none := grown_out HW0.out.1 HI.out.2.2 (by have := HSZ.out; omega)
      have HG := Lib.hid hgr
      have HSR := Lib.hid (HS.out.grown hgr)
      have HFR := Lib.hid (show FreeOk ff l from by have := HI.out.2.1; rw [← HLN.out, List.take_length] at this; exact this)
      have c2 : wr.cell? ⟨b2, 0, none⟩ = some (.pointer (some ⟨D.d, 0, none⟩)) := HI.out.2.2.cell HW0.out.2.2.1 (by have := HSZ.out; simp only [ne_eq, Option.some.injEq]; omega)
      have HCB := Lib.hid (combiner_any HSR.out CHO set_chosen)
      have HC2 := Lib.hid c2
      have HCQ := Lib.hid cq
      clear hI hk hlt hgr cq
      unfold CHO at HCB
      go_wp2_with fail
      refine (HCB.out).mono ?_
      rintro e w3 ⟨E, o3, rfl, hfv, hs3, hc3, hk3⟩
      unfold combV
      have HO := Lib.hid (show ∀ b, b2 ≤ b → b < wr.heap.size → o3 b = 0 from fun b h1 h2 => (hk3.own b h2).trans (HS.out.st.new b (by have := HSZ.out; omega)))
      have HFV := Lib.hid hfv
      have HS3 := Lib.hid hs3
      have HC3 := Lib.hid hc3
      have HK3 := Lib.hid hk3
      have hbig : wr.heap.size ≤ w3.heap.size := hk3.size
      have hlr : b2 + 3 ≤ wr.heap.size := by have h1 := HI.out.2.2.size; have h2 := HW0.out.2.1; omega
      have c2' : w3.cell? ⟨b2, 0, none⟩ = some (.pointer (some ⟨D.d, 0, none⟩)) := (World.cell?_of_block (a := ⟨b2, 0, none⟩) (hk3.blk _ (by show b2 < _; omega) rfl)).trans HC2.out
      have cq' : w3.cell? ⟨bq, 0, none⟩ = some (.map (some bf)) := (World.cell?_of_block (a := ⟨bq, 0, none⟩) (hk3.blk _ (by have := HSZ.out; show bq < _; omega) rfl)).trans HCQ.out
      have mf3 : MapIs 21 w3 bf ff := HI.out.1.move (hk3.blk _ (by have := HSZ.out; omega) rfl)
      -- the box of the choosing closure
      obtain ⟨w4, hw4⟩ : ∃ w4, w3.alloc (.cells #[combV E] 100) = w4 := ⟨_, rfl⟩
      have hg4 : w3.grownBy w4 none := by rw [← hw4]; exact grown_alloc _ _
      have hcc : w4.cell? ⟨w3.heap.size, 0, none⟩ = some (combV E) := by rw [← hw4]; simp
      have HJ4 := Lib.hid (show JEx g.V E bq bf w3.heap.size b2 ff w4 o3 g D from ⟨rfl, ⟨_, hc3.keep (keep_none (fun _ => false) o3 hg4) rfl rfl, .inr (done_none _ _)⟩,
        (World.cell?_of_block (a := ⟨bq, 0, none⟩) (grown_far hg4 (lt_cell cq'))).trans cq', hcc, (World.cell?_of_block (a := ⟨b2, 0, none⟩) (grown_far hg4 (lt_cell c2'))).trans c2', mf3.move (grown_far hg4 mf3.lt),
        HO.out _ (by have := HSZ.out; omega) (by have := HSZ.out; omega), hs3.st.new _ (Nat.le_refl _), HO.out _ (Nat.le_refl _) (by omega), HO.out _ (by have := HSZ.out; omega) (by have := HSZ.out; omega)⟩)
      have HS4 := Lib.hid (hs3.grown hg4)
      have HK4 := Lib.hid (show Keep (fun _ => false) w o w4 o3 from (keep_none _ o HG.out).trans (hk3.trans (keep_none _ o3 hg4)))
      have lb2 : b2 < w3.heap.size := lt_cell c2'
      have HRB := Lib.hid (rebuilder_any HS4.out 64 (.pointer (some ⟨bq, 0, none⟩)) (.pointer (some ⟨w3.heap.size, 0, none⟩)) (.pointer (some ⟨b2, 0, none⟩)))
      have hz1 : ((w3.alloc (.cells #[.nilFunc] 100)).cell? ⟨w3.heap.size, 0, none⟩) = some .nilFunc := by simp
      have hz2 : ((w3.alloc (.cells #[.nilFunc] 100)).frozen? ⟨w3.heap.size, 0, none⟩) = false := frz_of (MapKept.heap_alloc w3 _).1
      clear hfv hs3 hc3 hk3 hbig hlr cq' mf3 hg4 hcc c2
      go_wp2_with fail
      change Calls _ _ _ (w3.alloc (.cells #[combV E] 100)) _
      rw [hw4]
      clear hw4
      refine (HRB.out).mono ?_
      rintro e w5 ⟨R, o5, rfl, hjv, hs5, ha5, hk5⟩
      have HR := Lib.hid (show WithoutPost w o g D l (.returned (rebV R)) w5 from ⟨R, E, bq, bf, w3.heap.size, b2, ff, o5, rfl, hjv, hs5, ha5, HJ4.out.keeps hk5 rfl rfl, HFV.out, HFR.out, HK4.out.trans hk5⟩)
      unfold rebV at HR
      unfold rebV
      clear hjv hs5 ha5 hk5
      go_wp2
      go_ret
      exact HR.out
end

end Go.Proofs.Ytailpphafoamfaa
namespace Go.Proofs.Ytailpphafoamfaa
open Go Go.RowKit Go.Maps


section
variable {w w' : World} {o o' : Nat → Nat} {g g' : SG} {D D' : DG}
open Classical in
noncomputable def exF (free : Nat → Bool) (F : (Nat → Bool) → Bool) (m : Nat → Bool) : Bool := decide (Some' free F m)
def bad91 (w : World) (e : Ending) (w' : World) : Prop := e = .returned (.tuple #[.int .i64 0, .int .i64 91]) ∧ w.grownBy w' none
def ExistsPost (w : World) (o : Nat → Nat) (g : SG) (f : Int) (l : List Int) (e : Ending) (w' : World) : Prop :=
  if okB g.ns.length f = true then (if allB g.V l = true then OpPost w o g (exF (freeL l) (ev g.ns f.toNat)) (2 ^ g.V * 2 ^ (g.V - ask g.ns f.toNat) - 2 ^ g.V) 0 e w' else bad91 w e w') else bad92 w e w'
theorem sub_le_room {a b c d : Nat} (h : a + c ≤ b + d) (hc : c ≤ d) : a ≤ b + (d - c) := by omega
/-- What rebuilding and keeping leave. -/
theorem op_reb {J : World → (Nat → Nat) → SG → DG → Prop} {R : List Nd → Nat → Nat → Prop} {F : (Nat → Bool) → Bool} {wa wb wc : World} {oa ob oc : Nat → Nat} {Da : DG} {E : REnv} {f r : Nat} {gc : SG} {Dc : DG} {mp : Value → Option Value} {e : Ending}
    (hk0 : Keep T0 w o wa oa) (hd : DS wa oa g Da) (hd0 : Da.ds = [] ∧ 65536 ≤ Da.most) (hk1 : Keep (fun _ => false) wa oa wb ob) (hf : f < g.ns.length)
    (hc : RebOut J R (2 ^ g.V) wb ob g Da E f r wc oc gc Dc mp) (hRF : ∀ L K, WF g.V L → L = g.ns ++ K → R L f r → ∀ m, ev L r m = F m) (hp : KeepPost wc oc gc Dc r e w') : OpPost w o g F (2 ^ g.V * 2 ^ (g.V - ask g.ns f) - 2 ^ g.V) 0 e w' := by
  have hl0 : lst g Da = g.ns := by unfold lst; rw [hd0.1, List.append_nil]
  have h1 := hc.len
  have h2 := hc.W
  rw [hd0.1, hl0] at h1
  rw [hl0] at h2
  simp only [List.length_nil] at h1
  have h5 : Dc.ds.length ≤ 2 ^ g.V * 2 ^ (g.V - ask g.ns f) - 2 ^ g.V := Nat.le_sub_of_add_le (by rw [Nat.zero_add] at h1; exact h1)
  have h6 : gc.W ≤ g.W + (2 ^ g.V * 2 ^ (g.V - ask g.ns f) - 2 ^ g.V) := sub_le_room h2 (Nat.le_mul_of_pos_right _ (pow_pos' _))
  refine op_of_keep hk0 hd rfl hd0 ((hk1.more (t0_of rfl)).trans (hc.keep.more (t0_of rfl))) hc.ds hc.ext h5 h6 hc.ext.W (fun hfu m => ?_) hp
  have h4 := hc.is.resolve_left (by rw [hfu]; simp)
  obtain ⟨K, hK⟩ := hc.ext.ex
  rw [hl0] at hK
  have hwf := hc.ds.wf
  rw [hc.ext.V] at hwf
  exact hRF _ K hwf hK h4 m
open Classical in
theorem re_F {L ns K : List Nd} {V : Nat} {free : Nat → Bool} {f r : Nat} (hns : WF V ns) (hw : WF V L) (hL : L = ns ++ K) (hf : f < ns.length) (h : RE free L f r) (m : Nat → Bool) : ev L r m = exF free (ev ns f) m := by
  unfold exF
  rw [Bool.eq_iff_iff, h.tr m, decide_eq_true_eq]
  subst hL
  constructor
  · rintro ⟨m', h1, h2⟩
    exact ⟨m', h1, by rw [ev_app hns hw m' f hf] at h2; exact h2⟩
  · rintro ⟨m', h1, h2⟩
    exact ⟨m', h1, by rw [ev_app hns hw m' f hf]; exact h2⟩
set_option maxHeartbeats 8000000 in
set_option maxRecDepth 100000 in
theorem exists_bad92 (h : StoreAt w o g) (f : Int) (hv : okB g.ns.length f = false) {vv : Value} {l : List Int} (hl : Nums w vv l) : Calls Try.prog 28 #[.pointer (some ⟨g.s, 0, none⟩), .int .i64 f, vv] w (ExistsPost w o g f l) := by
  have HV := Lib.hid (hasNodes_any (h.alloc (.cells #[.int .i64 f] 3)) (nums_one w f) (by simp))
  have e0 : allB g.ns.length [f] = false := by simp [allB, hv]
  rw [e0] at HV
  have HE := Lib.hid (show ExistsPost w o g f l (.returned (.tuple #[.int .i64 0, .int .i64 92])) (w.alloc (.cells #[.int .i64 f] 3)) from by
    unfold ExistsPost
    rw [if_neg (by rw [hv]; simp)]
    exact ⟨rfl, grown_alloc _ _⟩)
  have hnot : ∀ (x : Bool) (w : World), (Op.unary .not (.bool x)).run Try.prog w = .ok (.bool (!x)) w := fun _ _ => rfl
  obtain ⟨A, c, rfl, -⟩ := hl
  clear h hv e0
  go_enter Try.func28, Try.ntmps28
  go_wp2_with fail
  refine (HV.out).mono ?_
  rintro e w1 ⟨rfl, rfl⟩
  go_wp2
  go_ret2
  exact HE.out
set_option maxHeartbeats 8000000 in
set_option maxRecDepth 100000 in
theorem exists_bad91 (h : StoreAt w o g) (f : Int) (hv : okB g.ns.length f = true) {vv : Value} {l : List Int} (hl : Nums w vv l) (hll : l.length ≤ 1000000) (hall : allB g.V l = false) : Calls Try.prog 28 #[.pointer (some ⟨g.s, 0, none⟩), .int .i64 f, vv] w (ExistsPost w o g f l) := by
  have HV := Lib.hid (hasNodes_any (h.alloc (.cells #[.int .i64 f] 3)) (nums_one w f) (by simp))
  have e0 : allB g.ns.length [f] = true := by simp [allB, hv]
  rw [e0] at HV
  have HQ := Lib.hid (hasVars_any (h.alloc (.cells #[.int .i64 f] 3)) (hl.grown (grown_alloc w (.cells #[.int .i64 f] 3))) hll)
  rw [hall] at HQ
  have HE := Lib.hid (show ExistsPost w o g f l (.returned (.tuple #[.int .i64 0, .int .i64 91])) (w.alloc (.cells #[.int .i64 f] 3)) from by
    unfold ExistsPost
    rw [if_pos hv, if_neg (by rw [hall]; simp)]
    exact ⟨rfl, grown_alloc _ _⟩)
  have hnot : ∀ (x : Bool) (w : World), (Op.unary .not (.bool x)).run Try.prog w = .ok (.bool (!x)) w := fun _ _ => rfl
  obtain ⟨A, c, rfl, -⟩ := hl
  clear h hv e0 hall hll
  go_enter Try.func28, Try.ntmps28
  go_wp2_with fail
  refine (HV.out).mono ?_
  rintro e w1 ⟨rfl, rfl⟩
  go_wp2_with fail
  refine (HQ.out).mono ?_
  rintro e w1 ⟨rfl, rfl⟩
  go_wp2
  go_ret2
  exact HE.out
set_option maxHeartbeats 8000000 in
set_option maxRecDepth 100000 in
theorem exists_good (h : StoreAt w o g) (f : Nat) (hf : f < g.ns.length) {vv : Value} {l : List Int} (hl : Nums w vv l) (hll : l.length ≤ 1000000) (hall : allB g.V l = true) : Calls Try.prog 28 #[.pointer (some ⟨g.s, 0, none⟩), .int .i64 (f : Int), vv] w (ExistsPost w o g (f : Int) l) := by
  have HV := Lib.hid (hasNodes_any (h.alloc (.cells #[.int .i64 (f : Int)] 3)) (nums_one w (f : Int)) (by simp))
  have e1 := okB_of hf
  have e0 : allB g.ns.length [(f : Int)] = true := by simp [allB, e1]
  rw [e0] at HV
  have HQ := Lib.hid (hasVars_any (h.alloc (.cells #[.int .i64 (f : Int)] 3)) (hl.grown (grown_alloc w (.cells #[.int .i64 (f : Int)] 3))) hll)
  rw [hall] at HQ
  have HNL := Lib.hid (hl.grown (grown_alloc w (.cells #[.int .i64 (f : Int)] 3)))
  have HDR := Lib.hid (draft_any (h.alloc (.cells #[.int .i64 (f : Int)] 3)))
  have HE := Lib.hid e1
  have HALL := Lib.hid hall
  have HLL := Lib.hid hll
  have hbd := h.bd
  have qw : wrap32 (f : Int) = (f : Int) := wrap32_id (by omega)
  have HH := Lib.hid h
  have HF := Lib.hid hf
  have hnot : ∀ (x : Bool) (w : World), (Op.unary .not (.bool x)).run Try.prog w = .ok (.bool (!x)) w := fun _ _ => rfl
  obtain ⟨A, c, rfl, -⟩ := hl
  clear h e0 e1 hall hll hbd hf
  go_enter Try.func28, Try.ntmps28
  go_wp2_with fail
  refine (HV.out).mono ?_
  rintro e w1 ⟨rfl, rfl⟩
  go_wp2_with fail
  refine (HQ.out).mono ?_
  rintro e w1 ⟨rfl, rfl⟩
  go_wp2_with fail
  refine (HDR.out).mono ?_
  rintro e w2 ⟨d, dm, o2, rfl, hst, hdr, hk⟩
  have HS2 := Lib.hid (show DS w2 o2 g _ from ⟨hst, hdr⟩)
  have HK2 := Lib.hid (show Keep T0 w o w2 o2 from (keep_alloc T0 w o _).trans (hk.more (t0_of rfl)))
  have HN2 := Lib.hid (HNL.out.keep (fun k hk2 => hk.blk k hk2 rfl) hk.size)
  clear hst hdr hk
  have HWT := Lib.hid (without_any HS2.out HN2.out HLL.out HALL.out)
  go_wp2_with fail
  refine (HWT.out).mono ?_
  rintro e w3 ⟨R, E, bq, bf, bc, b2, ff, o3, rfl, hjv, hs3, ha3, hj3, hfv, hfr, hk3⟩
  have HK3 := Lib.hid hk3
  have HJS := Lib.hid (without1_join (V := g.V) (bq := bq) (bf := bf) (bc := bc) (b2 := b2) (free := freeL l) hfv (fun v _ => hfr.free v) (fun v z hz => (hfr.from_ v z hz).1))
  have HRB := Lib.hid (reb_any HJS.out f w3 o3 g _ R mp01 hs3 hj3 ha3 hjv (rdone_start HJS.out hs3.wf _) (by unfold lst; simp; exact HF.out))
  clear hjv hs3 ha3 hj3 hfv hfr hk3
  unfold rebV
  go_wp2_with fail
  refine (HRB.out).mono ?_
  rintro e w4 ⟨r, o4, g4, D4, mp4, rfl, hout⟩
  have HO := Lib.hid hout
  have hkp := keep_any hout.ds hout.lt
  rw [hout.ext.d] at hkp
  have HKP := Lib.hid hkp
  clear hout hkp
  go_wp2_with fail
  refine (HKP.out).mono ?_
  intro e w5 hp
  have hop := op_reb (F := exF (freeL l) (ev g.ns f)) HK2.out HS2.out ⟨rfl, Nat.le_max_left _ _⟩ HK3.out HF.out HO.out (fun L K hw hL hR m => re_F HH.out.wf hw hL HF.out hR m) hp
  have HFIN := Lib.hid (show ExistsPost w o g (f : Int) l e w5 from by
    unfold ExistsPost
    rw [if_pos HE.out, if_pos HALL.out]
    exact hop)
  clear hop
  rcases hp with ⟨rfl, -⟩ | ⟨r', o', g', rfl, -⟩
  · go_wp2
    go_ret2
    exact HFIN.out
  · go_wp2
    go_ret2
    exact HFIN.out
theorem exists_any (h : StoreAt w o g) (f : Int) {vv : Value} {l : List Int} (hl : Nums w vv l) (hll : l.length ≤ 1000000) : Calls Try.prog 28 #[.pointer (some ⟨g.s, 0, none⟩), .int .i64 f, vv] w (ExistsPost w o g f l) := by
  cases hv : okB g.ns.length f with
  | false => exact exists_bad92 h f hv hl
  | true =>
    cases hall : allB g.V l with
    | false => exact exists_bad91 h f hv hl hll hall
    | true =>
      obtain ⟨k, rfl, hk⟩ := okB_nat hv
      exact exists_good h k hk hl hll hall
end

end Go.Proofs.Ytailpphafoamfaa
