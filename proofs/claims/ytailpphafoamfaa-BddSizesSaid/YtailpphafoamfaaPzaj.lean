/- What is true where a diagram can be; what is true of a diagram with other variables: the mathematics. What leaves out variables. Leaving out variables, whatever they are. What is true where a diagram can be. The first way in which a diagram is true; in how many ways it is. The first way in which a diagram is true. In how many ways a diagram is true. -/
import Derived.Test.YtailpphafoamfaaPzai
set_option linter.all false
namespace Go.Proofs.Ytailpphafoamfaa

/-- Some way in which the free variables are somehow. -/
def Some' (free : Nat → Bool) (F : (Nat → Bool) → Bool) (m : Nat → Bool) : Prop := ∃ m', (∀ x, free x = false → m' x = m x) ∧ F m' = true
structure RE (free : Nat → Bool) (L : List Nd) (j r : Nat) : Prop where
  ak : ask L j ≤ ask L r
  tr : ∀ m, ev L r m = true ↔ Some' free (ev L j) m
section
variable {V : Nat} {L K : List Nd} {free : Nat → Bool}
theorem RE.mono (hw : WF V L) (hw' : WF V (L ++ K)) {j r : Nat} (hj : j < L.length) (hr : r < L.length) (h : RE free L j r) : RE free (L ++ K) j r := by
  refine ⟨by rw [ask_app hj, ask_app hr]; exact h.ak, fun m => ?_⟩
  rw [ev_app hw hw' m r hr, h.tr m]
  constructor
  · rintro ⟨m', h1, h2⟩
    exact ⟨m', h1, by rw [ev_app hw hw' m' j hj]; exact h2⟩
  · rintro ⟨m', h1, h2⟩
    exact ⟨m', h1, by rw [ev_app hw hw' m' j hj] at h2; exact h2⟩
theorem RE.zero : RE free L 0 0 := ⟨Nat.le_refl _, fun m => by
  constructor
  · intro h; rw [ev0] at h; cases h
  · rintro ⟨m', -, h2⟩; rw [ev0] at h2; cases h2⟩
theorem RE.one : RE free L 1 1 := ⟨Nat.le_refl _, fun m => ⟨fun _ => ⟨m, fun _ _ => rfl, ev1 m⟩, fun _ => ev1 m⟩⟩
theorem RE.isfree (hw : WF V L) {j x y r : Nat} {n : Nd} (h2 : 2 ≤ j) (hn : L[j]? = some n) (hv : free n.v = true) (ha : RE free L n.a x) (hb : RE free L n.b y) (hx : x < L.length) (hy : y < L.length) (c : CombIs iteB L x 1 y r) : RE free L j r := by
  obtain ⟨a1, a2, a3, a4, a5, a6⟩ := hw.nd j n h2 hn
  have hj := (List.getElem?_eq_some_iff.1 hn).1
  have e1 := hw.ask1
  refine ⟨?_, fun m => ?_⟩
  · rw [ask_at hn]
    have h1 := ha.ak
    have h3 := hb.ak
    have h4 := c.ask
    have h5 := hw.ask_le hx
    unfold m3 at h4
    omega
  · rw [c.ev m, ev1]
    unfold iteB
    constructor
    · intro h
      by_cases hxm : ev L x m = true
      · obtain ⟨m', h3, h4⟩ := (ha.tr m).1 hxm
        refine ⟨setM m' n.v false, fun z hz => ?_, ?_⟩
        · rw [setM_other _ _ (by rintro rfl; rw [hv] at hz; cases hz)]
          exact h3 z hz
        · have := hw.low m' h2 hn false
          rw [this]
          simpa using h4
      · rw [if_neg hxm] at h
        obtain ⟨m', h3, h4⟩ := (hb.tr m).1 h
        refine ⟨setM m' n.v true, fun z hz => ?_, ?_⟩
        · rw [setM_other _ _ (by rintro rfl; rw [hv] at hz; cases hz)]
          exact h3 z hz
        · have := hw.low m' h2 hn true
          rw [this]
          simpa using h4
    · rintro ⟨m', h3, h4⟩
      rw [hw.ev_node m' h2 hn] at h4
      by_cases hm : m' n.v = true
      · rw [if_pos hm] at h4
        have : ev L y m = true := (hb.tr m).2 ⟨m', h3, h4⟩
        rw [this]
        split <;> rfl
      · rw [if_neg hm] at h4
        have : ev L x m = true := (ha.tr m).2 ⟨m', h3, h4⟩
        rw [if_pos this]
theorem RE.bound (hw : WF V L) {j x y r : Nat} {n : Nd} (h2 : 2 ≤ j) (hn : L[j]? = some n) (hv : free n.v = false) (ha : RE free L n.a x) (hb : RE free L n.b y) (c : NodeIs L ⟨n.v, x, y⟩ r) : RE free L j r := by
  obtain ⟨a1, a2, a3, a4, a5, a6⟩ := hw.nd j n h2 hn
  have h1 := ha.ak
  have h3 := hb.ak
  have hev : ∀ m, ev L r m = if m n.v then ev L y m else ev L x m := by
    intro m
    rcases c with ⟨e1, e2⟩ | ⟨e1, e2, e3⟩
    · simp only at e1 e2
      rw [e2, ← e1]
      split <;> rfl
    · exact hw.ev_node m e2 e3
  refine ⟨?_, fun m => ?_⟩
  · rw [ask_at hn]
    rcases c with ⟨e1, e2⟩ | ⟨e1, e2, e3⟩
    · simp only at e1 e2
      rw [e2]; omega
    · rw [ask_at e3]; exact Nat.le_refl _
  · rw [hev m]
    constructor
    · intro h
      by_cases hm : m n.v = true
      · rw [if_pos hm] at h
        obtain ⟨m', h4, h5⟩ := (hb.tr m).1 h
        exact ⟨m', h4, by rw [hw.ev_node m' h2 hn, h4 _ hv, if_pos hm]; exact h5⟩
      · rw [if_neg hm] at h
        obtain ⟨m', h4, h5⟩ := (ha.tr m).1 h
        exact ⟨m', h4, by rw [hw.ev_node m' h2 hn, h4 _ hv, if_neg hm]; exact h5⟩
    · rintro ⟨m', h4, h5⟩
      rw [hw.ev_node m' h2 hn, h4 _ hv] at h5
      by_cases hm : m n.v = true
      · rw [if_pos hm] at h5 ⊢
        exact (hb.tr m).2 ⟨m', h4, h5⟩
      · rw [if_neg hm] at h5 ⊢
        exact (ha.tr m).2 ⟨m', h4, h5⟩
/-- With other variables. -/
def RN (to : Nat → Nat) (L : List Nd) (j r : Nat) : Prop := ∀ m, ev L r m = ev L j (fun x => m (to x))
theorem RN.mono {to : Nat → Nat} (hw : WF V L) (hw' : WF V (L ++ K)) {j r : Nat} (hj : j < L.length) (hr : r < L.length) (h : RN to L j r) : RN to (L ++ K) j r := fun m => by
  rw [ev_app hw hw' m r hr, ev_app hw hw' _ j hj]
  exact h m
theorem RN.zero {to : Nat → Nat} : RN to L 0 0 := fun m => by rw [ev0, ev0]
theorem RN.one {to : Nat → Nat} : RN to L 1 1 := fun m => by rw [ev1, ev1]
theorem RN.node {to : Nat → Nat} (hw : WF V L) {j x y q r : Nat} {n : Nd} (h2 : 2 ≤ j) (hn : L[j]? = some n) (ha : RN to L n.a x) (hb : RN to L n.b y) (hq : NodeIs L ⟨to n.v, 0, 1⟩ q) (c : CombIs iteB L q y x r) : RN to L j r := fun m => by
  rw [c.ev m, ha m, hb m, hw.ev_node _ h2 hn]
  have e : ev L q m = m (to n.v) := by
    rcases hq with ⟨e1, -⟩ | ⟨-, e2, e3⟩
    · cases e1
    · rw [hw.ev_node m e2 e3]
      simp only [ev0, ev1]
      cases m (to n.v) <;> rfl
  rw [e]
  rfl
end
end Go.Proofs.Ytailpphafoamfaa
namespace Go.Proofs.Ytailpphafoamfaa
open Go Go.RowKit Go.Maps


def CHO : Value := .func (.func 59) #[] #[]
theorem z65 (w : World) : (zeroValue 65).run Try.prog w = .ok (.agg #[]) w := by kernel_rfl
/-- What the closure that leaves out variables has caught. -/
structure JEx (V : Nat) (E : Env) (bq bf bc b2 : Nat) (ff : Value → Option Value) (w : World) (o : Nat → Nat) (g : SG) (D : DG) : Prop where
  V : g.V = V
  at_ : ∃ mp, CombAt w o D.d E mp ∧ (D.full = true ∨ DoneOk iteB (lst g D) mp)
  cq : w.cell? ⟨bq, 0, none⟩ = some (.map (some bf))
  cc : w.cell? ⟨bc, 0, none⟩ = some (combV E)
  c2 : w.cell? ⟨b2, 0, none⟩ = some (.pointer (some ⟨D.d, 0, none⟩))
  mf : MapIs 21 w bf ff
  oq : o bq = 0
  oc : o bc = 0
  o2 : o b2 = 0
  of_ : o bf = 0
section
variable {V : Nat} {E : Env} {bq bf bc b2 : Nat} {ff : Value → Option Value} {free : Nat → Bool} {w w' : World} {o o' : Nat → Nat} {g g' : SG} {D D' : DG}
theorem JEx.keeps {T : Nat → Bool} (h : JEx V E bq bf bc b2 ff w o g D) (k : Keep T w o w' o') (t0 : T 0 = false) (t7 : T 7 = false) : JEx V E bq bf bc b2 ff w' o' g D := by
  obtain ⟨mp, h1, h2⟩ := h.at_
  exact ⟨h.V, ⟨mp, h1.keep k t0 t7, h2⟩, (k.box h.cq h.oq t0).1, (k.box h.cc h.oc t0).1, (k.box h.c2 h.o2 t0).1, h.mf.move (k.blk _ h.mf.lt (by rw [h.of_]; exact t0)), (k.box h.cq h.oq t0).2, (k.box h.cc h.oc t0).2, (k.box h.c2 h.o2 t0).2, (k.own _ h.mf.lt).trans h.of_⟩
/-- Behind a call that keeps what isn't the draft's. -/
theorem JEx.after (h : JEx V E bq bf bc b2 ff w o g D) (k : Keep Tc w o w' o') (e : Ext g D g' D') (ha : ∃ mp, CombAt w' o' D.d E mp ∧ (D'.full = true ∨ DoneOk iteB (lst g' D') mp)) : JEx V E bq bf bc b2 ff w' o' g' D' := by
  obtain ⟨mp, h1, h2⟩ := ha
  exact ⟨e.V.trans h.V, ⟨mp, by rw [e.d]; exact h1, h2⟩, (k.box h.cq h.oq rfl).1, (k.box h.cc h.oc rfl).1, by rw [e.d]; exact (k.box h.c2 h.o2 rfl).1, h.mf.move (k.blk _ h.mf.lt (by rw [h.of_]; rfl)), (k.box h.cq h.oq rfl).2, (k.box h.cc h.oc rfl).2, (k.box h.c2 h.o2 rfl).2, (k.own _ h.mf.lt).trans h.of_⟩
theorem pow_pred {V a n : Nat} (h : n + 1 ≤ 2 ^ (V - a)) : n ≤ 2 ^ V := by
  have := pow_le_V V a
  omega
set_option maxHeartbeats 8000000 in
set_option maxRecDepth 100000 in
theorem without1_free (hfv : E.fv = CHO) (hff : ∀ v : Nat, v < 256 → (ff (.int .i32 (v : Int))).isSome = free v) (hfz : ∀ v z, ff v = some z → z = .agg #[]) (hs : DS w o g D) (hj : JEx V E bq bf bc b2 ff w o g D) {j : Nat} {n : Nd} {x y : Nat} (h2 : 2 ≤ j) (hn : (lst g D)[j]? = some n) (hx : x < (lst g D).length) (hy : y < (lst g D).length) (hR : D.full = true ∨ (RE free (lst g D) n.a x ∧ RE free (lst g D) n.b y)) (hv : free n.v = true) :
    Calls Try.prog 64 #[.int .i32 (n.v : Int), .int .i32 (x : Int), .int .i32 (y : Int), .pointer (some ⟨bq, 0, none⟩), .pointer (some ⟨bc, 0, none⟩), .pointer (some ⟨b2, 0, none⟩)] w (JoinPost (JEx V E bq bf bc b2 ff) (RE free) (2 ^ V) w o g D j) := by
  have hnd := hs.wf.nd j n h2 hn
  have hbd := hs.st.bd
  have hlk := hj.mf.look K21 Try.underlying107 (z65 _) (isK21 (x := (n.v : Int)) (by omega))
  have hsm := hff n.v (by omega)
  rw [hv] at hsm
  have hz : (ff (.int .i32 (n.v : Int))).getD (.agg #[]) = .agg #[] := by
    cases hq : ff (.int .i32 (n.v : Int)) with
    | none => rfl
    | some z => exact hfz _ z hq
  rw [hsm, hz] at hlk
  have cq := hj.cq
  have cc := hj.cc
  have c2 := hj.c2
  have HS := Lib.hid hs
  have HJ := Lib.hid hj
  have HN := Lib.hid hn
  have HND := Lib.hid hnd
  have HXY := Lib.hid (show x < (lst g D).length ∧ y < (lst g D).length ∧ 2 ≤ j from ⟨hx, hy, h2⟩)
  have HRR := Lib.hid hR
  have HV := Lib.hid hv
  have HF := Lib.hid hfv
  obtain ⟨mp, hca, hdn⟩ := hj.at_
  have HCA := Lib.hid hca
  have HDN := Lib.hid hdn
  have lcc : bc < w.heap.size := lt_cell cc
  unfold combV at cc
  have HGA := Lib.hid (grown_alloc w (.cells #[] 65))
  clear hs hj hn hnd hx hy hR hv hfv hff hfz hsm hz h2 hca hdn hbd
  go_enter Try.func64, Try.ntmps64
  go_wp2_with fail
  refine (combC_any chosen_settles g.V (w.alloc (.cells #[] 65)) o g D E mp x 1 y (HS.out.grown HGA.out) (HCA.out.keep (keep_none (fun _ => false) o HGA.out) rfl rfl) (by rw [HF.out]; exact set_chosen) HDN.out HXY.out.1 (by have := HS.out.wf.two; omega) HXY.out.2.1 (by omega)).mono ?_
  rintro e w4 ⟨r, o4, g4, D4, mp4, rfl, hout⟩
  have HO := Lib.hid hout
  have hJ4 := (HJ.out.keeps (keep_none (fun _ => false) o HGA.out) rfl rfl).after hout.keep hout.ext ⟨mp4, hout.at_, hout.mp⟩
  have HR := Lib.hid (show JoinPost (JEx V E bq bf bc b2 ff) (RE free) (2 ^ V) w o g D j (.returned (.int .i32 (r : Int))) w4 from ⟨r, o4, g4, D4, rfl, hout.ds, hJ4, (keep_none _ o HGA.out).trans hout.keep, hout.ext, hout.lt, (by
    cases hfu : D4.full with
    | true => exact .inl rfl
    | false =>
      right
      have hD := full_false hout.ext hfu
      obtain ⟨ra, rb⟩ := HRR.out.resolve_left (by rw [hD]; simp)
      obtain ⟨K, hK, hw1, hw2⟩ := hout.ext.emore HS.out hout.ds
      have ci := hout.is.resolve_left (by rw [hfu]; simp)
      have hjl := (List.getElem?_eq_some_iff.1 HN.out).1
      rw [hK] at ci ⊢
      exact RE.isfree hw2 HXY.out.2.2 (by rw [List.getElem?_append_left hjl]; exact HN.out) HV.out (ra.mono hw1 hw2 (Nat.lt_trans HND.out.2.1 hjl) HXY.out.1) (rb.mono hw1 hw2 (Nat.lt_trans HND.out.2.2.1 hjl) HXY.out.2.1) (by rw [List.length_append]; have := HXY.out.1; omega) (by rw [List.length_append]; have := HXY.out.2.1; omega) ci), by
    have h1 := hout.len
    have h2 := pow_le_V g.V (m3 (lst g D) x 1 y)
    have h3 := HJ.out.V
    rw [← h3]; omega, by
    have h1 := hout.W
    have h2 := pow_le_V g.V (m3 (lst g D) x 1 y)
    have h3 := HJ.out.V
    rw [← h3]; omega⟩)
  clear hout hJ4
  go_wp2
  go_ret
  exact HR.out
set_option maxHeartbeats 8000000 in
set_option maxRecDepth 100000 in
theorem without1_bound (hfv : E.fv = CHO) (hff : ∀ v : Nat, v < 256 → (ff (.int .i32 (v : Int))).isSome = free v) (hfz : ∀ v z, ff v = some z → z = .agg #[]) (hs : DS w o g D) (hj : JEx V E bq bf bc b2 ff w o g D) {j : Nat} {n : Nd} {x y : Nat} (h2 : 2 ≤ j) (hn : (lst g D)[j]? = some n) (hx : x < (lst g D).length) (hy : y < (lst g D).length) (hR : D.full = true ∨ (RE free (lst g D) n.a x ∧ RE free (lst g D) n.b y)) (hv : free n.v = false) :
    Calls Try.prog 64 #[.int .i32 (n.v : Int), .int .i32 (x : Int), .int .i32 (y : Int), .pointer (some ⟨bq, 0, none⟩), .pointer (some ⟨bc, 0, none⟩), .pointer (some ⟨b2, 0, none⟩)] w (JoinPost (JEx V E bq bf bc b2 ff) (RE free) (2 ^ V) w o g D j) := by
  have hnd := hs.wf.nd j n h2 hn
  have hbd := hs.st.bd
  have hlk := hj.mf.look K21 Try.underlying107 (z65 _) (isK21 (x := (n.v : Int)) (by omega))
  have hsm := hff n.v (by omega)
  rw [hv] at hsm
  have hz : (ff (.int .i32 (n.v : Int))).getD (.agg #[]) = .agg #[] := by
    cases hq : ff (.int .i32 (n.v : Int)) with
    | none => rfl
    | some z => exact hfz _ z hq
  rw [hsm, hz] at hlk
  have cq := hj.cq
  have cc := hj.cc
  have c2 := hj.c2
  have HS := Lib.hid hs
  have HJ := Lib.hid hj
  have HN := Lib.hid hn
  have HND := Lib.hid hnd
  have HXY := Lib.hid (show x < (lst g D).length ∧ y < (lst g D).length ∧ 2 ≤ j from ⟨hx, hy, h2⟩)
  have HRR := Lib.hid hR
  have HV := Lib.hid hv
  have HF := Lib.hid hfv
  have HGA := Lib.hid (grown_alloc w (.cells #[] 65))
  have lc2 : b2 < w.heap.size := lt_cell c2
  clear hs hj hn hnd hx hy hR hv hfv hff hfz hsm hz h2 hbd cc
  go_enter Try.func64, Try.ntmps64
  go_wp2_with fail
  refine (node_any (n := ⟨n.v, x, y⟩) (HS.out.grown HGA.out) ⟨HXY.out.1, HXY.out.2.1, by have h1 := HND.out.1; have h2 := HS.out.st.bd; show n.v < _; omega, fun hf _ => by
    obtain ⟨ra, rb⟩ := HRR.out.resolve_left (by rw [hf]; simp)
    have h1 := ra.ak
    have h2 := rb.ak
    have h3 := HND.out
    exact ⟨h3.1, Nat.lt_of_lt_of_le h3.2.2.2.2.1 h1, Nat.lt_of_lt_of_le h3.2.2.2.2.2 h2⟩⟩).mono ?_
  rintro e w4 ⟨r, o4, g4, D4, rfl, hout⟩
  obtain ⟨mp, hca, hdn⟩ := HJ.out.at_
  have hca4 := (hca.keep (keep_none (fun _ => false) o HGA.out) rfl rfl).keep hout.keep rfl rfl
  have hdn4 : D4.full = true ∨ DoneOk iteB (lst g4 D4) mp := by
    cases hfu : D4.full with
    | true => exact .inl rfl
    | false => exact .inr (hout.ext.edone HS.out hout.ds (hdn.resolve_left (by rw [full_false hout.ext hfu]; simp)))
  have hJ4 := (HJ.out.keeps (keep_none (fun _ => false) o HGA.out) rfl rfl).after (hout.keep.more td_tc) hout.ext ⟨mp, hca4, hdn4⟩
  have HR := Lib.hid (show JoinPost (JEx V E bq bf bc b2 ff) (RE free) (2 ^ V) w o g D j (.returned (.int .i32 (r : Int))) w4 from ⟨r, o4, g4, D4, rfl, hout.ds, hJ4, (keep_none _ o HGA.out).trans (hout.keep.more td_tc), hout.ext, hout.lt, (by
    cases hfu : D4.full with
    | true => exact .inl rfl
    | false =>
      right
      have hD := full_false hout.ext hfu
      obtain ⟨ra, rb⟩ := HRR.out.resolve_left (by rw [hD]; simp)
      obtain ⟨K, hK, hw1, hw2⟩ := hout.ext.emore HS.out hout.ds
      have ci := hout.is.resolve_left (by rintro ⟨-, h2⟩; rw [hfu] at h2; cases h2)
      have hjl := (List.getElem?_eq_some_iff.1 HN.out).1
      rw [hK] at ci ⊢
      exact RE.bound hw2 HXY.out.2.2 (by rw [List.getElem?_append_left hjl]; exact HN.out) HV.out (ra.mono hw1 hw2 (Nat.lt_trans HND.out.2.1 hjl) HXY.out.1) (rb.mono hw1 hw2 (Nat.lt_trans HND.out.2.2.1 hjl) HXY.out.2.1) ci), by
    have h1 := hout.len
    have h2 := pow_pos' V
    omega, by
    have h1 := hout.W1
    have h2 := pow_pos' V
    omega⟩)
  clear hout hJ4 hca hdn hca4 hdn4
  go_wp2
  go_ret
  exact HR.out
theorem without1_join (hfv : E.fv = CHO) (hff : ∀ v : Nat, v < 256 → (ff (.int .i32 (v : Int))).isSome = free v) (hfz : ∀ v z, ff v = some z → z = .agg #[]) : JoinS 64 (.pointer (some ⟨bq, 0, none⟩)) (.pointer (some ⟨bc, 0, none⟩)) (.pointer (some ⟨b2, 0, none⟩)) (JEx V E bq bf bc b2 ff) (RE free) (2 ^ V) where
  enters := enters_of Try.func64 (by kernel_rfl) rfl
  keeps := fun h k t0 t7 => h.keeps k t0 t7
  call := fun w o g D j n x y hs hj h2 hn hx hy hR => by
    cases hv : free n.v with
    | true => exact without1_free hfv hff hfz hs hj h2 hn hx hy hR hv
    | false => exact without1_bound hfv hff hfz hs hj h2 hn hx hy hR hv
  mono := fun hw hw' hj hr h => h.mono hw hw' hj hr
  r0 := fun _ => RE.zero
  r1 := fun _ => RE.one
end

end Go.Proofs.Ytailpphafoamfaa
namespace Go.Proofs.Ytailpphafoamfaa
open Go Go.RowKit Go.Maps


def freeL (l : List Int) (v : Nat) : Bool := decide ((v : Int) ∈ l)
structure FreeOk (ff : Value → Option Value) (l : List Int) : Prop where
  from_ : ∀ v z, ff v = some z → z = .agg #[] ∧ ∃ y ∈ l, v = .int .i32 y
  to : ∀ y ∈ l, (ff (.int .i32 y)).isSome = true
theorem FreeOk.free {ff : Value → Option Value} {l : List Int} (h : FreeOk ff l) (v : Nat) : (ff (.int .i32 (v : Int))).isSome = freeL l v := by
  unfold freeL
  by_cases hv : (v : Int) ∈ l
  · rw [h.to _ hv, decide_eq_true hv]
  · rw [decide_eq_false hv]
    cases hq : ff (.int .i32 (v : Int)) with
    | none => rfl
    | some z =>
      obtain ⟨-, y, hy, e⟩ := h.from_ _ z hq
      simp at e
      rw [← e] at hy
      exact absurd hy hv
theorem FreeOk.push {ff : Value → Option Value} {l : List Int} (h : FreeOk ff l) (y : Int) : FreeOk (updV ff (.int .i32 y) (.agg #[])) (l ++ [y]) := by
  refine ⟨fun v z hz => ?_, fun x hx => ?_⟩
  · by_cases e : v = .int .i32 y
    · rw [e, updV_same] at hz
      cases hz
      exact ⟨rfl, y, by simp, e⟩
    · rw [updV_other _ _ e] at hz
      obtain ⟨h1, x, h2, h3⟩ := h.from_ v z hz
      exact ⟨h1, x, by simp [h2], h3⟩
  · by_cases e : x = y
    · rw [e, updV_same]; rfl
    · rw [updV_other _ _ (by simpa using e)]
      simp only [List.mem_append, List.mem_singleton] at hx
      exact h.to x (hx.resolve_right e)
theorem FreeOk.nil : FreeOk (fun _ => none) [] := ⟨fun v z h => (by cases h), fun y hy => (by cases hy)⟩
section
variable {w w' : World} {o o' : Nat → Nat} {g g' : SG} {D D' : DG}
def WithoutPost (w : World) (o : Nat → Nat) (g : SG) (D : DG) (l : List Int) (e : Ending) (w' : World) : Prop :=
  ∃ (R : REnv) (E : Env) (bq bf bc b2 : Nat) (ff : Value → Option Value) (o' : Nat → Nat), e = .returned (rebV R) ∧ R.jv = .func (.func 64) #[] #[.pointer (some ⟨bq, 0, none⟩), .pointer (some ⟨bc, 0, none⟩), .pointer (some ⟨b2, 0, none⟩)] ∧
    DS w' o' g D ∧ RebAt w' o' D.d R mp01 ∧ JEx g.V E bq bf bc b2 ff w' o' g D ∧ E.fv = CHO ∧ FreeOk ff l ∧ Keep (fun _ => false) w o w' o'
def exW0 (w : World) (d : Nat) : World := ((w.alloc (.cells #[.pointer (some ⟨d, 0, none⟩)] 94)).alloc (.map #[] 0)).alloc (.cells #[.map (some (w.heap.size + 1))] 107)
theorem exW0_at (w : World) (d : Nat) : w.grownBy (exW0 w d) none ∧ (exW0 w d).heap.size = w.heap.size + 3 ∧ (exW0 w d).cell? ⟨w.heap.size, 0, none⟩ = some (.pointer (some ⟨d, 0, none⟩)) ∧ MapIs 21 (exW0 w d) (w.heap.size + 1) (fun _ => none) ∧ (exW0 w d).cell? ⟨w.heap.size + 1 + 1, 0, none⟩ = some (.map (some (w.heap.size + 1))) := by
  have s1 : ∀ (w : World) (x : Obj), (w.alloc x).heap = w.heap.push x := fun _ _ => rfl
  refine ⟨grown_trans (grown_trans (grown_alloc _ _) (grown_alloc _ _)) (grown_alloc _ _), by simp [exW0], ?_, ⟨#[], 0, ?_, by simp, by simp, by simp, by simp⟩, ?_⟩
  · have : (exW0 w d).heap[w.heap.size]? = some (.cells #[.pointer (some ⟨d, 0, none⟩)] 94 (0, 0)) := by
      unfold exW0
      simp only [s1, Array.size_push, Array.getElem?_push]
      rw [if_neg (by omega), if_neg (by omega), if_pos trivial]
    exact (cell_of this).trans rfl
  · unfold exW0
    simp only [s1, Array.size_push, Array.getElem?_push]
    rw [if_neg (by omega), if_pos trivial]
  · have : (exW0 w d).heap[w.heap.size + 1 + 1]? = some (.cells #[.map (some (w.heap.size + 1))] 107 (0, 0)) := by
      unfold exW0
      simp only [s1, Array.size_push, Array.getElem?_push]
      rw [if_pos trivial]
    exact (cell_of this).trans rfl
set_option maxHeartbeats 8000000 in
set_option maxRecDepth 100000 in
theorem without_any (hs : DS w o g D) {vv : Value} {l : List Int} (hv : Nums w vv l) (hl : l.length ≤ 1000000) (hall : allB g.V l = true) : Calls Try.prog 49 #[.pointer (some ⟨D.d, 0, none⟩), vv] w (WithoutPost w o g D l) := by
  have hmm := @run_makeMap Try.prog
  have hmf : ∀ (fn : Fn) (first cap : Array Value) (w : World), (Instr.makeFunc fn first cap).run Try.prog w = .ok (.func fn first cap) w := fun _ _ _ _ => rfl
  have hze := z65
  have HW0 := Lib.hid (exW0_at w D.d)
  have HNM := Lib.hid hv
  obtain ⟨A, c, rfl, -⟩ := hv
  have HS := Lib.hid hs
  have HALL := Lib.hid hall
  have HB := Lib.hid hl
  have hbd := hs.st.bd
  have HBD := Lib.hid hbd
  obtain ⟨len, hlen⟩ : ∃ len, l.length = len := ⟨_, rfl⟩
  have HLN := Lib.hid hlen
  rw [hlen]
  clear hs hall hl hbd hlen
  go_enter Try.func49, Try.ntmps49
  go_wp2
  obtain ⟨w0, hw0⟩ : ∃ w0, exW0 w D.d = w0 := ⟨_, rfl⟩
  rw [hw0] at HW0
  change Code.wp _ _ _ _ (exW0 w D.d)
  rw [hw0]
  clear hw0
  obtain ⟨b2, hb2⟩ : ∃ b2, w.heap.size = b2 := ⟨_, rfl⟩
  obtain ⟨bq, hbq⟩ : ∃ bq, b2 + 1 + 1 = bq := ⟨_, rfl⟩
  obtain ⟨bf, hbf⟩ : ∃ bf, b2 + 1 = bf := ⟨_, rfl⟩
  rw [hb2] at HW0 ⊢
  have HSZ := Lib.hid (show w.heap.size = b2 ∧ bf = b2 + 1 ∧ bq = b2 + 2 by omega)
  rw [hbq, hbf] at HW0
  rw [hbq]
  try rw [hbf]
  clear hb2 hbq hbf
  go_loopw [12] (fun v wr => ∃ (k : Nat) (ff : Value → Option Value), v = .int .i64 (k : Int) ∧ k ≤ len ∧ Hid (MapIs 21 wr bf ff ∧ FreeOk ff (l.take k) ∧ w0.grownBy wr (some bf))) (fun v _ => len - (intOf v).toNat)
  case atStart => exact ⟨0, _, rfl, Nat.zero_le _, Lib.hid ⟨HW0.out.2.2.2.1, by simpa using FreeOk.nil, World.grownBy.refl _ _⟩⟩
  case round =>
    obtain ⟨k, ff, rfl, hk, hI⟩ := hrel
    have HI := hI
    have cq : wr.cell? ⟨bq, 0, none⟩ = some (.map (some bf)) := HI.out.2.2.cell HW0.out.2.2.2.2 (by have := HSZ.out; simp only [ne_eq, Option.some.injEq]; omega)
    by_cases hlt : k < len
    · have hkl : k < l.length := by rw [HLN.out]; exact hlt
      obtain ⟨A', c', hA', hcell⟩ := HNM.out
      rw [HLN.out] at hA'
      simp at hA'
      obtain ⟨rfl, rfl⟩ := hA'
      obtain ⟨bb, off, rfl, hbb, hcl⟩ := hcell (by intro e; rw [e] at hkl; simp at hkl)
      obtain ⟨x, hx⟩ : ∃ x, l[k]? = some x := ⟨_, List.getElem?_eq_getElem hkl⟩
      have hxb : okB g.V x = true := by
        have := HALL.out
        unfold allB at this
        rw [List.all_eq_true] at this
        exact this x (List.mem_of_getElem? hx)
      obtain ⟨y, rfl, hyV⟩ := okB_nat hxb
      have hbbs : bb ≠ bf := by
        have h1 : bb < w.heap.size := hbb
        have := HSZ.out
        omega
      have kx := HI.out.2.2.cell ((World.cell?_of_block (a := ⟨bb, off + k, none⟩) (grown_far HW0.out.1 hbb)).trans (hcl k _ hx)) (by simp only [ne_eq, Option.some.injEq]; exact hbbs)
      obtain ⟨w5, hrun, hm5, ht5⟩ := HI.out.1.store K21 Try.underlying107 (isK21 (x := (y : Int)) (by have := HBD.out; omega)) (.agg #[])
      have HI2 := Lib.hid (show MapIs 21 w5 bf (updV ff (.int .i32 (y : Int)) (.agg #[])) ∧ FreeOk (updV ff (.int .i32 (y : Int)) (.agg #[])) (l.take (k + 1)) ∧ w0.grownBy w5 (some bf) from ⟨hm5, by
        rw [List.take_succ_eq_append_getElem hkl]
        have : l[k] = (y : Int) := (List.getElem?_eq_some_iff.1 hx).2
        rw [this]
        exact HI.out.2.1.push _, grown_trans HI.out.2.2 ht5.grown⟩)
      have q1 : (k : Int) < (len : Int) := by omega
      have qw : wrap32 (y : Int) = (y : Int) := wrap32_id (by have := HBD.out; omega)
      have HLT := Lib.hid hlt
      have HK := Lib.hid (show (k : Int) ≤ 1000000 by have := HB.out; rw [HLN.out] at this; omega)
      clear hkl hcell hcl hx hxb hyV hbbs hm5 ht5 hI hlt hk hbb
      have qk := HK.out
      go_wp2
      go_roundw
      case rel => exact ⟨k + 1, _, by go_num, HLT.out, HI2⟩
      case measure => simp [intOf]; have := HLT.out; omega
    · obtain rfl : k = len := by omega
      have hgr : w.grownBy wr none := grown_out HW0.out.1 HI.out.2.2 (by have := HSZ.out; omega)
      have HG := Lib.hid hgr
      have HSR := Lib.hid (HS.out.grown hgr)
      have HFR := Lib.hid (show FreeOk ff l from by have := HI.out.2.1; rw [← HLN.out, List.take_length] at this; exact this)
      have c2 : wr.cell? ⟨b2, 0, none⟩ = some (.pointer (some ⟨D.d, 0, none⟩)) := HI.out.2.2.cell HW0.out.2.2.1 (by have := HSZ.out; simp only [ne_eq, Option.some.injEq]; omega)
      have HCB := Lib.hid (combiner_any HSR.out CHO set_chosen)
      have HC2 := Lib.hid c2
      have HCQ := Lib.hid cq
      clear hI hk hlt hgr cq
      unfold CHO at HCB
      go_wp2_with fail
      refine (HCB.out).mono ?_
      rintro e w3 ⟨E, o3, rfl, hfv, hs3, hc3, hk3⟩
      unfold combV
      have HO := Lib.hid (show ∀ b, b2 ≤ b → b < wr.heap.size → o3 b = 0 from fun b h1 h2 => (hk3.own b h2).trans (HS.out.st.new b (by have := HSZ.out; omega)))
      have HFV := Lib.hid hfv
      have HS3 := Lib.hid hs3
      have HC3 := Lib.hid hc3
      have HK3 := Lib.hid hk3
      have hbig : wr.heap.size ≤ w3.heap.size := hk3.size
      have hlr : b2 + 3 ≤ wr.heap.size := by have h1 := HI.out.2.2.size; have h2 := HW0.out.2.1; omega
      have c2' : w3.cell? ⟨b2, 0, none⟩ = some (.pointer (some ⟨D.d, 0, none⟩)) := (World.cell?_of_block (a := ⟨b2, 0, none⟩) (hk3.blk _ (by show b2 < _; omega) rfl)).trans HC2.out
      have cq' : w3.cell? ⟨bq, 0, none⟩ = some (.map (some bf)) := (World.cell?_of_block (a := ⟨bq, 0, none⟩) (hk3.blk _ (by have := HSZ.out; show bq < _; omega) rfl)).trans HCQ.out
      have mf3 : MapIs 21 w3 bf ff := HI.out.1.move (hk3.blk _ (by have := HSZ.out; omega) rfl)
      -- the box of the choosing closure
      obtain ⟨w4, hw4⟩ : ∃ w4, w3.alloc (.cells #[combV E] 100) = w4 := ⟨_, rfl⟩
      have hg4 : w3.grownBy w4 none := by rw [← hw4]; exact grown_alloc _ _
      have hcc : w4.cell? ⟨w3.heap.size, 0, none⟩ = some (combV E) := by rw [← hw4]; simp
      have HJ4 := Lib.hid (show JEx g.V E bq bf w3.heap.size b2 ff w4 o3 g D from ⟨rfl, ⟨_, hc3.keep (keep_none (fun _ => false) o3 hg4) rfl rfl, .inr (done_none _ _)⟩,
        (World.cell?_of_block (a := ⟨bq, 0, none⟩) (grown_far hg4 (lt_cell cq'))).trans cq', hcc, (World.cell?_of_block (a := ⟨b2, 0, none⟩) (grown_far hg4 (lt_cell c2'))).trans c2', mf3.move (grown_far hg4 mf3.lt),
        HO.out _ (by have := HSZ.out; omega) (by have := HSZ.out; omega), hs3.st.new _ (Nat.le_refl _), HO.out _ (Nat.le_refl _) (by omega), HO.out _ (by have := HSZ.out; omega) (by have := HSZ.out; omega)⟩)
      have HS4 := Lib.hid (hs3.grown hg4)
      have HK4 := Lib.hid (show Keep (fun _ => false) w o w4 o3 from (keep_none _ o HG.out).trans (hk3.trans (keep_none _ o3 hg4)))
      have lb2 : b2 < w3.heap.size := lt_cell c2'
      have HRB := Lib.hid (rebuilder_any HS4.out 64 (.pointer (some ⟨bq, 0, none⟩)) (.pointer (some ⟨w3.heap.size, 0, none⟩)) (.pointer (some ⟨b2, 0, none⟩)))
      have hz1 : ((w3.alloc (.cells #[.nilFunc] 100)).cell? ⟨w3.heap.size, 0, none⟩) = some .nilFunc := by simp
      have hz2 : ((w3.alloc (.cells #[.nilFunc] 100)).frozen? ⟨w3.heap.size, 0, none⟩) = false := frz_of (MapKept.heap_alloc w3 _).1
      clear hfv hs3 hc3 hk3 hbig hlr cq' mf3 hg4 hcc c2
      go_wp2_with fail
      change Calls _ _ _ (w3.alloc (.cells #[combV E] 100)) _
      rw [hw4]
      clear hw4
      refine (HRB.out).mono ?_
      rintro e w5 ⟨R, o5, rfl, hjv, hs5, ha5, hk5⟩
      have HR := Lib.hid (show WithoutPost w o g D l (.returned (rebV R)) w5 from ⟨R, E, bq, bf, w3.heap.size, b2, ff, o5, rfl, hjv, hs5, ha5, HJ4.out.keeps hk5 rfl rfl, HFV.out, HFR.out, HK4.out.trans hk5⟩)
      unfold rebV at HR
      unfold rebV
      clear hjv hs5 ha5 hk5
      go_wp2
      go_ret
      exact HR.out
end

end Go.Proofs.Ytailpphafoamfaa
namespace Go.Proofs.Ytailpphafoamfaa
open Go Go.RowKit Go.Maps


section
variable {w w' : World} {o o' : Nat → Nat} {g g' : SG} {D D' : DG}
open Classical in
noncomputable def exF (free : Nat → Bool) (F : (Nat → Bool) → Bool) (m : Nat → Bool) : Bool := decide (Some' free F m)
def bad91 (w : World) (e : Ending) (w' : World) : Prop := e = .returned (.tuple #[.int .i64 0, .int .i64 91]) ∧ w.grownBy w' none
def ExistsPost (w : World) (o : Nat → Nat) (g : SG) (f : Int) (l : List Int) (e : Ending) (w' : World) : Prop :=
  if okB g.ns.length f = true then (if allB g.V l = true then OpPost w o g (exF (freeL l) (ev g.ns f.toNat)) (2 ^ g.V * 2 ^ (g.V - ask g.ns f.toNat) - 2 ^ g.V) 0 e w' else bad91 w e w') else bad92 w e w'
theorem sub_le_room {a b c d : Nat} (h : a + c ≤ b + d) (hc : c ≤ d) : a ≤ b + (d - c) := by omega
/-- What rebuilding and keeping leave. -/
theorem op_reb {J : World → (Nat → Nat) → SG → DG → Prop} {R : List Nd → Nat → Nat → Prop} {F : (Nat → Bool) → Bool} {wa wb wc : World} {oa ob oc : Nat → Nat} {Da : DG} {E : REnv} {f r : Nat} {gc : SG} {Dc : DG} {mp : Value → Option Value} {e : Ending}
    (hk0 : Keep T0 w o wa oa) (hd : DS wa oa g Da) (hd0 : Da.ds = [] ∧ 65536 ≤ Da.most) (hk1 : Keep (fun _ => false) wa oa wb ob) (hf : f < g.ns.length)
    (hc : RebOut J R (2 ^ g.V) wb ob g Da E f r wc oc gc Dc mp) (hRF : ∀ L K, WF g.V L → L = g.ns ++ K → R L f r → ∀ m, ev L r m = F m) (hp : KeepPost wc oc gc Dc r e w') : OpPost w o g F (2 ^ g.V * 2 ^ (g.V - ask g.ns f) - 2 ^ g.V) 0 e w' := by
  have hl0 : lst g Da = g.ns := by unfold lst; rw [hd0.1, List.append_nil]
  have h1 := hc.len
  have h2 := hc.W
  rw [hd0.1, hl0] at h1
  rw [hl0] at h2
  simp only [List.length_nil] at h1
  have h5 : Dc.ds.length ≤ 2 ^ g.V * 2 ^ (g.V - ask g.ns f) - 2 ^ g.V := Nat.le_sub_of_add_le (by rw [Nat.zero_add] at h1; exact h1)
  have h6 : gc.W ≤ g.W + (2 ^ g.V * 2 ^ (g.V - ask g.ns f) - 2 ^ g.V) := sub_le_room h2 (Nat.le_mul_of_pos_right _ (pow_pos' _))
  refine op_of_keep hk0 hd rfl hd0 ((hk1.more (t0_of rfl)).trans (hc.keep.more (t0_of rfl))) hc.ds hc.ext h5 h6 hc.ext.W (fun hfu m => ?_) hp
  have h4 := hc.is.resolve_left (by rw [hfu]; simp)
  obtain ⟨K, hK⟩ := hc.ext.ex
  rw [hl0] at hK
  have hwf := hc.ds.wf
  rw [hc.ext.V] at hwf
  exact hRF _ K hwf hK h4 m
open Classical in
theorem re_F {L ns K : List Nd} {V : Nat} {free : Nat → Bool} {f r : Nat} (hns : WF V ns) (hw : WF V L) (hL : L = ns ++ K) (hf : f < ns.length) (h : RE free L f r) (m : Nat → Bool) : ev L r m = exF free (ev ns f) m := by
  unfold exF
  rw [Bool.eq_iff_iff, h.tr m, decide_eq_true_eq]
  subst hL
  constructor
  · rintro ⟨m', h1, h2⟩
    exact ⟨m', h1, by rw [ev_app hns hw m' f hf] at h2; exact h2⟩
  · rintro ⟨m', h1, h2⟩
    exact ⟨m', h1, by rw [ev_app hns hw m' f hf]; exact h2⟩
set_option maxHeartbeats 8000000 in
set_option maxRecDepth 100000 in
theorem exists_bad92 (h : StoreAt w o g) (f : Int) (hv : okB g.ns.length f = false) {vv : Value} {l : List Int} (hl : Nums w vv l) : Calls Try.prog 28 #[.pointer (some ⟨g.s, 0, none⟩), .int .i64 f, vv] w (ExistsPost w o g f l) := by
  have HV := Lib.hid (hasNodes_any (h.alloc (.cells #[.int .i64 f] 3)) (nums_one w f) (by simp))
  have e0 : allB g.ns.length [f] = false := by simp [allB, hv]
  rw [e0] at HV
  have HE := Lib.hid (show ExistsPost w o g f l (.returned (.tuple #[.int .i64 0, .int .i64 92])) (w.alloc (.cells #[.int .i64 f] 3)) from by
    unfold ExistsPost
    rw [if_neg (by rw [hv]; simp)]
    exact ⟨rfl, grown_alloc _ _⟩)
  have hnot : ∀ (x : Bool) (w : World), (Op.unary .not (.bool x)).run Try.prog w = .ok (.bool (!x)) w := fun _ _ => rfl
  obtain ⟨A, c, rfl, -⟩ := hl
  clear h hv e0
  go_enter Try.func28, Try.ntmps28
  go_wp2_with fail
  refine (HV.out).mono ?_
  rintro e w1 ⟨rfl, rfl⟩
  go_wp2
  go_ret2
  exact HE.out
set_option maxHeartbeats 8000000 in
set_option maxRecDepth 100000 in
theorem exists_bad91 (h : StoreAt w o g) (f : Int) (hv : okB g.ns.length f = true) {vv : Value} {l : List Int} (hl : Nums w vv l) (hll : l.length ≤ 1000000) (hall : allB g.V l = false) : Calls Try.prog 28 #[.pointer (some ⟨g.s, 0, none⟩), .int .i64 f, vv] w (ExistsPost w o g f l) := by
  have HV := Lib.hid (hasNodes_any (h.alloc (.cells #[.int .i64 f] 3)) (nums_one w f) (by simp))
  have e0 : allB g.ns.length [f] = true := by simp [allB, hv]
  rw [e0] at HV
  have HQ := Lib.hid (hasVars_any (h.alloc (.cells #[.int .i64 f] 3)) (hl.grown (grown_alloc w (.cells #[.int .i64 f] 3))) hll)
  rw [hall] at HQ
  have HE := Lib.hid (show ExistsPost w o g f l (.returned (.tuple #[.int .i64 0, .int .i64 91])) (w.alloc (.cells #[.int .i64 f] 3)) from by
    unfold ExistsPost
    rw [if_pos hv, if_neg (by rw [hall]; simp)]
    exact ⟨rfl, grown_alloc _ _⟩)
  have hnot : ∀ (x : Bool) (w : World), (Op.unary .not (.bool x)).run Try.prog w = .ok (.bool (!x)) w := fun _ _ => rfl
  obtain ⟨A, c, rfl, -⟩ := hl
  clear h hv e0 hall hll
  go_enter Try.func28, Try.ntmps28
  go_wp2_with fail
  refine (HV.out).mono ?_
  rintro e w1 ⟨rfl, rfl⟩
  go_wp2_with fail
  refine (HQ.out).mono ?_
  rintro e w1 ⟨rfl, rfl⟩
  go_wp2
  go_ret2
  exact HE.out
set_option maxHeartbeats 8000000 in
set_option maxRecDepth 100000 in
theorem exists_good (h : StoreAt w o g) (f : Nat) (hf : f < g.ns.length) {vv : Value} {l : List Int} (hl : Nums w vv l) (hll : l.length ≤ 1000000) (hall : allB g.V l = true) : Calls Try.prog 28 #[.pointer (some ⟨g.s, 0, none⟩), .int .i64 (f : Int), vv] w (ExistsPost w o g (f : Int) l) := by
  have HV := Lib.hid (hasNodes_any (h.alloc (.cells #[.int .i64 (f : Int)] 3)) (nums_one w (f : Int)) (by simp))
  have e1 := okB_of hf
  have e0 : allB g.ns.length [(f : Int)] = true := by simp [allB, e1]
  rw [e0] at HV
  have HQ := Lib.hid (hasVars_any (h.alloc (.cells #[.int .i64 (f : Int)] 3)) (hl.grown (grown_alloc w (.cells #[.int .i64 (f : Int)] 3))) hll)
  rw [hall] at HQ
  have HNL := Lib.hid (hl.grown (grown_alloc w (.cells #[.int .i64 (f : Int)] 3)))
  have HDR := Lib.hid (draft_any (h.alloc (.cells #[.int .i64 (f : Int)] 3)))
  have HE := Lib.hid e1
  have HALL := Lib.hid hall
  have HLL := Lib.hid hll
  have hbd := h.bd
  have qw : wrap32 (f : Int) = (f : Int) := wrap32_id (by omega)
  have HH := Lib.hid h
  have HF := Lib.hid hf
  have hnot : ∀ (x : Bool) (w : World), (Op.unary .not (.bool x)).run Try.prog w = .ok (.bool (!x)) w := fun _ _ => rfl
  obtain ⟨A, c, rfl, -⟩ := hl
  clear h e0 e1 hall hll hbd hf
  go_enter Try.func28, Try.ntmps28
  go_wp2_with fail
  refine (HV.out).mono ?_
  rintro e w1 ⟨rfl, rfl⟩
  go_wp2_with fail
  refine (HQ.out).mono ?_
  rintro e w1 ⟨rfl, rfl⟩
  go_wp2_with fail
  refine (HDR.out).mono ?_
  rintro e w2 ⟨d, dm, o2, rfl, hst, hdr, hk⟩
  have HS2 := Lib.hid (show DS w2 o2 g _ from ⟨hst, hdr⟩)
  have HK2 := Lib.hid (show Keep T0 w o w2 o2 from (keep_alloc T0 w o _).trans (hk.more (t0_of rfl)))
  have HN2 := Lib.hid (HNL.out.keep (fun k hk2 => hk.blk k hk2 rfl) hk.size)
  clear hst hdr hk
  have HWT := Lib.hid (without_any HS2.out HN2.out HLL.out HALL.out)
  go_wp2_with fail
  refine (HWT.out).mono ?_
  rintro e w3 ⟨R, E, bq, bf, bc, b2, ff, o3, rfl, hjv, hs3, ha3, hj3, hfv, hfr, hk3⟩
  have HK3 := Lib.hid hk3
  have HJS := Lib.hid (without1_join (V := g.V) (bq := bq) (bf := bf) (bc := bc) (b2 := b2) (free := freeL l) hfv (fun v _ => hfr.free v) (fun v z hz => (hfr.from_ v z hz).1))
  have HRB := Lib.hid (reb_any HJS.out f w3 o3 g _ R mp01 hs3 hj3 ha3 hjv (rdone_start HJS.out hs3.wf _) (by unfold lst; simp; exact HF.out))
  clear hjv hs3 ha3 hj3 hfv hfr hk3
  unfold rebV
  go_wp2_with fail
  refine (HRB.out).mono ?_
  rintro e w4 ⟨r, o4, g4, D4, mp4, rfl, hout⟩
  have HO := Lib.hid hout
  have hkp := keep_any hout.ds hout.lt
  rw [hout.ext.d] at hkp
  have HKP := Lib.hid hkp
  clear hout hkp
  go_wp2_with fail
  refine (HKP.out).mono ?_
  intro e w5 hp
  have hop := op_reb (F := exF (freeL l) (ev g.ns f)) HK2.out HS2.out ⟨rfl, Nat.le_max_left _ _⟩ HK3.out HF.out HO.out (fun L K hw hL hR m => re_F HH.out.wf hw hL HF.out hR m) hp
  have HFIN := Lib.hid (show ExistsPost w o g (f : Int) l e w5 from by
    unfold ExistsPost
    rw [if_pos HE.out, if_pos HALL.out]
    exact hop)
  clear hop
  rcases hp with ⟨rfl, -⟩ | ⟨r', o', g', rfl, -⟩
  · go_wp2
    go_ret2
    exact HFIN.out
  · go_wp2
    go_ret2
    exact HFIN.out
theorem exists_any (h : StoreAt w o g) (f : Int) {vv : Value} {l : List Int} (hl : Nums w vv l) (hll : l.length ≤ 1000000) : Calls Try.prog 28 #[.pointer (some ⟨g.s, 0, none⟩), .int .i64 f, vv] w (ExistsPost w o g f l) := by
  cases hv : okB g.ns.length f with
  | false => exact exists_bad92 h f hv hl
  | true =>
    cases hall : allB g.V l with
    | false => exact exists_bad91 h f hv hl hll hall
    | true =>
      obtain ⟨k, rfl, hk⟩ := okB_nat hv
      exact exists_good h k hk hl hll hall
end

end Go.Proofs.Ytailpphafoamfaa
namespace Go.Proofs.Ytailpphafoamfaa

/-- m is the first way, false first, in which f is true. -/
structure First (V : Nat) (ns : List Nd) (f : Nat) (m : Nat → Bool) : Prop where
  tr : ev ns f m = true
  lex : ∀ x, ev ns f x = true → (∃ v, v < V ∧ (∀ u, u < v → x u = m u) ∧ m v = false ∧ x v = true) ∨ (∀ u, u < V → x u = m u)
structure PickI (V : Nat) (ns : List Nd) (f n : Nat) (m : Nat → Bool) : Prop where
  lt : n < ns.length
  ne : n ≠ 0
  off : ∀ v, ask ns n ≤ v → m v = false
  same : ∀ y, (∀ u, u < ask ns n → y u = m u) → ev ns f y = ev ns n y
  lex : ∀ x, ev ns f x = true → (∃ v, v < ask ns n ∧ (∀ u, u < v → x u = m u) ∧ m v = false ∧ x v = true) ∨ (∀ u, u < ask ns n → x u = m u)
section
variable {V : Nat} {ns : List Nd} {f n : Nat} {m : Nat → Bool}
theorem PickI.start (hw : WF V ns) (hf : f < ns.length) (h0 : f ≠ 0) : PickI V ns f f (fun _ => false) where
  lt := hf
  ne := h0
  off := fun _ _ => rfl
  same := fun _ _ => rfl
  lex := fun x hx => by
    by_cases h : ∃ v, v < ask ns f ∧ x v = true
    · left
      obtain ⟨v, hv, hxv⟩ := h
      -- the least such
      induction v using Nat.strongRecOn with
      | ind v ih =>
        by_cases h2 : ∃ u, u < v ∧ x u = true
        · obtain ⟨u, hu, hxu⟩ := h2
          exact ih u hu (by omega) hxu
        · exact ⟨v, hv, fun u hu => by
            cases hxu : x u with
            | false => rfl
            | true => exact absurd ⟨u, hu, hxu⟩ h2, rfl, hxv⟩
    · right
      intro u hu
      cases hxu : x u with
      | false => rfl
      | true => exact absurd ⟨u, hu, hxu⟩ h
theorem PickI.fin (hw : WF V ns) (h : PickI V ns f n m) (hn : n ≤ 1) : First V ns f m := by
  have h1 : n = 1 := by have := h.ne; omega
  subst h1
  have ha := hw.ask1
  refine ⟨?_, fun x hx => ?_⟩
  · rw [h.same m (fun _ _ => rfl), ev1]
  · have := h.lex x hx
    rw [ha] at this
    exact this
/-- What is false from a place on: of two ways that are alike up to there, the other one is alike up to a later place, or comes behind. -/
theorem PickI.tail_ {x m : Nat → Bool} {v : Nat} (agree : ∀ u, u ≤ v → x u = m u) (off : ∀ u, v < u → m u = false) (b : Nat) : (∃ v, v < b ∧ (∀ u, u < v → x u = m u) ∧ m v = false ∧ x v = true) ∨ (∀ u, u < b → x u = m u) := by
  by_cases h : ∃ u, u < b ∧ x u ≠ m u
  · left
    obtain ⟨u, hu, hx⟩ := h
    induction u using Nat.strongRecOn with
    | ind u ih =>
      by_cases h2 : ∃ z, z < u ∧ x z ≠ m z
      · obtain ⟨z, hz, hxz⟩ := h2
        exact ih z hz (by omega) hxz
      · have hvu : v < u := Nat.lt_of_not_le fun hle => hx (agree u hle)
        have hm := off u hvu
        refine ⟨u, hu, fun z hz => Classical.byContradiction fun hc => h2 ⟨z, hz, hc⟩, hm, ?_⟩
        rw [hm] at hx
        simpa using hx
  · right
    intro u hu
    exact Classical.byContradiction fun hc => h ⟨u, hu, hc⟩
theorem PickI.step (hw : WF V ns) (h : PickI V ns f n m) (h2 : 2 ≤ n) {nd : Nd} (hn : ns[n]? = some nd) : PickI V ns f (leadN nd (decide (nd.a = 0))) (setM m nd.v (decide (nd.a = 0))) := by
  obtain ⟨a1, a2, a3, a4, a5, a6⟩ := hw.nd n nd h2 hn
  have hv := ask_at hn
  obtain ⟨b, hb⟩ : ∃ b, decide (nd.a = 0) = b := ⟨_, rfl⟩
  rw [hb]
  have hlt : leadN nd b < n := by unfold leadN; split <;> omega
  have hask : nd.v < ask ns (leadN nd b) := by unfold leadN; split <;> omega
  have hne : leadN nd b ≠ 0 := by
    unfold leadN
    cases b with
    | true => have : nd.a = 0 := of_decide_eq_true hb; simp; omega
    | false => have : ¬ nd.a = 0 := of_decide_eq_false hb; simp; omega
  have hev : ∀ y : Nat → Bool, y nd.v = b → ev ns n y = ev ns (leadN nd b) y := fun y hy => by
    rw [hw.ev_node y h2 hn, hy]
    unfold leadN
    cases b <;> rfl
  refine ⟨Nat.lt_trans hlt h.lt, hne, fun v hvv => ?_, fun y hy => ?_, fun x hx => ?_⟩
  · rw [setM_other _ _ (by omega)]
    exact h.off v (by omega)
  · have e1 := h.same y (fun u hu => by
      have := hy u (by omega)
      rw [setM_other _ _ (by omega)] at this
      exact this)
    rw [e1]
    refine hev y ?_
    have := hy nd.v hask
    rw [setM_same] at this
    exact this
  · rcases h.lex x hx with ⟨v, h3, h4, h5, h6⟩ | h3
    · left
      exact ⟨v, by omega, fun u hu => by rw [setM_other _ _ (by omega)]; exact h4 u hu, by rw [setM_other _ _ (by omega)]; exact h5, h6⟩
    · -- x is as m ahead of this variable
      have hxn : ev ns n x = true := by rw [← h.same x h3]; exact hx
      cases hb2 : b with
      | true =>
        subst hb2
        have ha0 : nd.a = 0 := of_decide_eq_true hb
        have hxv : x nd.v = true := by
          cases hc : x nd.v with
          | true => rfl
          | false => rw [hw.ev_node x h2 hn, hc, ha0] at hxn; simp [ev0] at hxn
        have agree : ∀ u, u ≤ nd.v → x u = setM m nd.v true u := fun u hu => by
          by_cases e : u = nd.v
          · subst e; rw [setM_same]; exact hxv
          · rw [setM_other _ _ e]; exact h3 u (by omega)
        exact PickI.tail_ agree (fun v hvv => by rw [setM_other _ _ (by omega)]; exact h.off v (by omega)) _
      | false =>
        subst hb2
        cases hc : x nd.v with
        | true =>
          left
          exact ⟨nd.v, hask, fun u hu => by rw [setM_other _ _ (by omega)]; exact h3 u (by omega), setM_same _ _ _, hc⟩
        | false =>
          have agree : ∀ u, u ≤ nd.v → x u = setM m nd.v false u := fun u hu => by
            by_cases e : u = nd.v
            · subst e; rw [setM_same]; exact hc
            · rw [setM_other _ _ e]; exact h3 u (by omega)
          exact PickI.tail_ agree (fun v hvv => by rw [setM_other _ _ (by omega)]; exact h.off v (by omega)) _
end
end Go.Proofs.Ytailpphafoamfaa
namespace Go.Proofs.Ytailpphafoamfaa
open Go Go.RowKit Go.Maps


section
variable {M : List Nd} {w w' w2 : World} {o o' o2 : Nat → Nat} {g g' g2 : SG}
theorem lookB_set {l : List Bool} {v : Nat} (hv : v < l.length) (b : Bool) : lookB (l.set v b) = setM (lookB l) v b := by
  funext x
  unfold lookB setM
  by_cases e : x = v
  · rw [if_pos e, e]
    simp [List.getD_eq_getElem?_getD, hv]
  · rw [if_neg e, List.getD_eq_getElem?_getD, List.getElem?_set_ne (Ne.symm e), ← List.getD_eq_getElem?_getD]
def PickPost (w : World) (g : SG) (f : Int) (e : Ending) (w' : World) : Prop :=
  w.grownBy w' none ∧ ((¬ (okB g.ns.length f = true ∧ f ≠ 0) ∧ e = .returned (.tuple #[.slice none 0 0, .int .i64 92])) ∨
    ((okB g.ns.length f = true ∧ f ≠ 0) ∧ ∃ (bw : Nat) (way : List Bool), e = .returned (.tuple #[.slice (some ⟨bw, 0, none⟩) way.length way.length, .int .i64 0]) ∧ way.length = g.V ∧ w'.heap[bw]? = some (.cells (boolC way) 4 (0, 0)) ∧ w.heap.size ≤ bw ∧ First g.V g.ns f.toNat (lookB way)))
structure PLoop (w wr : World) (g : SG) (f bw k : Nat) (way : List Bool) : Prop where
  gr : w.grownBy wr none
  wl : way.length = g.V
  cw : wr.heap[bw]? = some (.cells (boolC way) 4 (0, 0))
  ge : w.heap.size ≤ bw
  inv : PickI g.V g.ns f k (lookB way)
set_option maxHeartbeats 8000000 in
set_option maxRecDepth 100000 in
theorem pick_bad (h : StoreM M w o g) (f : Int) (hv : okB g.ns.length f = false) : Calls Try.prog 17 #[.pointer (some ⟨g.s, 0, none⟩), .int .i64 f] w (PickPost w g f) := by
  have HV := Lib.hid (hasNodes_any (h.alloc (.cells #[.int .i64 f] 3)) (nums_one w f) (by simp))
  have e0 : allB g.ns.length [f] = false := by simp [allB, hv]
  rw [e0] at HV
  have HE := Lib.hid (show PickPost w g f (.returned (.tuple #[.slice none 0 0, .int .i64 92])) (w.alloc (.cells #[.int .i64 f] 3)) from ⟨grown_alloc _ _, .inl ⟨by rw [hv]; simp, rfl⟩⟩)
  have hnot : ∀ (x : Bool) (w : World), (Op.unary .not (.bool x)).run Try.prog w = .ok (.bool (!x)) w := fun _ _ => rfl
  clear h hv e0
  go_enter Try.func17, Try.ntmps17
  go_wp2_with fail
  refine (HV.out).mono ?_
  rintro e w1 ⟨rfl, rfl⟩
  go_wp2
  go_ret2
  exact HE.out
set_option maxHeartbeats 8000000 in
set_option maxRecDepth 100000 in
theorem pick_zero (h : StoreM M w o g) : Calls Try.prog 17 #[.pointer (some ⟨g.s, 0, none⟩), .int .i64 0] w (PickPost w g 0) := by
  have HV := Lib.hid (hasNodes_any (h.alloc (.cells #[.int .i64 0] 3)) (nums_one w 0) (by simp))
  have e0 : allB g.ns.length [0] = true := by
    have := h.wf.two
    simp [allB, okB]; omega
  rw [e0] at HV
  have HE := Lib.hid (show PickPost w g 0 (.returned (.tuple #[.slice none 0 0, .int .i64 92])) (w.alloc (.cells #[.int .i64 0] 3)) from ⟨grown_alloc _ _, .inl ⟨by simp, rfl⟩⟩)
  have hnot : ∀ (x : Bool) (w : World), (Op.unary .not (.bool x)).run Try.prog w = .ok (.bool (!x)) w := fun _ _ => rfl
  clear h e0
  go_enter Try.func17, Try.ntmps17
  go_wp2_with fail
  refine (HV.out).mono ?_
  rintro e w1 ⟨rfl, rfl⟩
  go_wp2
  go_ret2
  exact HE.out
set_option maxHeartbeats 8000000 in
set_option maxRecDepth 100000 in
theorem pick_good (h : StoreM M w o g) (f : Nat) (hv : f < g.ns.length) (h0 : f ≠ 0) : Calls Try.prog 17 #[.pointer (some ⟨g.s, 0, none⟩), .int .i64 (f : Int)] w (PickPost w g (f : Int)) := by
  have HV := Lib.hid (hasNodes_any (h.alloc (.cells #[.int .i64 (f : Int)] 3)) (nums_one w (f : Int)) (by simp))
  have e1 := okB_of hv
  have e0 : allB g.ns.length [(f : Int)] = true := by simp [allB, e1]
  rw [e0] at HV
  have hnot : ∀ (x : Bool) (w : World), (Op.unary .not (.bool x)).run Try.prog w = .ok (.bool (!x)) w := fun _ _ => rfl
  have hbd := h.bd
  have HH := Lib.hid h
  have HE1 := Lib.hid (show okB g.ns.length (f : Int) = true ∧ (f : Int) ≠ 0 from ⟨e1, by omega⟩)
  have s0 := (h.alloc (.cells #[.int .i64 (f : Int)] 3)).cell0
  have qz : (((f : Nat) : Int) == 0) = false := by simp; omega
  have qw : wrap32 (f : Int) = (f : Int) := wrap32_id (by omega)
  have hmk := fun w => mk_bools g.V (by omega) w
  have HL0 := Lib.hid (show PLoop w ((w.alloc (.cells #[.int .i64 (f : Int)] 3)).alloc (.cells (boolC (List.replicate g.V false)) 4)) g f (w.heap.size + 1) f (List.replicate g.V false) from
    ⟨grown_trans (grown_alloc _ _) (grown_alloc _ _), by simp, by
      have := (MapKept.heap_alloc (w.alloc (.cells #[.int .i64 (f : Int)] 3)) (.cells (boolC (List.replicate g.V false)) 4)).1
      have e : (w.alloc (.cells #[.int .i64 (f : Int)] 3)).heap.size = w.heap.size + 1 := by simp
      rw [e] at this
      exact this, by omega, by
      have e : lookB (List.replicate g.V false) = fun _ => false := by
        funext x
        unfold lookB
        rw [List.getD_eq_getElem?_getD, List.getElem?_replicate]
        split <;> rfl
      rw [e]
      exact PickI.start h.wf hv h0⟩)
  clear h hv e0 e1 hbd h0
  go_enter Try.func17, Try.ntmps17
  go_wp2_with fail
  refine (HV.out).mono ?_
  rintro e w1 ⟨rfl, rfl⟩
  go_wp2
  try rw [qw]
  clear qw s0 hmk
  obtain ⟨bw, hbw⟩ : ∃ bw, w.heap.size + 1 = bw := ⟨_, rfl⟩
  rw [hbw] at HL0 ⊢
  clear hbw
  generalize (w.alloc (.cells #[.int .i64 (f : Int)] 3)).alloc (.cells (boolC (List.replicate g.V false)) 4) = w9 at *
  go_loopw [7] (fun v wr => ∃ (k : Nat) (way : List Bool), v = .int .i32 (k : Int) ∧ Hid (PLoop w wr g f bw k way)) (fun v _ => (intOf v).toNat)
  case atStart => exact ⟨f, _, rfl, HL0⟩
  case round =>
    obtain ⟨k, way, rfl, hL⟩ := hrel
    have HL := hL
    by_cases hk : 1 < k
    · obtain ⟨n, hn⟩ := get_lt HL.out.inv.lt
      have hr := HH.out.grown HL.out.gr
      obtain ⟨gx, c2, hvv, k0, k1, k2, hx⟩ := row_node hr.row hn
      have s2 := hr.cell2
      rw [hvv] at s2
      have hnd := hr.wf.nd k n hk hn
      obtain ⟨b, hb⟩ : ∃ b : Bool, (((n.a : Nat) : Int) == 0) = b := ⟨_, rfl⟩
      have hb2 : decide (n.a = 0) = b := by rw [← hb, Bool.eq_iff_iff]; simp
      have hst := HL.out.inv.step HH.out.wf hk hn
      rw [hb2] at hst
      have HST := Lib.hid hst
      have hvl : n.v < way.length := by rw [HL.out.wl]; exact hnd.1
      have cv : wr.cell? ⟨bw, n.v, none⟩ = some (.bool (way.getD n.v true)) := (cell_of HL.out.cw).trans (boolC_at hvl)
      have fv : wr.frozen? ⟨bw, n.v, none⟩ = false := frz_of HL.out.cw
      have lbw : bw < wr.heap.size := lt_cell cv
      have q1 : (k : Int) > 1 := by omega
      have q2 : (k : Int) < (g.ns.length : Int) := by have := HL.out.inv.lt; omega
      have q3 : (n.v : Int) < (g.V : Int) := by have := hnd.1; omega
      have HLT := Lib.hid (show leadN n b < k ∧ n.v < way.length from ⟨by unfold leadN; split <;> omega, hvl⟩)
      obtain ⟨wa, hwa⟩ : ∃ wa, (wr.setCell ⟨bw, n.v, none⟩ (.bool b)).alloc (.cells #[.int .i32 (n.v : Int), .int .i32 (n.a : Int), .int .i32 (n.b : Int)] 63) = wa := ⟨_, rfl⟩
      have hsz : (wr.setCell ⟨bw, n.v, none⟩ (.bool b)).heap.size = wr.heap.size := by simp [World.setCell]
      have hY := (MapKept.heap_alloc (wr.setCell ⟨bw, n.v, none⟩ (.bool b)) (.cells #[.int .i32 (n.v : Int), .int .i32 (n.a : Int), .int .i32 (n.b : Int)] 63)).1
      rw [hsz, hwa] at hY
      have HY := Lib.hid hY
      have HSET := Lib.hid (show PLoop w wa g f bw (leadN n b) (way.set n.v b) from by
        have h2 := grown_set wr ⟨bw, n.v, none⟩ (.bool b)
        have h1 := grown_alloc (wr.setCell ⟨bw, n.v, none⟩ (.bool b)) (.cells #[.int .i32 (n.v : Int), .int .i32 (n.a : Int), .int .i32 (n.b : Int)] 63)
        rw [hwa] at h1
        refine ⟨grown_trans (grown_out HL.out.gr h2 HL.out.ge) h1, by rw [List.length_set]; exact HL.out.wl, ?_, HL.out.ge, by rw [lookB_set hvl]; exact hst⟩
        rw [← hwa, heap_alloc_old (by rw [hsz]; exact lbw), heap_set _ HL.out.cw]
        simp [boolC, List.map_set])
      have HCB := Lib.hid (show wa.cell? ⟨bw, n.v, none⟩ = some (.bool b) from by
        rw [cell_of HSET.out.cw, boolC_at (by rw [List.length_set]; exact hvl)]
        simp [List.getD_eq_getElem?_getD, hvl])
      clear hsz hY
      clear hn hvv hnd hvl hst hb2 hL hk hr
      go_wp2
      try rw [hwa]
      obtain ⟨N, hN⟩ : ∃ N, wr.heap.size = N := ⟨_, rfl⟩
      rw [hN] at HY ⊢
      clear hwa hN s2 k0 k1 k2 cv fv
      have cbw := HCB.out
      refine wp_region_T (S := fun w' => ∀ k ∈ [N, bw], w'.heap[k]? = wa.heap[k]?) (tail := fun j => decide (6 ≤ j)) (by kernel_rfl) ?_
      change wpAnyT _ _ _ _ _ _ _ _ _ (World.drew wa)
      have BD := Lib.hid (show ∀ k ∈ [N, bw], (World.drew wa).heap[k]? = wa.heap[k]? from fun _ _ => rfl)
      refine tk 0 41 (.agg #[.int .i32 (n.v : Int), .int .i32 (n.a : Int), .int .i32 (n.b : Int)]) BD.out ?y0 ?_
      case y0 =>
        intro w' hw'
        obtain ⟨z0, z1, z2⟩ := box_cells ((hw' N (by simp)).trans HY.out)
        go_simp
      try simp only [Act.put, List.setIfInBounds_toArray, List.set_cons_zero, List.set_cons_succ]
      refine tk 1 42 (.slice (some ⟨bw, 0, none⟩) g.V g.V) BD.out ?y1 ?_
      case y1 =>
        intro w' hw'
        go_simp
      try simp only [Act.put, List.setIfInBounds_toArray, List.set_cons_zero, List.set_cons_succ]
      refine tk 2 43 (.pointer (some ⟨N, 0, none⟩)) BD.out ?y2 ?_
      case y2 =>
        intro w' hw'
        go_simp
      try simp only [Act.put, List.setIfInBounds_toArray, List.set_cons_zero, List.set_cons_succ]
      refine tk 3 44 (.int .i32 (n.v : Int)) BD.out ?y3 ?_
      case y3 =>
        intro w' hw'
        obtain ⟨z0, z1, z2⟩ := box_cells ((hw' N (by simp)).trans HY.out)
        go_simp
      try simp only [Act.put, List.setIfInBounds_toArray, List.set_cons_zero, List.set_cons_succ]
      refine tk 4 45 (.pointer (some ⟨bw, n.v, none⟩)) BD.out ?y4 ?_
      case y4 =>
        intro w' hw'
        go_simp
      try simp only [Act.put, List.setIfInBounds_toArray, List.set_cons_zero, List.set_cons_succ]
      refine tk 5 46 (.bool b) BD.out ?y5 ?_
      case y5 =>
        intro w' hw'
        have y0 := (World.cell?_of_block (a := ⟨bw, n.v, none⟩) (hw' bw (by simp))).trans cbw
        go_simp
      try simp only [Act.put, List.setIfInBounds_toArray, List.set_cons_zero, List.set_cons_succ]
      refine on 6 (fun K hK2 => ?_)
      go_simp
      have hle := leads_any n b (World.drew wa)
      unfold ndV at hle
      refine hle.mono ?_
      rintro e w3 ⟨rfl, hg⟩
      have HFIN := Lib.hid (show PLoop w w3 g f bw (leadN n b) (way.set n.v b) from ⟨grown_trans HSET.out.gr (grown_trans (grown_drewN wa 1) hg), HSET.out.wl, (grown_far hg (lt_cell cbw)).trans HSET.out.cw, HSET.out.ge, HSET.out.inv⟩)
      clear hg hle
      refine hK2.out _ _ (fun h => absurd h (by decide)) ?_
      clear hK2 K
      try simp only [Act.put, List.setIfInBounds_toArray, List.set_cons_zero, List.set_cons_succ]
      refine tkM 7 7 (.int .i32 ((leadN n b : Nat) : Int)) ?y7 ?_
      case y7 =>
        intro w'
        go_simp
      try simp only [Act.put, List.setIfInBounds_toArray, List.set_cons_zero, List.set_cons_succ]
      refine dn ?_
      go_wp2
      go_roundw
      case rel => exact ⟨leadN n b, _, rfl, HFIN⟩
      case measure => have := HLT.out.1; simp [intOf]; omega
    · have HE := Lib.hid (show PickPost w g (f : Int) (.returned (.tuple #[.slice (some ⟨bw, 0, none⟩) g.V g.V, .int .i64 0])) wr from ⟨HL.out.gr, .inr ⟨HE1.out, bw, way, by rw [HL.out.wl], HL.out.wl, HL.out.cw, HL.out.ge, HL.out.inv.fin HH.out.wf (by omega)⟩⟩)
      have q1 : ¬ (k : Int) > 1 := by omega
      have q2 : (k : Int) ≤ 1 := by omega
      clear hL hk
      go_wp2
      go_ret2
      exact HE.out
theorem pick_any (h : StoreM M w o g) (f : Int) : Calls Try.prog 17 #[.pointer (some ⟨g.s, 0, none⟩), .int .i64 f] w (PickPost w g f) := by
  cases hv : okB g.ns.length f with
  | false => exact pick_bad h f hv
  | true =>
    obtain ⟨k, rfl, hk⟩ := okB_nat hv
    by_cases h0 : k = 0
    · subst h0
      exact pick_zero h
    · exact pick_good h k hk h0
end

end Go.Proofs.Ytailpphafoamfaa
namespace Go.Proofs.Ytailpphafoamfaa

def cntF (L : List Nd) : Nat → Nat → Nat
  | 0, _ => 0
  | k + 1, i => if i ≤ 1 then i else match L[i]? with
    | none => 0
    | some n => cntF L k n.a * 2 ^ (ask L n.a - n.v - 1) + cntF L k n.b * 2 ^ (ask L n.b - n.v - 1)
/-- In how many ways it is true, of the variables from its own on. -/
def cN (L : List Nd) (i : Nat) : Nat := cntF L (i + 1) i
section
variable {V : Nat} {L K : List Nd}
theorem WF.cntF_eq (h : WF V L) : ∀ k i, i < k → cntF L k i = cN L i := by
  intro k
  induction k using Nat.strongRecOn with
  | ind k ih =>
    intro i hi
    unfold cN
    match k, hi with
    | k + 1, hi =>
      unfold cntF
      split
      · rfl
      · cases hn : L[i]? with
        | none => rfl
        | some n =>
          have hh := h.nd i n (by omega) hn
          simp only
          rw [ih k (by omega) n.a (by omega), ih k (by omega) n.b (by omega)]
          by_cases hki : i = k
          · subst hki
            rw [ih i (by omega) n.a (by omega), ih i (by omega) n.b (by omega)]
          · rw [ih i (by omega) n.a (by omega), ih i (by omega) n.b (by omega)]
theorem cN_end {i : Nat} (h : i ≤ 1) : cN L i = i := by simp [cN, cntF, h]
theorem WF.cN_node (h : WF V L) {i : Nat} {n : Nd} (h2 : 2 ≤ i) (hn : L[i]? = some n) : cN L i = cN L n.a * 2 ^ (ask L n.a - n.v - 1) + cN L n.b * 2 ^ (ask L n.b - n.v - 1) := by
  have hh := h.nd i n h2 hn
  have : cN L i = cntF L i n.a * 2 ^ (ask L n.a - n.v - 1) + cntF L i n.b * 2 ^ (ask L n.b - n.v - 1) := by
    show cntF L (i + 1) i = _
    rw [cntF, if_neg (by omega), hn]
  rw [this, h.cntF_eq i n.a (by omega), h.cntF_eq i n.b (by omega)]
end
end Go.Proofs.Ytailpphafoamfaa
