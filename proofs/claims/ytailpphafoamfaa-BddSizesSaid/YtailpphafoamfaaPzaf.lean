/- Combining: a variable is decided. The combiner. Combining, whatever is combined. What a diagram needs: marked from its node on, and how many that can be. -/
import Derived.Laws.EntriesVeiled
import Derived.Test.YtailpphafoamfaaPzae
set_option linter.all false
namespace Go.Proofs.Ytailpphafoamfaa
open Go Go.RowKit Go.Maps


section
variable {st : Nat → Nat → Nat → Nat × Bool} {op : Bool → Bool → Bool → Bool} {w w' : World} {o o' : Nat → Nat} {g g' : SG} {D D' : DG} {E : Env} {d : Nat} {mp mp' : Value → Option Value}
structure MinI (wb : World) (v : Nat) (N : Nat) (w5 : World) : Prop where
  gr : wb.grownBy w5 none
  ge : wb.heap.size ≤ N
  lt : N < w5.heap.size
  cell : w5.heap[N]? = some (.cells #[.int .i32 (v : Int)] 21 (0, 0))
theorem min3 (a b c : Nat) : (if (if (b : Int) < (a : Int) then (b : Int) else (a : Int)) > (c : Int) then (c : Int) else (if (b : Int) < (a : Int) then (b : Int) else (a : Int))) = ((min a (min b c) : Nat) : Int) := by
  split <;> split <;> omega
theorem run_min3 (a b c : Nat) (w : World) : (Builtin.min_ #[21, 21, 21] 21 #[.int .i32 (a : Int), .int .i32 (b : Int), .int .i32 (c : Int)]).run Try.prog w = .ok (.int .i32 ((min a (min b c) : Nat) : Int)) w := by
  simp [Builtin.min_, go_sem, Try.underlying21]
  simp [Builtin.min2, go_sem]
  split <;> split <;> omega
theorem DS.keep7 (h : DS w o g D) (k : Keep (· == 7) w o w' o) (hz : w.heap.size ≤ w'.heap.size) : DS w' o g D := ⟨h.st.keep k ⟨rfl, rfl, rfl⟩ (fun b hb => h.st.new b (Nat.le_trans hz hb)), h.dr.keep k ⟨rfl, rfl, rfl⟩⟩
theorem full_false (e : Ext g D g' D') (h : D'.full = false) : D.full = false := by
  cases hf : D.full with
  | false => rfl
  | true => rw [e.full hf] at h; cases h
section
variable {f g0 h v bf bg bh bv r0 r1 r : Nat} {wA wB wC w9 : World} {oA oB oC : Nat → Nat} {gA gB gC : SG} {DA DB DC : DG} {mA mB : Value → Option Value}
theorem side_node (hs : DS w o g D) (hi : SideIn w o g D f g0 h v bf bg bh bv)
    (c0 : CombOut op w o g D E (dec (lst g D) f v false) (dec (lst g D) g0 v false) (dec (lst g D) h v false) r0 wA oA gA DA mA)
    (c1 : CombOut op wA oA gA DA E (dec (lst gA DA) f v true) (dec (lst gA DA) g0 v true) (dec (lst gA DA) h v true) r1 wB oB gB DB mB) : NodeIn gB DB ⟨v, r0, r1⟩ where
  a := Nat.lt_of_lt_of_le c0.lt c1.ext.len_le
  b := c1.lt
  v := by have := hi.lv; have := hs.st.bd; show v < _; omega
  ok := fun hf _ => by
    have hA := full_false c1.ext hf
    have i0 := hi.keep c0.keep rfl c0.ext
    have e0 := (c0.is.resolve_left (by rw [hA]; simp))
    have e1 := (c1.is.resolve_left (by rw [hf]; simp))
    obtain ⟨K, hK, hw1, hw2⟩ := c1.ext.emore c0.ds c1.ds
    have hVA : gA.V = g.V := c0.ext.V
    have hVB : gB.V = g.V := c1.ext.V.trans hVA
    refine ⟨by rw [hVB]; exact hi.lv, ?_, ?_⟩
    · have h1 := hs.wf.m3_dec false hi.lf hi.lg hi.lh hi.lv hi.mv
      have h2 := e0.ask
      obtain ⟨K0, hK0, hw01, hw02⟩ := c0.ext.emore hs c0.ds
      rw [hK0, m3_app (hs.wf.dec_lt _ hi.lf hi.lv) (hs.wf.dec_lt _ hi.lg hi.lv) (hs.wf.dec_lt _ hi.lh hi.lv), ← hK0] at h2
      show v < ask (lst gB DB) r0
      rw [hK, ask_app e0.lt]
      omega
    · have hwA := c0.ds.wf
      have h1 := hwA.m3_dec true i0.lf i0.lg i0.lh i0.lv i0.mv
      have h2 := e1.ask
      rw [hK, m3_app (hwA.dec_lt _ i0.lf i0.lv) (hwA.dec_lt _ i0.lg i0.lv) (hwA.dec_lt _ i0.lh i0.lv), ← hK] at h2
      show v < ask (lst gB DB) r1
      omega
theorem comb_end (hs : DS w o g D) (hi : SideIn w o g D f g0 h v bf bg bh bv)
    (c0 : CombOut op w o g D E (dec (lst g D) f v false) (dec (lst g D) g0 v false) (dec (lst g D) h v false) r0 wA oA gA DA mA)
    (c1 : CombOut op wA oA gA DA E (dec (lst gA DA) f v true) (dec (lst gA DA) g0 v true) (dec (lst gA DA) h v true) r1 wB oB gB DB mB)
    (cn : NodeOut wB oB gB DB ⟨v, r0, r1⟩ r wC oC gC DC)
    (hm : MapIs 125 w9 E.bd (updV mB (key3 f g0 h) (.int .i32 (r : Int)))) (ht : wC.grownBy w9 (some E.bd)) : CombOut op w o g D E f g0 h r w9 oC gC DC (updV mB (key3 f g0 h) (.int .i32 (r : Int))) := by
  have i0 := hi.keep c0.keep rfl c0.ext
  have ex1 := c0.ext.trans c1.ext
  have ex2 := ex1.trans cn.ext
  have aC := c1.at_.keep cn.keep rfl rfl
  have k9 : Keep (· == 7) wC oC w9 oC := Keep.grown ht (fun k e => by cases e; rw [aC.od]; rfl) (fun _ _ => rfl)
  have dd : DA.d = D.d := c0.ext.d
  have hwA := c0.ds.wf
  have hwB := c1.ds.wf
  have hVA : gA.V = g.V := c0.ext.V
  have hVB : gB.V = g.V := c1.ext.V.trans hVA
  have hVC : gC.V = g.V := cn.ext.V.trans hVB
  have p0 := hs.wf.m3_dec false hi.lf hi.lg hi.lh hi.lv hi.mv
  have p1 := hwA.m3_dec true i0.lf i0.lg i0.lh i0.lv i0.mv
  have pw := pow_two hi.lv p0 p1
  have comb : DC.full = true ∨ CombIs op (lst gC DC) f g0 h r := by
    cases hC : DC.full with
    | true => exact .inl rfl
    | false =>
      right
      have hB := full_false cn.ext hC
      have hA := full_false c1.ext hB
      have e0 := (c0.is.resolve_left (by rw [hA]; simp))
      have e1 := (c1.is.resolve_left (by rw [hB]; simp))
      have en := cn.is.resolve_left (by rintro ⟨-, h2⟩; rw [hC] at h2; cases h2)
      -- all in the last list
      have fA := c0.ext
      have e0' : CombIs op (lst gC DC) (dec (lst gC DC) f v false) (dec (lst gC DC) g0 v false) (dec (lst gC DC) h v false) r0 := by
        have q1 := hs.wf.dec_lt false hi.lf hi.lv
        have q2 := hs.wf.dec_lt false hi.lg hi.lv
        have q3 := hs.wf.dec_lt false hi.lh hi.lv
        rw [ex2.edec hi.lf, ex2.edec hi.lg, ex2.edec hi.lh]
        exact (c1.ext.trans cn.ext).ecomb c0.ds cn.ds (Nat.lt_of_lt_of_le q1 c0.ext.len_le) (Nat.lt_of_lt_of_le q2 c0.ext.len_le) (Nat.lt_of_lt_of_le q3 c0.ext.len_le) e0
      have e1' : CombIs op (lst gC DC) (dec (lst gC DC) f v true) (dec (lst gC DC) g0 v true) (dec (lst gC DC) h v true) r1 := by
        have q1 := hwA.dec_lt true i0.lf i0.lv
        have q2 := hwA.dec_lt true i0.lg i0.lv
        have q3 := hwA.dec_lt true i0.lh i0.lv
        rw [(c1.ext.trans cn.ext).edec i0.lf, (c1.ext.trans cn.ext).edec i0.lg, (c1.ext.trans cn.ext).edec i0.lh]
        exact cn.ext.ecomb c1.ds cn.ds (Nat.lt_of_lt_of_le q1 c1.ext.len_le) (Nat.lt_of_lt_of_le q2 c1.ext.len_le) (Nat.lt_of_lt_of_le q3 c1.ext.len_le) e1
      have iC := hi.keep (T := fun _ => true) (o' := oC) (w' := wC) (g' := gC) (D' := DC)
      exact cn.ds.wf.comb (Nat.lt_of_lt_of_le hi.lf ex2.len_le) (Nat.lt_of_lt_of_le hi.lg ex2.len_le) (Nat.lt_of_lt_of_le hi.lh ex2.len_le) (by rw [hVC]; exact hi.lv) (by rw [ex2.em3 hi.lf hi.lg hi.lh]; exact hi.mv) e0' e1' en
  refine ⟨cn.ds.keep7 k9 ht.size, ?_, ?_, ((c0.keep.trans c1.keep).trans (cn.keep.more td_tc)).trans (k9.more (tc_of fun t ht => by simp at ht; omega)), ex2, cn.lt, comb, ?_, ?_⟩
  · have a9 : ∀ {b : Nat} {x : Value}, wC.cell? ⟨b, 0, none⟩ = some x → oC b = 0 → w9.cell? ⟨b, 0, none⟩ = some x := fun {b x} hc ho => (k9.box hc ho rfl).1
    exact ⟨by rw [← dd]; exact a9 aC.c2 aC.o2, a9 aC.c3 aC.o3, a9 aC.c5 aC.o5, a9 aC.c6 aC.o6, aC.o2, aC.o3, aC.o5, aC.o6, aC.od, hm⟩
  · rcases comb with hc | hc
    · exact .inl hc
    · cases hC : DC.full with
      | true => exact .inl rfl
      | false =>
        right
        have hB := full_false cn.ext hC
        have hd := cn.ext.edone c1.ds cn.ds (c1.mp.resolve_left (by rw [hB]; simp))
        intro y x hy
        by_cases e : y = key3 f g0 h
        · rw [e, updV_same] at hy
          cases hy
          exact ⟨f, g0, h, r, e, rfl, Nat.lt_of_lt_of_le hi.lf ex2.len_le, Nat.lt_of_lt_of_le hi.lg ex2.len_le, Nat.lt_of_lt_of_le hi.lh ex2.len_le, hc⟩
        · rw [updV_other _ _ e] at hy
          exact hd y x hy
  · have q0 := c0.len
    have q1 := c1.len
    have q2 := cn.len
    rw [hVA] at q1
    have : m3 (lst g D) f g0 h = v := hi.mv
    rw [this]
    omega
  · have q0 := c0.W
    have q1 := c1.W
    have q2 := cn.W1
    rw [hVA] at q1
    have : m3 (lst g D) f g0 h = v := hi.mv
    rw [this]
    omega
end
theorem field63 (a b c : Value) (w : World) : (Instr.field 63 (.agg #[a, b, c]) 0).run Try.prog w = .ok a w := by kernel_rfl
theorem grown_far {w w' : World} (h : w.grownBy w' none) {k : Nat} (hk : k < w.heap.size) : w'.heap[k]? = w.heap[k]? := h.block k hk (by simp)
set_option maxHeartbeats 8000000 in
set_option maxRecDepth 100000 in
theorem comb_main {n : Nat} (S : Settles st op) (IH : ∀ k, k < n → CombC st op k) (w : World) (o : Nat → Nat) (g : SG) (D : DG) (E : Env) (mp : Value → Option Value) (f g0 h : Nat) (hs : DS w o g D) (ha : CombAt w o D.d E mp) (hf : SetF E.fv st) (hfu : D.full = false) (hd : DoneOk op (lst g D) mp) (lf : f < (lst g D).length) (lg : g0 < (lst g D).length) (lh : h < (lst g D).length) (hn : g.V ≤ n + m3 (lst g D) f g0 h) (hst : (st f g0 h).2 = false) (hx : mp (key3 f g0 h) = none) :
    Calls Try.prog 69 #[.int .i32 (f : Int), .int .i32 (g0 : Int), .int .i32 (h : Int), .pointer (some ⟨E.b2, 0, none⟩), .pointer (some ⟨E.b3, 0, none⟩), .pointer (some ⟨E.b5, 0, none⟩), .pointer (some ⟨E.b6, 0, none⟩)] w (CombPost op w o g D E f g0 h) := by
  obtain ⟨fid, hfv, hfe, hfc⟩ := id hf
  have c2 := ha.c2
  have c3 := ha.c3
  have c5 := ha.c5
  have c6 := ha.c6
  have d5 := hs.dr.c5
  rw [hfu] at d5
  rw [hfv] at c3
  have l2 : E.b2 < w.heap.size := lt_cell c2
  have l3 : E.b3 < w.heap.size := lt_cell c3
  have l5 : E.b5 < w.heap.size := lt_cell c5
  have l6 : E.b6 < w.heap.size := lt_cell c6
  have ld := hs.dr.ltd
  have l2' : E.b2 < w.heap.size + 1 := by omega
  have l2'' : E.b2 < w.heap.size + 1 + 1 := by omega
  have l3' : E.b3 < w.heap.size + 1 := by omega
  have l3'' : E.b3 < w.heap.size + 1 + 1 := by omega
  have l5' : E.b5 < w.heap.size + 1 := by omega
  have l5'' : E.b5 < w.heap.size + 1 + 1 := by omega
  have l6' : E.b6 < w.heap.size + 1 := by omega
  have l6'' : E.b6 < w.heap.size + 1 + 1 := by omega
  have ld' : D.d < w.heap.size + 1 := by omega
  have ld'' : D.d < w.heap.size + 1 + 1 := by omega
  have HFC := Lib.hid hfc
  have HFE := Lib.hid hfe
  have HS := Lib.hid hs
  have HA := Lib.hid ha
  have HD := Lib.hid hd
  have HFV := Lib.hid hfv
  have HL := Lib.hid (show f < (lst g D).length ∧ g0 < (lst g D).length ∧ h < (lst g D).length from ⟨lf, lg, lh⟩)
  have HN := Lib.hid hn
  have HFU := Lib.hid hfu
  have HSS := Lib.hid S
  obtain ⟨r, hr⟩ : ∃ r, (st f g0 h).1 = r := ⟨_, rfl⟩
  have hke := isK125 (a := f) (b := g0) (c := h) (by have := HS.out.len; omega) (by have := HS.out.len; omega) (by have := HS.out.len; omega)
  have hlk := ((ha.grown (w3_grown w f g0 h)).map).look K125 Try.underlying124 (z21 _) hke
  unfold w3 i32 at hlk
  have hlk2 : mp (.agg #[.int .i32 (f : Int), .int .i32 (g0 : Int), .int .i32 (h : Int)]) = none := hx
  rw [hlk2] at hlk
  simp only [Option.getD_none, Option.isSome_none] at hlk
  have HC := Lib.hid (HFC.out f g0 h (((w.alloc (.cells #[.int .i32 (f : Int)] 21)).alloc (.cells #[.int .i32 (g0 : Int)] 21)).alloc (.cells #[.int .i32 (h : Int)] 21)))
  rw [hr, hst] at HC
  have hfe2 := HFE.out
  have HF := Lib.hid (show SetF E.fv st from hf)
  have HG3 := Lib.hid (w3_grown w f g0 h)
  have HB3 := Lib.hid (w3_cells w f g0 h)
  obtain ⟨nf, hnf⟩ := get_lt lf
  obtain ⟨ng, hng⟩ := get_lt lg
  obtain ⟨nh, hnh⟩ := get_lt lh
  have HAF := Lib.hid (fun w' (hw : w.grownBy w' none) => at_any (hs.grown hw).st (hs.grown hw).dr hnf)
  have HAG := Lib.hid (fun w' (hw : w.grownBy w' none) => at_any (hs.grown hw).st (hs.grown hw).dr hng)
  have HAH := Lib.hid (fun w' (hw : w.grownBy w' none) => at_any (hs.grown hw).st (hs.grown hw).dr hnh)
  obtain ⟨v, hv⟩ : ∃ v, m3 (lst g D) f g0 h = v := ⟨_, rfl⟩
  have HV := Lib.hid hv
  have HM := Lib.hid (show min nf.v (min ng.v nh.v) = v by rw [← hv]; unfold m3; rw [ask_at hnf, ask_at hng, ask_at hnh])
  have HVL := Lib.hid (show v < g.V by
    rw [← hv]
    have hw := hs.wf
    rcases S.no f g0 h hst with h1 | h1 | h1
    · have := hw.ask_lt h1 lf; unfold m3; omega
    · have := hw.ask_lt h1 lg; unfold m3; omega
    · have := hw.ask_lt h1 lh; unfold m3; omega)
  have HIH := Lib.hid IH
  have HO := Lib.hid hs.st.new
  have HX := Lib.hid hx
  have HKE := Lib.hid hke
  clear hs ha hf hd lf lg lh hn hfu S hr hst hfc hfv hfe HFC HSS hke hlk2 hx hnf hng hnh hv IH
  go_enter Try.func69, Try.ntmps69
  go_wp2_with fail
  refine (HC.out).mono ?_
  rintro e w1 ⟨rfl, hw1⟩
  have hw1' : w3 w f g0 h = w1 := hw1.symm
  rw [hw1'] at HG3 HB3
  rw [← hw1] at hlk
  have hgr := HG3.out
  replace c2 := (World.cell?_of_block (a := ⟨E.b2, 0, none⟩) (grown_far hgr l2)).trans c2
  replace c5 := (World.cell?_of_block (a := ⟨E.b5, 0, none⟩) (grown_far hgr l5)).trans c5
  replace c6 := (World.cell?_of_block (a := ⟨E.b6, 0, none⟩) (grown_far hgr l6)).trans c6
  obtain ⟨k7, k8, k9, hsz⟩ := HB3.out
  obtain ⟨B7, hB7⟩ : ∃ B7, w.heap.size = B7 := ⟨_, rfl⟩
  obtain ⟨B8, hB8⟩ : ∃ B8, w.heap.size + 1 = B8 := ⟨_, rfl⟩
  obtain ⟨B9, hB9⟩ : ∃ B9, w.heap.size + 1 + 1 = B9 := ⟨_, rfl⟩
  have HBS := Lib.hid (show w.heap.size = B7 ∧ B8 = B7 + 1 ∧ B9 = B7 + 2 ∧ w1.heap.size = B7 + 3 by omega)
  clear hw1 hw1' hgr HB3 hsz c3 d5 HC
  rw [hB9] at k9
  rw [hB8] at k8
  rw [hB7] at k7
  rw [hB9, hB8, hB7]
  clear hB7 hB8 hB9 l2' l2'' l3' l3'' l5' l5'' l6' l6'' ld' ld''
  clear l2 l3 l5 l6 ld
  go_wp2
  refine wp_cut (α := Nat) (fun a N => ((((((((((((((a.put (some 43) (.pointer (some ⟨D.d, 0, none⟩))).put (some 44) (.int .i32 (f : Int))).put (some 45) (.agg #[.int .i32 (nf.v : Int), .int .i32 (nf.a : Int), .int .i32 (nf.b : Int)])).put (some 46) (.int .i32 (nf.v : Int))).put (some 47) (.pointer (some ⟨D.d, 0, none⟩))).put (some 48) (.int .i32 (g0 : Int))).put (some 49) (.agg #[.int .i32 (ng.v : Int), .int .i32 (ng.a : Int), .int .i32 (ng.b : Int)])).put (some 50) (.int .i32 (ng.v : Int))).put (some 51) (.pointer (some ⟨D.d, 0, none⟩))).put (some 52) (.int .i32 (h : Int))).put (some 53) (.agg #[.int .i32 (nh.v : Int), .int .i32 (nh.a : Int), .int .i32 (nh.b : Int)])).put (some 54) (.int .i32 (nh.v : Int))).put (some 55) (.int .i32 (v : Int))).put (some 15) (.pointer (some ⟨N, 0, none⟩)))) (MinI w1 v) ?_ ?_
  · refine wp_region_T (S := fun w' => ∀ k ∈ [E.b2, B7, B8, B9], w'.heap[k]? = w1.heap[k]?) (tail := fun j => decide (14 ≤ j)) (by kernel_rfl) ?_
    change wpAnyT _ _ _ _ _ _ _ _ _ (World.drew w1)
    have BD := Lib.hid (show ∀ k ∈ [E.b2, B7, B8, B9], (World.drew w1).heap[k]? = w1.heap[k]? from fun _ _ => rfl)
    have HGwd := Lib.hid (show w1.grownBy (World.drew w1) none from grown_drewN w1 1)
    have Bwd := Lib.hid BD.out
    have HLT := Lib.hid (show ∀ k ∈ [E.b2, B7, B8, B9], k < w1.heap.size from fun k hk => by
      simp at hk
      rcases hk with rfl | rfl | rfl | rfl
      · exact lt_cell c2
      · exact lt_cell k7
      · exact lt_cell k8
      · exact lt_cell k9)
    refine tk 0 43 (.pointer (some ⟨D.d, 0, none⟩)) BD.out ?y0 ?_
    case y0 =>
      intro w' hw'
      have y0 := (World.cell?_of_block (a := ⟨E.b2, 0, none⟩) (hw' _ (by simp))).trans c2
      go_simp
    try simp only [Act.put, List.setIfInBounds_toArray, List.set_cons_zero, List.set_cons_succ]
    refine tk 1 44 (.int .i32 ((f : Nat) : Int)) BD.out ?y1 ?_
    case y1 =>
      intro w' hw'
      have y0 := (World.cell?_of_block (a := ⟨B7, 0, none⟩) (hw' _ (by simp))).trans k7
      go_simp
    try simp only [Act.put, List.setIfInBounds_toArray, List.set_cons_zero, List.set_cons_succ]
    refine tk 4 47 (.pointer (some ⟨D.d, 0, none⟩)) BD.out ?y4 ?_
    case y4 =>
      intro w' hw'
      have y0 := (World.cell?_of_block (a := ⟨E.b2, 0, none⟩) (hw' _ (by simp))).trans c2
      go_simp
    try simp only [Act.put, List.setIfInBounds_toArray, List.set_cons_zero, List.set_cons_succ]
    refine tk 5 48 (.int .i32 ((g0 : Nat) : Int)) BD.out ?y5 ?_
    case y5 =>
      intro w' hw'
      have y0 := (World.cell?_of_block (a := ⟨B8, 0, none⟩) (hw' _ (by simp))).trans k8
      go_simp
    try simp only [Act.put, List.setIfInBounds_toArray, List.set_cons_zero, List.set_cons_succ]
    refine tk 8 51 (.pointer (some ⟨D.d, 0, none⟩)) BD.out ?y8 ?_
    case y8 =>
      intro w' hw'
      have y0 := (World.cell?_of_block (a := ⟨E.b2, 0, none⟩) (hw' _ (by simp))).trans c2
      go_simp
    try simp only [Act.put, List.setIfInBounds_toArray, List.set_cons_zero, List.set_cons_succ]
    refine tk 9 52 (.int .i32 ((h : Nat) : Int)) BD.out ?y9 ?_
    case y9 =>
      intro w' hw'
      have y0 := (World.cell?_of_block (a := ⟨B9, 0, none⟩) (hw' _ (by simp))).trans k9
      go_simp
    try simp only [Act.put, List.setIfInBounds_toArray, List.set_cons_zero, List.set_cons_succ]
    generalize World.drew w1 = wd at *
    refine tw 2 13 (fun K hK => ?_) (fun K hK => ?_)
    · go_simp
      refine (HAF.out wd (grown_trans HG3.out HGwd.out)).mono ?_
      rintro e x1 ⟨rfl, hg⟩
      have HGx1 := Lib.hid (grown_trans HGwd.out hg)
      have Bx1 := Lib.hid (show ∀ k ∈ [E.b2, B7, B8, B9], x1.heap[k]? = w1.heap[k]? from fun k hk => (grown_far hg (Nat.lt_of_lt_of_le (HLT.out k hk) HGwd.out.size)).trans (Bwd.out k hk))
      clear hg
      unfold ndV
      refine hK.out _ _ (fun _ => Bx1.out) ?_
      clear hK K
      try simp only [Act.put, List.setIfInBounds_toArray, List.set_cons_zero, List.set_cons_succ]
      refine tk 3 46 (.int .i32 (nf.v : Int)) Bx1.out ?y3 ?_
      case y3 =>
        intro w' hw'
        have y0 := field63 (.int .i32 (nf.v : Int)) (.int .i32 (nf.a : Int)) (.int .i32 (nf.b : Int)) w'
        go_simp
      try simp only [Act.put, List.setIfInBounds_toArray, List.set_cons_zero, List.set_cons_succ]
      refine tw 6 13 (fun K hK => ?_) (fun K hK => ?_)
      · go_simp
        refine (HAG.out x1 (grown_trans HG3.out HGx1.out)).mono ?_
        rintro e x2 ⟨rfl, hg⟩
        have HGx2 := Lib.hid (grown_trans HGx1.out hg)
        have Bx2 := Lib.hid (show ∀ k ∈ [E.b2, B7, B8, B9], x2.heap[k]? = w1.heap[k]? from fun k hk => (grown_far hg (Nat.lt_of_lt_of_le (HLT.out k hk) HGx1.out.size)).trans (Bx1.out k hk))
        clear hg
        unfold ndV
        refine hK.out _ _ (fun _ => Bx2.out) ?_
        clear hK K
        try simp only [Act.put, List.setIfInBounds_toArray, List.set_cons_zero, List.set_cons_succ]
        refine tk 7 50 (.int .i32 (ng.v : Int)) Bx2.out ?y7 ?_
        case y7 =>
          intro w' hw'
          have y0 := field63 (.int .i32 (ng.v : Int)) (.int .i32 (ng.a : Int)) (.int .i32 (ng.b : Int)) w'
          go_simp
        try simp only [Act.put, List.setIfInBounds_toArray, List.set_cons_zero, List.set_cons_succ]
        refine tw 10 13 (fun K hK => ?_) (fun K hK => ?_)
        · go_simp
          refine (HAH.out x2 (grown_trans HG3.out HGx2.out)).mono ?_
          rintro e x3 ⟨rfl, hg⟩
          have HGx3 := Lib.hid (grown_trans HGx2.out hg)
          have Bx3 := Lib.hid (show ∀ k ∈ [E.b2, B7, B8, B9], x3.heap[k]? = w1.heap[k]? from fun k hk => (grown_far hg (Nat.lt_of_lt_of_le (HLT.out k hk) HGx2.out.size)).trans (Bx2.out k hk))
          clear hg
          unfold ndV
          refine hK.out _ _ (fun _ => Bx3.out) ?_
          clear hK K
          try simp only [Act.put, List.setIfInBounds_toArray, List.set_cons_zero, List.set_cons_succ]
          refine tk 11 54 (.int .i32 (nh.v : Int)) Bx3.out ?y11 ?_
          case y11 =>
            intro w' hw'
            have y0 := field63 (.int .i32 (nh.v : Int)) (.int .i32 (nh.a : Int)) (.int .i32 (nh.b : Int)) w'
            go_simp
          try simp only [Act.put, List.setIfInBounds_toArray, List.set_cons_zero, List.set_cons_succ]
          refine tk 12 55 (.int .i32 (v : Int)) Bx3.out ?y12 ?_
          case y12 =>
            intro w' hw'
            have y0 := run_min3 nf.v ng.v nh.v w'
            rw [HM.out] at y0
            go_simp
          try simp only [Act.put, List.setIfInBounds_toArray, List.set_cons_zero, List.set_cons_succ]
          refine on 13 (fun K hK => ?_)
          go_simp
          obtain ⟨N4, hN2⟩ : ∃ N2, x3.heap.size = N2 := ⟨_, rfl⟩
          obtain ⟨y4, hW2⟩ : ∃ W2, x3.alloc (.cells #[.int .i32 0] 21) = W2 := ⟨_, rfl⟩
          have HGy4 := Lib.hid (show w1.grownBy y4 none from by rw [← hW2]; exact grown_trans HGx3.out (grown_alloc _ _))
          have By4 := Lib.hid (show ∀ k ∈ [E.b2, B7, B8, B9], y4.heap[k]? = w1.heap[k]? from fun k hk => by rw [← hW2]; exact (heap_alloc_old (Nat.lt_of_lt_of_le (HLT.out k hk) HGx3.out.size)).trans (Bx3.out k hk))
          have HNy4 := Lib.hid (show y4.heap[N4]? = some (.cells #[.int .i32 0] 21 (0, 0)) from by rw [← hW2, ← hN2]; exact (MapKept.heap_alloc x3 _).1)
          have HLy4 := Lib.hid (show N4 < y4.heap.size from by rw [← hW2, ← hN2]; simp)
          have HEy4 := Lib.hid (show w1.heap.size ≤ N4 from by rw [← hN2]; exact HGx3.out.size)
          rw [hW2, hN2]
          clear hW2 hN2
          refine hK.out _ _ (fun _ => By4.out) ?_
          clear hK K
          try simp only [Act.put, List.setIfInBounds_toArray, List.set_cons_zero, List.set_cons_succ]
          have cz : y4.cell? ⟨N4, 0, none⟩ = some (.int .i32 0) := by unfold World.cell?; rw [HNy4.out]; rfl
          have fz : y4.frozen? ⟨N4, 0, none⟩ = false := by unfold World.frozen?; rw [HNy4.out]; rfl
          refine on 14 (fun K hK => ?_)
          go_simp
          refine hK.out _ _ (fun h => absurd h (by decide)) ?_
          clear hK K
          try simp only [Act.put, List.setIfInBounds_toArray, List.set_cons_zero, List.set_cons_succ]
          refine dn ?_
          refine ⟨N4, ?_, ?_⟩
          · simp only [Act.put, List.setIfInBounds_toArray, List.set_cons_zero, List.set_cons_succ]
          · have hgs := grown_set y4 ⟨N4, 0, none⟩ (.int .i32 (v : Int))
            have hg0 := HGy4.out
            have hge := HEy4.out
            exact ⟨⟨hgs.os.trans hg0.os, hgs.tape.trans hg0.tape, hgs.output.trans hg0.output, Nat.le_trans hg0.size hgs.size, fun k hk _ => (hgs.block k (Nat.lt_of_lt_of_le hk hg0.size) (by simp; omega)).trans (grown_far hg0 hk)⟩, hge, Nat.lt_of_lt_of_le HLy4.out hgs.size, heap_set _ HNy4.out⟩
        · go_simp
          obtain ⟨N3, hN2⟩ : ∃ N2, x2.heap.size = N2 := ⟨_, rfl⟩
          obtain ⟨y3, hW2⟩ : ∃ W2, x2.alloc (.cells #[.int .i32 0] 21) = W2 := ⟨_, rfl⟩
          have HGy3 := Lib.hid (show w1.grownBy y3 none from by rw [← hW2]; exact grown_trans HGx2.out (grown_alloc _ _))
          have By3 := Lib.hid (show ∀ k ∈ [E.b2, B7, B8, B9], y3.heap[k]? = w1.heap[k]? from fun k hk => by rw [← hW2]; exact (heap_alloc_old (Nat.lt_of_lt_of_le (HLT.out k hk) HGx2.out.size)).trans (Bx2.out k hk))
          have HNy3 := Lib.hid (show y3.heap[N3]? = some (.cells #[.int .i32 0] 21 (0, 0)) from by rw [← hW2, ← hN2]; exact (MapKept.heap_alloc x2 _).1)
          have HLy3 := Lib.hid (show N3 < y3.heap.size from by rw [← hW2, ← hN2]; simp)
          have HEy3 := Lib.hid (show w1.heap.size ≤ N3 from by rw [← hN2]; exact HGx2.out.size)
          rw [hW2, hN2]
          clear hW2 hN2
          refine hK.out _ _ (fun _ => By3.out) ?_
          clear hK K
          try simp only [Act.put, List.setIfInBounds_toArray, List.set_cons_zero, List.set_cons_succ]
          refine on 10 (fun K hK => ?_)
          go_simp
          refine (HAH.out y3 (grown_trans HG3.out HGy3.out)).mono ?_
          rintro e x5 ⟨rfl, hg⟩
          have HGx5 := Lib.hid (grown_trans HGy3.out hg)
          have Bx5 := Lib.hid (show ∀ k ∈ [E.b2, B7, B8, B9], x5.heap[k]? = w1.heap[k]? from fun k hk => (grown_far hg (Nat.lt_of_lt_of_le (HLT.out k hk) HGy3.out.size)).trans (By3.out k hk))
          have HNx5 := Lib.hid ((grown_far hg (HLy3.out)).trans HNy3.out)
          have HLx5 := Lib.hid (Nat.lt_of_lt_of_le HLy3.out hg.size)
          clear hg
          unfold ndV
          refine hK.out _ _ (fun _ => Bx5.out) ?_
          clear hK K
          try simp only [Act.put, List.setIfInBounds_toArray, List.set_cons_zero, List.set_cons_succ]
          refine tk 11 54 (.int .i32 (nh.v : Int)) Bx5.out ?y11 ?_
          case y11 =>
            intro w' hw'
            have y0 := field63 (.int .i32 (nh.v : Int)) (.int .i32 (nh.a : Int)) (.int .i32 (nh.b : Int)) w'
            go_simp
          try simp only [Act.put, List.setIfInBounds_toArray, List.set_cons_zero, List.set_cons_succ]
          refine tk 12 55 (.int .i32 (v : Int)) Bx5.out ?y12 ?_
          case y12 =>
            intro w' hw'
            have y0 := run_min3 nf.v ng.v nh.v w'
            rw [HM.out] at y0
            go_simp
          try simp only [Act.put, List.setIfInBounds_toArray, List.set_cons_zero, List.set_cons_succ]
          have cz : x5.cell? ⟨N3, 0, none⟩ = some (.int .i32 0) := by unfold World.cell?; rw [HNx5.out]; rfl
          have fz : x5.frozen? ⟨N3, 0, none⟩ = false := by unfold World.frozen?; rw [HNx5.out]; rfl
          refine on 14 (fun K hK => ?_)
          go_simp
          refine hK.out _ _ (fun h => absurd h (by decide)) ?_
          clear hK K
          try simp only [Act.put, List.setIfInBounds_toArray, List.set_cons_zero, List.set_cons_succ]
          refine dn ?_
          refine ⟨N3, ?_, ?_⟩
          · simp only [Act.put, List.setIfInBounds_toArray, List.set_cons_zero, List.set_cons_succ]
          · have hgs := grown_set x5 ⟨N3, 0, none⟩ (.int .i32 (v : Int))
            have hg0 := HGx5.out
            have hge := HEy3.out
            exact ⟨⟨hgs.os.trans hg0.os, hgs.tape.trans hg0.tape, hgs.output.trans hg0.output, Nat.le_trans hg0.size hgs.size, fun k hk _ => (hgs.block k (Nat.lt_of_lt_of_le hk hg0.size) (by simp; omega)).trans (grown_far hg0 hk)⟩, hge, Nat.lt_of_lt_of_le HLx5.out hgs.size, heap_set _ HNx5.out⟩
      · go_simp
        obtain ⟨N2, hN2⟩ : ∃ N2, x1.heap.size = N2 := ⟨_, rfl⟩
        obtain ⟨y2, hW2⟩ : ∃ W2, x1.alloc (.cells #[.int .i32 0] 21) = W2 := ⟨_, rfl⟩
        have HGy2 := Lib.hid (show w1.grownBy y2 none from by rw [← hW2]; exact grown_trans HGx1.out (grown_alloc _ _))
        have By2 := Lib.hid (show ∀ k ∈ [E.b2, B7, B8, B9], y2.heap[k]? = w1.heap[k]? from fun k hk => by rw [← hW2]; exact (heap_alloc_old (Nat.lt_of_lt_of_le (HLT.out k hk) HGx1.out.size)).trans (Bx1.out k hk))
        have HNy2 := Lib.hid (show y2.heap[N2]? = some (.cells #[.int .i32 0] 21 (0, 0)) from by rw [← hW2, ← hN2]; exact (MapKept.heap_alloc x1 _).1)
        have HLy2 := Lib.hid (show N2 < y2.heap.size from by rw [← hW2, ← hN2]; simp)
        have HEy2 := Lib.hid (show w1.heap.size ≤ N2 from by rw [← hN2]; exact HGx1.out.size)
        rw [hW2, hN2]
        clear hW2 hN2
        refine hK.out _ _ (fun _ => By2.out) ?_
        clear hK K
        try simp only [Act.put, List.setIfInBounds_toArray, List.set_cons_zero, List.set_cons_succ]
        refine on 6 (fun K hK => ?_)
        go_simp
        refine (HAG.out y2 (grown_trans HG3.out HGy2.out)).mono ?_
        rintro e x7 ⟨rfl, hg⟩
        have HGx7 := Lib.hid (grown_trans HGy2.out hg)
        have Bx7 := Lib.hid (show ∀ k ∈ [E.b2, B7, B8, B9], x7.heap[k]? = w1.heap[k]? from fun k hk => (grown_far hg (Nat.lt_of_lt_of_le (HLT.out k hk) HGy2.out.size)).trans (By2.out k hk))
        have HNx7 := Lib.hid ((grown_far hg (HLy2.out)).trans HNy2.out)
        have HLx7 := Lib.hid (Nat.lt_of_lt_of_le HLy2.out hg.size)
        clear hg
        unfold ndV
        refine hK.out _ _ (fun _ => Bx7.out) ?_
        clear hK K
        try simp only [Act.put, List.setIfInBounds_toArray, List.set_cons_zero, List.set_cons_succ]
        refine tk 7 50 (.int .i32 (ng.v : Int)) Bx7.out ?y7 ?_
        case y7 =>
          intro w' hw'
          have y0 := field63 (.int .i32 (ng.v : Int)) (.int .i32 (ng.a : Int)) (.int .i32 (ng.b : Int)) w'
          go_simp
        try simp only [Act.put, List.setIfInBounds_toArray, List.set_cons_zero, List.set_cons_succ]
        refine on 10 (fun K hK => ?_)
        go_simp
        refine (HAH.out x7 (grown_trans HG3.out HGx7.out)).mono ?_
        rintro e x8 ⟨rfl, hg⟩
        have HGx8 := Lib.hid (grown_trans HGx7.out hg)
        have Bx8 := Lib.hid (show ∀ k ∈ [E.b2, B7, B8, B9], x8.heap[k]? = w1.heap[k]? from fun k hk => (grown_far hg (Nat.lt_of_lt_of_le (HLT.out k hk) HGx7.out.size)).trans (Bx7.out k hk))
        have HNx8 := Lib.hid ((grown_far hg (HLx7.out)).trans HNx7.out)
        have HLx8 := Lib.hid (Nat.lt_of_lt_of_le HLx7.out hg.size)
        clear hg
        unfold ndV
        refine hK.out _ _ (fun _ => Bx8.out) ?_
        clear hK K
        try simp only [Act.put, List.setIfInBounds_toArray, List.set_cons_zero, List.set_cons_succ]
        refine tk 11 54 (.int .i32 (nh.v : Int)) Bx8.out ?y11 ?_
        case y11 =>
          intro w' hw'
          have y0 := field63 (.int .i32 (nh.v : Int)) (.int .i32 (nh.a : Int)) (.int .i32 (nh.b : Int)) w'
          go_simp
        try simp only [Act.put, List.setIfInBounds_toArray, List.set_cons_zero, List.set_cons_succ]
        refine tk 12 55 (.int .i32 (v : Int)) Bx8.out ?y12 ?_
        case y12 =>
          intro w' hw'
          have y0 := run_min3 nf.v ng.v nh.v w'
          rw [HM.out] at y0
          go_simp
        try simp only [Act.put, List.setIfInBounds_toArray, List.set_cons_zero, List.set_cons_succ]
        have cz : x8.cell? ⟨N2, 0, none⟩ = some (.int .i32 0) := by unfold World.cell?; rw [HNx8.out]; rfl
        have fz : x8.frozen? ⟨N2, 0, none⟩ = false := by unfold World.frozen?; rw [HNx8.out]; rfl
        refine on 14 (fun K hK => ?_)
        go_simp
        refine hK.out _ _ (fun h => absurd h (by decide)) ?_
        clear hK K
        try simp only [Act.put, List.setIfInBounds_toArray, List.set_cons_zero, List.set_cons_succ]
        refine dn ?_
        refine ⟨N2, ?_, ?_⟩
        · simp only [Act.put, List.setIfInBounds_toArray, List.set_cons_zero, List.set_cons_succ]
        · have hgs := grown_set x8 ⟨N2, 0, none⟩ (.int .i32 (v : Int))
          have hg0 := HGx8.out
          have hge := HEy2.out
          exact ⟨⟨hgs.os.trans hg0.os, hgs.tape.trans hg0.tape, hgs.output.trans hg0.output, Nat.le_trans hg0.size hgs.size, fun k hk _ => (hgs.block k (Nat.lt_of_lt_of_le hk hg0.size) (by simp; omega)).trans (grown_far hg0 hk)⟩, hge, Nat.lt_of_lt_of_le HLx8.out hgs.size, heap_set _ HNx8.out⟩
    · go_simp
      obtain ⟨N1, hN2⟩ : ∃ N2, wd.heap.size = N2 := ⟨_, rfl⟩
      obtain ⟨y1, hW2⟩ : ∃ W2, wd.alloc (.cells #[.int .i32 0] 21) = W2 := ⟨_, rfl⟩
      have HGy1 := Lib.hid (show w1.grownBy y1 none from by rw [← hW2]; exact grown_trans HGwd.out (grown_alloc _ _))
      have By1 := Lib.hid (show ∀ k ∈ [E.b2, B7, B8, B9], y1.heap[k]? = w1.heap[k]? from fun k hk => by rw [← hW2]; exact (heap_alloc_old (Nat.lt_of_lt_of_le (HLT.out k hk) HGwd.out.size)).trans (Bwd.out k hk))
      have HNy1 := Lib.hid (show y1.heap[N1]? = some (.cells #[.int .i32 0] 21 (0, 0)) from by rw [← hW2, ← hN2]; exact (MapKept.heap_alloc wd _).1)
      have HLy1 := Lib.hid (show N1 < y1.heap.size from by rw [← hW2, ← hN2]; simp)
      have HEy1 := Lib.hid (show w1.heap.size ≤ N1 from by rw [← hN2]; exact HGwd.out.size)
      rw [hW2, hN2]
      clear hW2 hN2
      refine hK.out _ _ (fun _ => By1.out) ?_
      clear hK K
      try simp only [Act.put, List.setIfInBounds_toArray, List.set_cons_zero, List.set_cons_succ]
      refine on 2 (fun K hK => ?_)
      go_simp
      refine (HAF.out y1 (grown_trans HG3.out HGy1.out)).mono ?_
      rintro e x10 ⟨rfl, hg⟩
      have HGx10 := Lib.hid (grown_trans HGy1.out hg)
      have Bx10 := Lib.hid (show ∀ k ∈ [E.b2, B7, B8, B9], x10.heap[k]? = w1.heap[k]? from fun k hk => (grown_far hg (Nat.lt_of_lt_of_le (HLT.out k hk) HGy1.out.size)).trans (By1.out k hk))
      have HNx10 := Lib.hid ((grown_far hg (HLy1.out)).trans HNy1.out)
      have HLx10 := Lib.hid (Nat.lt_of_lt_of_le HLy1.out hg.size)
      clear hg
      unfold ndV
      refine hK.out _ _ (fun _ => Bx10.out) ?_
      clear hK K
      try simp only [Act.put, List.setIfInBounds_toArray, List.set_cons_zero, List.set_cons_succ]
      refine tk 3 46 (.int .i32 (nf.v : Int)) Bx10.out ?y3 ?_
      case y3 =>
        intro w' hw'
        have y0 := field63 (.int .i32 (nf.v : Int)) (.int .i32 (nf.a : Int)) (.int .i32 (nf.b : Int)) w'
        go_simp
      try simp only [Act.put, List.setIfInBounds_toArray, List.set_cons_zero, List.set_cons_succ]
      refine on 6 (fun K hK => ?_)
      go_simp
      refine (HAG.out x10 (grown_trans HG3.out HGx10.out)).mono ?_
      rintro e x11 ⟨rfl, hg⟩
      have HGx11 := Lib.hid (grown_trans HGx10.out hg)
      have Bx11 := Lib.hid (show ∀ k ∈ [E.b2, B7, B8, B9], x11.heap[k]? = w1.heap[k]? from fun k hk => (grown_far hg (Nat.lt_of_lt_of_le (HLT.out k hk) HGx10.out.size)).trans (Bx10.out k hk))
      have HNx11 := Lib.hid ((grown_far hg (HLx10.out)).trans HNx10.out)
      have HLx11 := Lib.hid (Nat.lt_of_lt_of_le HLx10.out hg.size)
      clear hg
      unfold ndV
      refine hK.out _ _ (fun _ => Bx11.out) ?_
      clear hK K
      try simp only [Act.put, List.setIfInBounds_toArray, List.set_cons_zero, List.set_cons_succ]
      refine tk 7 50 (.int .i32 (ng.v : Int)) Bx11.out ?y7 ?_
      case y7 =>
        intro w' hw'
        have y0 := field63 (.int .i32 (ng.v : Int)) (.int .i32 (ng.a : Int)) (.int .i32 (ng.b : Int)) w'
        go_simp
      try simp only [Act.put, List.setIfInBounds_toArray, List.set_cons_zero, List.set_cons_succ]
      refine on 10 (fun K hK => ?_)
      go_simp
      refine (HAH.out x11 (grown_trans HG3.out HGx11.out)).mono ?_
      rintro e x12 ⟨rfl, hg⟩
      have HGx12 := Lib.hid (grown_trans HGx11.out hg)
      have Bx12 := Lib.hid (show ∀ k ∈ [E.b2, B7, B8, B9], x12.heap[k]? = w1.heap[k]? from fun k hk => (grown_far hg (Nat.lt_of_lt_of_le (HLT.out k hk) HGx11.out.size)).trans (Bx11.out k hk))
      have HNx12 := Lib.hid ((grown_far hg (HLx11.out)).trans HNx11.out)
      have HLx12 := Lib.hid (Nat.lt_of_lt_of_le HLx11.out hg.size)
      clear hg
      unfold ndV
      refine hK.out _ _ (fun _ => Bx12.out) ?_
      clear hK K
      try simp only [Act.put, List.setIfInBounds_toArray, List.set_cons_zero, List.set_cons_succ]
      refine tk 11 54 (.int .i32 (nh.v : Int)) Bx12.out ?y11 ?_
      case y11 =>
        intro w' hw'
        have y0 := field63 (.int .i32 (nh.v : Int)) (.int .i32 (nh.a : Int)) (.int .i32 (nh.b : Int)) w'
        go_simp
      try simp only [Act.put, List.setIfInBounds_toArray, List.set_cons_zero, List.set_cons_succ]
      refine tk 12 55 (.int .i32 (v : Int)) Bx12.out ?y12 ?_
      case y12 =>
        intro w' hw'
        have y0 := run_min3 nf.v ng.v nh.v w'
        rw [HM.out] at y0
        go_simp
      try simp only [Act.put, List.setIfInBounds_toArray, List.set_cons_zero, List.set_cons_succ]
      have cz : x12.cell? ⟨N1, 0, none⟩ = some (.int .i32 0) := by unfold World.cell?; rw [HNx12.out]; rfl
      have fz : x12.frozen? ⟨N1, 0, none⟩ = false := by unfold World.frozen?; rw [HNx12.out]; rfl
      refine on 14 (fun K hK => ?_)
      go_simp
      refine hK.out _ _ (fun h => absurd h (by decide)) ?_
      clear hK K
      try simp only [Act.put, List.setIfInBounds_toArray, List.set_cons_zero, List.set_cons_succ]
      refine dn ?_
      refine ⟨N1, ?_, ?_⟩
      · simp only [Act.put, List.setIfInBounds_toArray, List.set_cons_zero, List.set_cons_succ]
      · have hgs := grown_set x12 ⟨N1, 0, none⟩ (.int .i32 (v : Int))
        have hg0 := HGx12.out
        have hge := HEy1.out
        exact ⟨⟨hgs.os.trans hg0.os, hgs.tape.trans hg0.tape, hgs.output.trans hg0.output, Nat.le_trans hg0.size hgs.size, fun k hk _ => (hgs.block k (Nat.lt_of_lt_of_le hk hg0.size) (by simp; omega)).trans (grown_far hg0 hk)⟩, hge, Nat.lt_of_lt_of_le HLx12.out hgs.size, heap_set _ HNx12.out⟩
  · intro N w5 hI
    simp only [Act.put, List.setIfInBounds_toArray, List.set_cons_zero, List.set_cons_succ]
    have hmf : ∀ (fn : Fn) (first cap : Array Value) (w : World), (Instr.makeFunc fn first cap).run Try.prog w = .ok (.func fn first cap) w := fun _ _ _ _ => rfl
    have hg5 := hI.gr
    have HG5 := Lib.hid (grown_trans HG3.out hg5)
    have HS5 := Lib.hid (HS.out.grown HG5.out)
    have HA5 := Lib.hid (HA.out.grown HG5.out)
    have hcv : w5.cell? ⟨N, 0, none⟩ = some (.int .i32 (v : Int)) := by unfold World.cell?; rw [hI.cell]; rfl
    replace k7 := (World.cell?_of_block (a := ⟨B7, 0, none⟩) (grown_far hg5 (lt_cell k7))).trans k7
    replace k8 := (World.cell?_of_block (a := ⟨B8, 0, none⟩) (grown_far hg5 (lt_cell k8))).trans k8
    replace k9 := (World.cell?_of_block (a := ⟨B9, 0, none⟩) (grown_far hg5 (lt_cell k9))).trans k9
    have HSI := Lib.hid (show SideIn w5 o g D f g0 h v B7 B8 B9 N from by
      have hb := HBS.out
      have hge := hI.ge
      exact ⟨k7, k8, k9, hcv, HO.out _ (by omega), HO.out _ (by omega), HO.out _ (by omega), HO.out _ (by omega), HL.out.1, HL.out.2.1, HL.out.2.2, HVL.out, HV.out⟩)
    have c2' := HA5.out.c2
    have HNV := Lib.hid (show g.V ≤ (n - 1) + 1 + v ∧ n - 1 < n from by have h1 := HN.out; have h2 := HVL.out; rw [HV.out] at h1; omega)
    clear hI hg5 c2 c5 c6 hlk hfe2
    go_wp2
    refine wp_region_T (S := fun w' => ∀ k ∈ [E.b2, N], w'.heap[k]? = w5.heap[k]?) (tail := fun j => decide (6 ≤ j)) (by kernel_rfl) ?_
    change wpAnyT _ _ _ _ _ _ _ _ _ (World.drew w5)
    have BD := Lib.hid (show ∀ k ∈ [E.b2, N], (World.drew w5).heap[k]? = w5.heap[k]? from fun _ _ => rfl)
    have HSD := Lib.hid HS5.out.drew
    have HAD := Lib.hid (HA5.out.grown (grown_drewN w5 1))
    have HID := Lib.hid (HSI.out.keep (keep_drew (fun _ => false) w5 o) rfl (Ext.refl g D))
    have HK5 := Lib.hid (show w5.grownBy (World.drew w5) none from grown_drewN w5 1)
    change Hid (CombAt (World.drew w5) o D.d E mp) at HAD
    have HLT5 := Lib.hid (show ∀ k ∈ [E.b2, N], k < (World.drew w5).heap.size from fun k hk => by
      simp at hk
      rcases hk with rfl | rfl
      · exact lt_cell HAD.out.c2
      · exact lt_cell HID.out.cv)
    have HOT := Lib.hid (show ∀ k ∈ [E.b2, N], o k = 0 from fun k hk => by
      simp at hk
      rcases hk with rfl | rfl
      · exact HAD.out.o2
      · exact HID.out.ov)
    refine tk 0 57 (.pointer (some ⟨D.d, 0, none⟩)) BD.out ?y0 ?_
    case y0 =>
      intro w' hw'
      have y0 := (World.cell?_of_block (a := ⟨E.b2, 0, none⟩) (hw' _ (by simp))).trans c2'
      go_simp
    try simp only [Act.put, List.setIfInBounds_toArray, List.set_cons_zero, List.set_cons_succ]
    refine tk 1 58 (.int .i32 ((v : Nat) : Int)) BD.out ?y1 ?_
    case y1 =>
      intro w' hw'
      have y0 := (World.cell?_of_block (a := ⟨N, 0, none⟩) (hw' _ (by simp))).trans hcv
      go_simp
    try simp only [Act.put, List.setIfInBounds_toArray, List.set_cons_zero, List.set_cons_succ]
    refine tk 2 59 (.func (.func 71) #[] #[.pointer (some ⟨E.b6, 0, none⟩), .pointer (some ⟨E.b2, 0, none⟩), .pointer (some ⟨B7, 0, none⟩), .pointer (some ⟨N, 0, none⟩), .pointer (some ⟨B8, 0, none⟩), .pointer (some ⟨B9, 0, none⟩)]) BD.out ?y2 ?_
    case y2 =>
      intro w' hw'
      go_simp
    try simp only [Act.put, List.setIfInBounds_toArray, List.set_cons_zero, List.set_cons_succ]
    refine tk 4 61 (.func (.func 71) #[] #[.pointer (some ⟨E.b6, 0, none⟩), .pointer (some ⟨E.b2, 0, none⟩), .pointer (some ⟨B7, 0, none⟩), .pointer (some ⟨N, 0, none⟩), .pointer (some ⟨B8, 0, none⟩), .pointer (some ⟨B9, 0, none⟩)]) BD.out ?y4 ?_
    case y4 =>
      intro w' hw'
      go_simp
    try simp only [Act.put, List.setIfInBounds_toArray, List.set_cons_zero, List.set_cons_succ]
    refine on 3 (fun K hK => ?_)
    go_simp
    refine (side_any (HIH.out (n - 1) HNV.out.2) HSD.out HAD.out HF.out (.inr HD.out) HID.out false HNV.out.1).mono ?_
    rintro e wA ⟨r0, oA, gA, DA, mA, rfl, hA⟩
    have CA0 := Lib.hid hA
    have SA := Lib.hid (show ∀ k ∈ [E.b2, N], wA.heap[k]? = w5.heap[k]? from fun k hk => ((hA.keep.blk k (HLT5.out k hk) (by rw [HOT.out k hk]; rfl))).trans (BD.out k hk))
    clear hA
    refine hK.out _ _ (fun _ => SA.out) ?_
    clear hK K
    try simp only [Act.put, List.setIfInBounds_toArray, List.set_cons_zero, List.set_cons_succ]
    refine on 5 (fun K hK => ?_)
    go_simp
    refine (side_any (g := gA) (D := DA) (o := oA) (f := f) (g0 := g0) (h := h) (v := v) (HIH.out (n - 1) HNV.out.2) CA0.out.ds (by rw [CA0.out.ext.d]; exact CA0.out.at_) HF.out CA0.out.mp (HID.out.keep CA0.out.keep rfl CA0.out.ext) true (by rw [CA0.out.ext.V]; exact HNV.out.1)).mono ?_
    rintro e wB ⟨r1, oB, gB, DB, mB, rfl, hB⟩
    have CB := Lib.hid hB
    have SB := Lib.hid (show ∀ k ∈ [E.b2, N], wB.heap[k]? = w5.heap[k]? from fun k hk => ((hB.keep.blk k (Nat.lt_of_lt_of_le (HLT5.out k hk) CA0.out.keep.size) (by rw [CA0.out.keep.own k (HLT5.out k hk), HOT.out k hk]; rfl))).trans (SA.out k hk))
    clear hB
    refine hK.out _ _ (fun _ => SB.out) ?_
    clear hK K
    try simp only [Act.put, List.setIfInBounds_toArray, List.set_cons_zero, List.set_cons_succ]
    have HNI := Lib.hid (side_node HSD.out HID.out CA0.out CB.out)
    have HDB := Lib.hid (show DB.d = D.d from CB.out.ext.d.trans CA0.out.ext.d)
    refine on 6 (fun K hK => ?_)
    go_simp
    have hnode := node_any CB.out.ds HNI.out
    rw [HDB.out] at hnode
    refine hnode.mono ?_
    rintro e wC ⟨r, oC, gC, DC, rfl, hC⟩
    have CN := Lib.hid hC
    clear hC hnode
    have CA := Lib.hid (show CombOut op w5 o g D E (dec (lst g D) f v false) (dec (lst g D) g0 v false) (dec (lst g D) h v false) r0 wA oA gA DA mA from
      ⟨CA0.out.ds, CA0.out.at_, CA0.out.mp, (keep_none _ o HK5.out).trans CA0.out.keep, CA0.out.ext, CA0.out.lt, CA0.out.is, CA0.out.len, CA0.out.W⟩)
    refine hK.out _ _ (fun h => absurd h (by decide)) ?_
    clear hK K
    try simp only [Act.put, List.setIfInBounds_toArray, List.set_cons_zero, List.set_cons_succ]
    refine tkM 7 17 (.int .i32 (r : Int)) ?y7 ?_
    case y7 =>
      intro w'
      go_simp
    try simp only [Act.put, List.setIfInBounds_toArray, List.set_cons_zero, List.set_cons_succ]
    refine dn ?_
    have kt := (((CA.out.keep.trans CB.out.keep).trans (CN.out.keep.more td_tc)))
    have k7' := (kt.box k7 HSI.out.of_ rfl).1
    have k8' := (kt.box k8 HSI.out.og rfl).1
    have k9' := (kt.box k9 HSI.out.oh rfl).1
    have AC := Lib.hid (CB.out.at_.keep CN.out.keep rfl rfl)
    have c5' := AC.out.c5
    obtain ⟨w9, hrun, hm9, ht9⟩ := AC.out.map.store K125 Try.underlying124 HKE.out (.int .i32 (r : Int))
    unfold i32 at hrun hm9
    have HR := Lib.hid (show CombPost op w o g D E f g0 h (.returned (.int .i32 (r : Int))) w9 from by
      have hc := comb_end HS5.out HSI.out CA.out CB.out CN.out hm9 ht9.grown
      exact ⟨r, oC, gC, DC, _, rfl, hc.ds, hc.at_, hc.mp, (keep_none _ o HG5.out).trans hc.keep, hc.ext, hc.lt, hc.is, hc.len, hc.W⟩)
    clear kt hm9 ht9 k7 k8 k9
    go_wp2
    go_ret
    exact HR.out
end

end Go.Proofs.Ytailpphafoamfaa
namespace Go.Proofs.Ytailpphafoamfaa
open Go Go.RowKit Go.Maps


section
variable {st : Nat → Nat → Nat → Nat × Bool} {op : Bool → Bool → Bool → Bool} {w w' : World} {o o' : Nat → Nat} {g g' : SG} {D D' : DG} {E : Env} {d : Nat} {mp mp' : Value → Option Value}
def combW0 (w : World) (d : Nat) (fv x : Value) : World := ((((w.alloc (.cells #[.pointer (some ⟨d, 0, none⟩)] 94)).alloc (.cells #[fv] 102)).alloc (.map #[] 0)).alloc (.cells #[.map (some (w.heap.size + 1 + 1))] 124)).alloc (.cells #[x] 100)
theorem combW0_cells (w : World) (d : Nat) (fv x : Value) : (combW0 w d fv x).heap.size = w.heap.size + 1 + 1 + 1 + 1 + 1 ∧ (combW0 w d fv x).heap[w.heap.size]? = some (.cells #[.pointer (some ⟨d, 0, none⟩)] 94 (0, 0)) ∧ (combW0 w d fv x).heap[w.heap.size + 1]? = some (.cells #[fv] 102 (0, 0)) ∧ (combW0 w d fv x).heap[w.heap.size + 1 + 1]? = some (.map #[] 0) ∧
    (combW0 w d fv x).heap[w.heap.size + 1 + 1 + 1]? = some (.cells #[.map (some (w.heap.size + 1 + 1))] 124 (0, 0)) ∧ (combW0 w d fv x).heap[w.heap.size + 1 + 1 + 1 + 1]? = some (.cells #[x] 100 (0, 0)) := by
  have s1 : ∀ (w : World) (x : Obj), (w.alloc x).heap = w.heap.push x := fun _ _ => rfl
  unfold combW0
  simp only [s1, Array.size_push, Array.getElem?_push]
  refine ⟨trivial, ?_, ?_, ?_, ?_, ?_⟩ <;> simp <;> (first | omega | (rw [if_neg (by omega), if_neg (by omega), if_neg (by omega)]) | (rw [if_neg (by omega), if_neg (by omega)]) | (rw [if_neg (by omega)]))
def CombinerPost (w : World) (o : Nat → Nat) (g : SG) (D : DG) (fv : Value) (e : Ending) (w' : World) : Prop :=
  ∃ E o', e = .returned (combV E) ∧ E.fv = fv ∧ DS w' o' g D ∧ CombAt w' o' D.d E (fun _ => none) ∧ Keep (fun _ => false) w o w' o'
theorem combiner_new (hs : DS w o g D) (fid : Nat) : CombinerPost w o g D (.func (.func fid) #[] #[]) (.returned (combV ⟨w.heap.size, w.heap.size + 1, w.heap.size + 1 + 1 + 1, w.heap.size + 1 + 1 + 1 + 1, w.heap.size + 1 + 1, .func (.func fid) #[] #[]⟩)) (combW0 w D.d (.func (.func fid) #[] #[]) (combV ⟨w.heap.size, w.heap.size + 1, w.heap.size + 1 + 1 + 1, w.heap.size + 1 + 1 + 1 + 1, w.heap.size + 1 + 1, .func (.func fid) #[] #[]⟩)) := by
  obtain ⟨x, hx⟩ : ∃ x, combV ⟨w.heap.size, w.heap.size + 1, w.heap.size + 1 + 1 + 1, w.heap.size + 1 + 1 + 1 + 1, w.heap.size + 1 + 1, .func (.func fid) #[] #[]⟩ = x := ⟨_, rfl⟩
  obtain ⟨fv, hfv⟩ : ∃ fv : Value, .func (.func fid) #[] #[] = fv := ⟨_, rfl⟩
  rw [hx, hfv]
  rw [hfv] at hx
  obtain ⟨hsz, h2, h3, hd, h5, h6⟩ := combW0_cells w D.d fv x
  have hg : w.grownBy (combW0 w D.d fv x) none :=
    grown_trans (grown_trans (grown_trans (grown_trans (grown_alloc _ _) (grown_alloc _ _)) (grown_alloc _ _)) (grown_alloc _ _)) (grown_alloc _ _)
  have hk : Keep (fun _ => false) w o (combW0 w D.d fv x) (ownG o (w.heap.size + 1 + 1) 7) :=
    Keep.grown hg (by simp) (fun k hk => ownG_other _ _ (by omega))
  have ho := hs.st.new
  generalize combW0 w D.d fv x = wz at *
  have cc : ∀ (b : Nat) (v : Value) (t : TypeId), wz.heap[b]? = some (.cells #[v] t (0, 0)) → wz.cell? ⟨b, 0, none⟩ = some v := fun b v t h => by unfold World.cell?; rw [h]; rfl
  refine ⟨⟨w.heap.size, w.heap.size + 1, w.heap.size + 1 + 1 + 1, w.heap.size + 1 + 1 + 1 + 1, w.heap.size + 1 + 1, fv⟩, ownG o (w.heap.size + 1 + 1) 7, by rw [hx], rfl, ⟨hs.st.keep hk ⟨rfl, rfl, rfl⟩ (fun b hb => ?_), hs.dr.keep hk ⟨rfl, rfl, rfl⟩⟩, ⟨cc _ _ _ h2, cc _ _ _ h3, cc _ _ _ h5, (cc _ _ _ h6).trans (by rw [hx]), ?_, ?_, ?_, ?_, ownG_same _ _ _, ⟨#[], 0, hd, by simp, by simp, by simp, by simp⟩⟩, hk⟩
  · rw [ownG_other _ _ (by omega)]
    exact ho b (by omega)
  · show ownG o _ 7 w.heap.size = 0
    rw [ownG_other _ _ (by omega)]; exact ho _ (Nat.le_refl _)
  · show ownG o _ 7 (w.heap.size + 1) = 0
    rw [ownG_other _ _ (by omega)]; exact ho _ (by omega)
  · show ownG o _ 7 (w.heap.size + 1 + 1 + 1) = 0
    rw [ownG_other _ _ (by omega)]; exact ho _ (by omega)
  · show ownG o _ 7 (w.heap.size + 1 + 1 + 1 + 1) = 0
    rw [ownG_other _ _ (by omega)]; exact ho _ (by omega)
set_option maxHeartbeats 8000000 in
set_option maxRecDepth 100000 in
theorem combiner_any (hs : DS w o g D) (fv : Value) (hf : SetF fv st) : Calls Try.prog 53 #[.pointer (some ⟨D.d, 0, none⟩), fv] w (CombinerPost w o g D fv) := by
  have hmm := @run_makeMap Try.prog
  have hmf : ∀ (fn : Fn) (first cap : Array Value) (w : World), (Instr.makeFunc fn first cap).run Try.prog w = .ok (.func fn first cap) w := fun _ _ _ _ => rfl
  obtain ⟨fid, rfl, -, -⟩ := hf
  have HS := Lib.hid hs
  have HW := Lib.hid (combW0_cells w D.d (.func (.func fid) #[] #[]))
  have hc : (combW0 w D.d (.func (.func fid) #[] #[]) .nilFunc).cell? ⟨w.heap.size + 1 + 1 + 1 + 1, 0, none⟩ = some .nilFunc := by unfold World.cell?; rw [(HW.out _).2.2.2.2.2]; rfl
  have hz : (combW0 w D.d (.func (.func fid) #[] #[]) .nilFunc).frozen? ⟨w.heap.size + 1 + 1 + 1 + 1, 0, none⟩ = false := by unfold World.frozen?; rw [(HW.out _).2.2.2.2.2]; rfl
  unfold combW0 at hc hz
  clear hs
  go_enter Try.func53, Try.ntmps53
  go_wp2
  go_ret
  exact combiner_new HS.out fid
end

end Go.Proofs.Ytailpphafoamfaa
namespace Go.Proofs.Ytailpphafoamfaa
open Go Go.RowKit Go.Maps

theorem combC_any {st : Nat → Nat → Nat → Nat × Bool} {op : Bool → Bool → Bool → Bool} (S : Settles st op) : ∀ n, CombC st op n := by
  intro n
  induction n using Nat.strongRecOn with
  | ind n ih =>
    intro w o g D E mp f g0 h hs ha hf hd lf lg lh hn
    cases hfu : D.full with
    | true => exact comb_full (n := 0) w o g D E mp f g0 h hs ha hfu
    | false =>
      have hd' := hd.resolve_left (by rw [hfu]; simp)
      cases hst : (st f g0 h).2 with
      | true => exact comb_set (n := n) S w o g D E mp f g0 h hs ha hf hfu hd' lf lg lh hn hst
      | false =>
        cases hx : mp (key3 f g0 h) with
        | none => exact comb_main S ih w o g D E mp f g0 h hs ha hf hfu hd' lf lg lh hn hst hx
        | some x =>
          obtain ⟨f', g', h', r, -, rfl, -⟩ := hd' _ _ hx
          exact comb_found (n := n) S w o g D E mp f g0 h hs ha hf hfu hd' lf lg lh hn hst r hx
theorem enters_of {f : FuncId} {fn : Func} (h : Try.prog.funcs[f]? = some fn) (hn : (fn.name == "runtime.NumGoroutine") = false) (hb : fn.body.isSome = true) : ∀ args w, (callFunc f args).run Try.prog w = .ok (.enter f args) w := fun args w => by
  have hn' : ¬ fn.name = "runtime.NumGoroutine" := by simpa using hn
  have hb' : ¬ fn.body = none := by intro e; rw [e] at hb; cases hb
  simp [callFunc, h, hn', hb']
theorem set_chosen : SetF (.func (.func 59) #[] #[]) chosenN := ⟨59, rfl, enters_of Try.func59 (by kernel_rfl) rfl, fun f g h w => chosen_any f g h w⟩
theorem set_alike : SetF (.func (.func 54) #[] #[]) (fun f g _ => alikeN f g) := ⟨54, rfl, enters_of Try.func54 (by kernel_rfl) rfl, fun f g h w => alike_any f g h w⟩
end Go.Proofs.Ytailpphafoamfaa
namespace Go.Proofs.Ytailpphafoamfaa

def needN (first : Nat) (m : List Bool) (many n : Nat) : List Bool × Nat := if first ≤ n ∧ m.getD (n - first) true = false then (m.set (n - first) true, many + 1) else (m, many)
def wsum (u : Nat → Nat) (m : List Bool) : Nat → Nat
  | 0 => 0
  | k + 1 => wsum u m k + if m.getD k false = true then u k else 0
theorem wsum_set (u : Nat → Nat) (m : List Bool) {k : Nat} (hk : k < m.length) (hf : m.getD k false = false) : ∀ i, wsum u (m.set k true) i = wsum u m i + if k < i then u k else 0
  | 0 => by simp [wsum]
  | i + 1 => by
    unfold wsum
    rw [wsum_set u m hk hf i]
    by_cases e : i = k
    · subst e
      have h1 : (m.set i true).getD i false = true := by simp [List.getD_eq_getElem?_getD, hk]
      rw [h1, hf]
      simp
    · have h1 : (m.set k true).getD i false = m.getD i false := by
        simp only [List.getD_eq_getElem?_getD]
        rw [List.getElem?_set_ne (Ne.symm e)]
      rw [h1]
      by_cases h : k < i
      · have hh : k < i + 1 := by omega
        simp only [if_pos h, if_pos hh]; omega
      · have hh : ¬ k < i + 1 := by omega
        simp only [if_neg h, if_neg hh]; omega
theorem wsum_le (m : List Bool) : ∀ i, wsum (fun _ => 1) m i ≤ i
  | 0 => Nat.le_refl _
  | i + 1 => by
    have := wsum_le m i
    unfold wsum
    split <;> omega
theorem wsum_rep (u : Nat → Nat) (n : Nat) : ∀ i, wsum u (List.replicate n false) i = 0
  | 0 => rfl
  | i + 1 => by
    unfold wsum
    rw [wsum_rep u n i]
    have : (List.replicate n false).getD i false = false := by
      rw [List.getD_eq_getElem?_getD, List.getElem?_replicate]
      split <;> rfl
    rw [this]
    rfl
/-- A node's weight. -/
def wgt (V : Nat) (ds : List Nd) (j : Nat) : Nat := 2 ^ (V - ((ds[j]?).map Nd.v).getD V) - 1
/-- Who is marked: the node itself, and those to which one that is marked leads. -/
def Led (first f : Nat) (ds : List Nd) (m : List Bool) : Prop := ∀ j, m.getD j false = true → first + j = f ∨ ∃ k n, ds[k]? = some n ∧ m.getD k false = true ∧ (n.a = first + j ∨ n.b = first + j)
structure NInv (V first f : Nat) (ds : List Nd) (B : Nat) (m : List Bool) (many i : Nat) : Prop where
  len : m.length = ds.length
  root : first ≤ f → m.getD (f - first) false = true
  clo : ∀ j n, i ≤ j → ds[j]? = some n → m.getD j false = true → (first ≤ n.a → m.getD (n.a - first) false = true) ∧ (first ≤ n.b → m.getD (n.b - first) false = true)
  wt : wsum (wgt V ds) m i + many + 1 ≤ B + wsum (fun _ => 1) m i
  many : many = wsum (fun _ => 1) m m.length
  led : Led first f ds m
theorem needN_cases {first : Nat} {m : List Bool} {many n : Nat} (hn : n < first + m.length) : (needN first m many n = (m, many) ∧ (first ≤ n → m.getD (n - first) false = true)) ∨ (first ≤ n ∧ needN first m many n = (m.set (n - first) true, many + 1) ∧ m.getD (n - first) false = false) := by
  unfold needN
  by_cases h1 : first ≤ n
  · have hk : n - first < m.length := by omega
    have e : ∀ d, m.getD (n - first) d = m[n - first] := fun d => by simp [List.getD_eq_getElem?_getD, hk]
    cases hb : m[n - first] with
    | true => exact .inl ⟨if_neg (by rw [e, hb]; simp), fun _ => by rw [e, hb]⟩
    | false => exact .inr ⟨h1, if_pos ⟨h1, by rw [e, hb]⟩, by rw [e, hb]⟩
  · exact .inl ⟨if_neg (by omega), fun h => absurd h h1⟩
theorem getD_set_mono {m : List Bool} {k j : Nat} (h : m.getD j false = true) : (m.set k true).getD j false = true := by
  by_cases e : k = j
  · subst e
    rw [List.getD_eq_getElem?_getD] at h ⊢
    by_cases hk : k < m.length
    · simp [hk]
    · simp [hk] at h
  · rw [List.getD_eq_getElem?_getD, List.getElem?_set_ne e, ← List.getD_eq_getElem?_getD]
    exact h
theorem needN_mono {first : Nat} {m : List Bool} {many n j : Nat} (hn : n < first + m.length) (h : m.getD j false = true) : (needN first m many n).1.getD j false = true := by
  rcases needN_cases (many := many) hn with ⟨e, -⟩ | ⟨-, e, -⟩
  · rw [e]; exact h
  · rw [e]; exact getD_set_mono h
theorem needN_new {first : Nat} {m : List Bool} {many n j : Nat} (hn : n < first + m.length) (h : (needN first m many n).1.getD j false = true) : m.getD j false = true ∨ first + j = n := by
  rcases needN_cases (many := many) hn with ⟨e, -⟩ | ⟨h0, e, -⟩
  · rw [e] at h; exact .inl h
  · rw [e] at h
    simp only at h
    by_cases ej : n - first = j
    · right; omega
    · left
      rw [List.getD_eq_getElem?_getD, List.getElem?_set_ne ej, ← List.getD_eq_getElem?_getD] at h
      exact h
theorem Led.need {first f : Nat} {ds : List Nd} {m : List Bool} {many c : Nat} (h : Led first f ds m) (hn : c < first + m.length) (hp : c = f ∨ ∃ k n, ds[k]? = some n ∧ m.getD k false = true ∧ (n.a = c ∨ n.b = c)) : Led first f ds (needN first m many c).1 := by
  intro j hj
  have up : (∃ k n, ds[k]? = some n ∧ m.getD k false = true ∧ (n.a = first + j ∨ n.b = first + j)) → ∃ k n, ds[k]? = some n ∧ (needN first m many c).1.getD k false = true ∧ (n.a = first + j ∨ n.b = first + j) := by
    rintro ⟨k, n, h1, h2, h3⟩
    exact ⟨k, n, h1, needN_mono hn h2, h3⟩
  rcases needN_new hn hj with h1 | h1
  · rcases h j h1 with h2 | h2
    · exact .inl h2
    · exact .inr (up h2)
  · rcases hp with h2 | h2
    · exact .inl (h1.trans h2)
    · rw [← h1] at h2
      exact .inr (up h2)
theorem needN_has {first : Nat} {m : List Bool} {many n : Nat} (hn : n < first + m.length) (h : first ≤ n) : (needN first m many n).1.getD (n - first) false = true := by
  rcases needN_cases (many := many) hn with ⟨e, h1⟩ | ⟨-, e, -⟩
  · rw [e]; exact h1 h
  · rw [e]
    have hk : n - first < m.length := by omega
    simp [List.getD_eq_getElem?_getD, hk]
theorem needN_len {first : Nat} {m : List Bool} {many n : Nat} : (needN first m many n).1.length = m.length := by
  unfold needN
  split <;> simp
theorem needN_many {first : Nat} {m : List Bool} {many n : Nat} (hn : n < first + m.length) (h : many = wsum (fun _ => 1) m m.length) : (needN first m many n).2 = wsum (fun _ => 1) (needN first m many n).1 m.length := by
  rcases needN_cases (many := many) hn with ⟨e, h1⟩ | ⟨h0, e, h1⟩
  · rw [e]; exact h
  · have hk : n - first < m.length := by omega
    rw [e]
    simp only
    rw [wsum_set _ _ hk h1, if_pos hk, h]
/-- The weight behind one mark more, of a node ahead of i. -/
theorem needN_wt {u : Nat → Nat} {first : Nat} {m : List Bool} {many n i c : Nat} (hn : n < first + m.length) (hi : first ≤ n → n - first < i) (hu : first ≤ n → u (n - first) ≤ c) :
    wsum u (needN first m many n).1 i + (needN first m many n).2 + wsum (fun _ => 1) m i ≤ wsum u m i + many + wsum (fun _ => 1) (needN first m many n).1 i + c := by
  rcases needN_cases (many := many) hn with ⟨e, h1⟩ | ⟨h0, e, h1⟩
  · rw [e]; simp only; omega
  · have hk : n - first < m.length := by omega
    have h2 := hi h0
    have h3 := hu h0
    rw [e]
    simp only
    rw [wsum_set _ _ hk h1, wsum_set _ _ hk h1, if_pos h2, if_pos h2]
    omega
section
variable {V first f : Nat} {ns ds : List Nd} {B : Nat} {m : List Bool} {many i : Nat}
theorem wgt_le (hw : WF V (ns ++ ds)) {c v : Nat} (hc : ns.length ≤ c) (hcl : c < (ns ++ ds).length) (hv : v < ask (ns ++ ds) c) : wgt V ds (c - ns.length) + 1 = 2 ^ (V - ask (ns ++ ds) c) := by
  obtain ⟨n, hn⟩ := get_lt hcl
  rw [ask_at hn]
  rw [List.getElem?_append_right hc] at hn
  unfold wgt
  rw [hn]
  simp only [Option.map_some, Option.getD_some]
  have := pow_pos' (V - n.v)
  omega
theorem NInv.skip (h : NInv V first f ds B m many (i + 1)) (hm : m.getD i false = false) : NInv V first f ds B m many i where
  len := h.len
  root := h.root
  clo := fun j n hj hn hb => by
    by_cases e : j = i
    · subst e; rw [hm] at hb; cases hb
    · exact h.clo j n (by omega) hn hb
  wt := by
    have := h.wt
    unfold wsum at this
    rw [hm] at this
    simpa using this
  many := h.many
  led := h.led
/-- A node that is needed: so are those to which it leads. -/
theorem NInv.step (h2n : 2 ≤ ns.length) (hw : WF V (ns ++ ds)) (h : NInv V ns.length f ds B m many (i + 1)) {n : Nd} (hn : ds[i]? = some n) (hm : m.getD i false = true) :
    NInv V ns.length f ds B (needN ns.length (needN ns.length m many n.a).1 (needN ns.length m many n.a).2 n.b).1 (needN ns.length (needN ns.length m many n.a).1 (needN ns.length m many n.a).2 n.b).2 i := by
  have hi := (List.getElem?_eq_some_iff.1 hn).1
  have hn' : (ns ++ ds)[ns.length + i]? = some n := by rw [List.getElem?_append_right (by omega), Nat.add_sub_cancel_left]; exact hn
  have h2 : 2 ≤ ns.length + i := by omega
  obtain ⟨a1, a2, a3, a4, a5, a6⟩ := hw.nd _ n h2 hn'
  have hla : n.a < ns.length + m.length := by rw [h.len]; omega
  have hlb : n.b < ns.length + (needN ns.length m many n.a).1.length := by rw [needN_len, h.len]; omega
  have hA : n.a < (ns ++ ds).length := by rw [List.length_append]; omega
  have hB : n.b < (ns ++ ds).length := by rw [List.length_append]; omega
  have pw := pow_two a1 a5 a6
  have wi : wgt V ds i + 1 = 2 ^ (V - n.v) := by
    unfold wgt
    rw [hn]
    have := pow_pos' (V - n.v)
    simp only [Option.map_some, Option.getD_some]
    omega
  have w1 := needN_wt (u := wgt V ds) (many := many) (i := i) (c := 2 ^ (V - ask (ns ++ ds) n.a) - 1) hla (by omega) (fun hc => by have := wgt_le hw hc hA a5; omega)
  have w2 := needN_wt (u := wgt V ds) (many := (needN ns.length m many n.a).2) (i := i) (c := 2 ^ (V - ask (ns ++ ds) n.b) - 1) hlb (by omega) (fun hc => by have := wgt_le hw hc hB a6; omega)
  have p1 := pow_pos' (V - ask (ns ++ ds) n.a)
  have p2 := pow_pos' (V - ask (ns ++ ds) n.b)
  refine ⟨by rw [needN_len, needN_len]; exact h.len, fun hf => needN_mono hlb (needN_mono hla (h.root hf)), fun j n' hj hn2 hb => ?_, ?_, ?_, ?_⟩
  · by_cases e : j = i
    · subst e
      rw [hn] at hn2
      cases hn2
      exact ⟨fun hc => needN_mono hlb (needN_has hla hc), fun hc => needN_has hlb hc⟩
    · -- a mark behind i was there
      have back : ∀ {m : List Bool} {many c : Nat}, c < ns.length + m.length → c < ns.length + i → (needN ns.length m many c).1.getD j false = true → m.getD j false = true := by
        intro m many c hc hci hg
        rcases needN_cases (many := many) hc with ⟨e1, -⟩ | ⟨h0, e1, -⟩
        · rw [e1] at hg; exact hg
        · rw [e1] at hg
          simp only at hg
          rw [List.getD_eq_getElem?_getD, List.getElem?_set_ne (by omega), ← List.getD_eq_getElem?_getD] at hg
          exact hg
      have hb0 := back hla (by omega) (back hlb (by omega) hb)
      obtain ⟨c1, c2⟩ := h.clo j n' (by omega) hn2 hb0
      exact ⟨fun hc => needN_mono hlb (needN_mono hla (c1 hc)), fun hc => needN_mono hlb (needN_mono hla (c2 hc))⟩
  · have hwt := h.wt
    unfold wsum at hwt
    rw [hm] at hwt
    simp only [if_true] at hwt
    omega
  · have e1 := needN_many hla h.many
    have e2 := needN_many (first := ns.length) (m := (needN ns.length m many n.a).1) (many := (needN ns.length m many n.a).2) (n := n.b) hlb (by rw [needN_len]; exact e1)
    rw [needN_len, needN_len]
    rw [needN_len] at e2
    exact e2
  · exact (h.led.need hla (.inr ⟨i, n, hn, hm, .inl rfl⟩)).need hlb (.inr ⟨i, n, hn, needN_mono hla hm, .inr rfl⟩)
theorem NInv.start (hw : WF V (ns ++ ds)) {f : Nat} (hf : f < (ns ++ ds).length) : NInv V ns.length f ds (2 ^ (V - ask (ns ++ ds) f)) (needN ns.length (List.replicate ds.length false) 0 f).1 (needN ns.length (List.replicate ds.length false) 0 f).2 ds.length := by
  have hl : f < ns.length + (List.replicate ds.length false).length := by simp at hf ⊢; omega
  have w1 := needN_wt (u := wgt V ds) (many := 0) (i := ds.length) (c := 2 ^ (V - ask (ns ++ ds) f) - 1) hl (by simp at hf; omega) (fun hc => by
    obtain ⟨n, hn⟩ := get_lt hf
    have e := ask_at hn
    rw [List.getElem?_append_right hc] at hn
    unfold wgt
    rw [hn, e]
    exact Nat.le_refl _)
  have p1 := pow_pos' (V - ask (ns ++ ds) f)
  refine ⟨by rw [needN_len]; simp, fun hc => needN_has hl hc, fun j n hj hn => ?_, ?_, ?_, ?_⟩
  · have := (List.getElem?_eq_some_iff.1 hn).1; omega
  · rw [wsum_rep, wsum_rep] at w1; omega
  · have := needN_many (many := 0) hl (by rw [wsum_rep])
    rw [needN_len]
    exact this
  · refine Led.need (fun j hj => ?_) hl (.inl rfl)
    rw [List.getD_eq_getElem?_getD, List.getElem?_replicate] at hj
    split at hj <;> simp at hj
end
end Go.Proofs.Ytailpphafoamfaa
