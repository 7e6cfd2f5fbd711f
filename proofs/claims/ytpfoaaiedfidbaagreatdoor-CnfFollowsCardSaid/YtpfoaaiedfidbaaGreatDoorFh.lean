/- The spreader goes on until nothing more follows. -/
import Derived.Test.YtpfoaaiedfidbaaGreatDoorFg
namespace Go.Proofs.YtpfoaaiedfidbaaGreatDoor
open Go Go.RowKit Go.Maps

/-- What run finds. -/
structure RunPre (B S bA bT : Nat) (g : Gh) (l cs : List (List Int)) (is U ops tr : List Int) (w : World) : Prop where
  sp : SpAt B S bA bT g cs ops tr tr (idxL cs) w
  inv : SInv l cs is U tr
  hop : OpsAt cs ops (fun _ => [])
  nT : g.nT ≤ tr.length
  nn : g.n ≤ 1000000
  len : cs.length ≤ 1000
  rows : ∀ c ∈ cs, c.length ≤ 1000
def RunPost (B S bA bT : Nat) (l cs : List (List Int)) (is U : List Int) (w : World) (e : Ending) (w' : World) : Prop :=
  Below B w w' ∧ ((e = .returned (.bool true) ∧ ∃ g tr ops, SpAt B S bA bT g cs ops tr tr (idxL cs) w' ∧ SInv l cs is U tr ∧ ∀ c ∈ cs, cnt c tr ≤ 1 → ∃ m ∈ c, m ∈ tr) ∨ (e = .returned (.bool false) ∧ SpreadNo l is))
structure LRel (B S bA bT : Nat) (l cs : List (List Int)) (is U ops : List Int) (w : World) (j : Nat) (g : Gh) (tr : List Int) (wr : World) : Prop where
  sp : SpAt B S bA bT g cs ops tr tr (idxL cs) wr
  inv : SInv l cs is U tr
  sat : Sat1 cs ops tr (fun i => i < j)
  nT : g.nT ≤ tr.length
  nn : g.n ≤ 1000000
  hb : Below B w wr
structure ORel (B S bA bT : Nat) (l cs : List (List Int)) (is U : List Int) (w : World) (nx : Nat) (g : Gh) (tr ops : List Int) (wr : World) : Prop where
  sp : SpAt B S bA bT g cs ops tr tr (idxL cs) wr
  inv : SInv l cs is U tr
  hop : OpsAt cs ops (fun _ => tr.take nx)
  sat : Sat1 cs ops tr (fun _ => True)
  nT : g.nT ≤ tr.length
  nn : g.n ≤ 1000000
  hb : Below B w wr
structure IRel (B S bA bT : Nat) (l cs : List (List Int)) (is U : List Int) (w : World) (nx : Nat) (tr : List Int) (v : Value) (zs : List Int) (j : Nat) (g : Gh) (tr2 ops : List Int) (wr : World) : Prop where
  sp : SpAt B S bA bT g cs ops tr2 tr2 (idxL cs) wr
  inv : SInv l cs is U tr2
  more : ∃ r, tr2 = tr ++ r
  hop : OpsAt cs ops (Dk zs j nx tr)
  sat : Sat1 cs ops tr2 (fun _ => True)
  nT : g.nT ≤ tr2.length
  nn : g.n ≤ 1000000
  hb : Below B w wr
  hv : Own wr (bA + 1) v zs
  hvt : ∀ k, v.ownBlock = some k → g.own k = 4
theorem inv_may {l cs : List (List Int)} {is U tr : List Int} (h : SInv l cs is U tr) : allMay cs = true := by
  rw [allMay_iff]
  intro c hc
  rw [rowMay_iff]
  exact fun n hn => h.may n (h.all c hc n hn)
theorem cnt_len (c D : List Int) : cnt c D ≤ c.length := by
  unfold cnt
  exact List.length_filter_le _ _
theorem own_keep4 {w w' : World} {B : Nat} {v : Value} {xs : List Int} {own : Nat → Nat} (h : Own w B v xs) (ht : ∀ k, v.ownBlock = some k → own k = 4) (hk : Keep4 own w w') : Own w' B v xs := by
  have hlt := h.lt
  obtain ⟨h1, h2⟩ := h
  refine ⟨h1, ?_⟩
  rcases h2 with h2 | ⟨g, cap, cur, rfl, hg, hh, r⟩
  · exact .inl h2
  · exact .inr ⟨g, cap, cur, rfl, hg, (hk g (hlt g rfl).2 (ht g rfl)).trans hh, r⟩
set_option maxHeartbeats 8000000 in
set_option maxRecDepth 100000 in
theorem run_any {B S bA bT : Nat} {g : Gh} {l cs : List (List Int)} {is U ops tr : List Int} (w : World) (h : RunPre B S bA bT g l cs is U ops tr w) :
    Calls Tryz.prog 28 #[.pointer (some ⟨S, 0, none⟩)] w (RunPost B S bA bT l cs is U w) := by
  have H := Lib.hid h
  have c0 := h.sp.c0
  obtain ⟨Ac, cc, evc⟩ := Mesh.form h.sp.rc
  rw [h.sp.ul] at evc
  rw [evc] at c0
  have hcl := h.len
  clear h evc
  go_enter Tryz.func28, Tryz.ntmps28
  go_wp2
  go_loopw [12] (fun i wr => ∃ (j : Nat) (g' : Gh) (tr' : List Int), j ≤ cs.length ∧ i = .int .i64 j ∧ Hid (LRel B S bA bT l cs is U ops w j g' tr' wr)) (fun i _ => cs.length - (intOf i).toNat)
  case atStart => exact ⟨0, g, tr, Nat.zero_le _, rfl, Lib.hid ⟨H.out.sp, H.out.inv, fun i hi hp => by omega, H.out.nT, H.out.nn, Below.refl _ _⟩⟩
  case round =>
    obtain ⟨j, g', tr', hj, rfl, hR⟩ := hrel
    by_cases hlt : j < cs.length
    · have HK := Lib.hid (look_any j wr hR.out.sp hlt H.out.hop.1 (inv_may hR.out.inv) (by have := hR.out.inv.len; omega) hR.out.nT hcl H.out.rows)
      go_wp2_with fail
      refine (HK.out).mono ?_
      have hcm : cs.getD j [] ∈ cs := getD_memL hlt
      have hopj := H.out.hop.2 j hlt
      rintro e w2 (⟨rfl, g2, tr2, hlk, hsp2, hn2, hm2', _, _, hb2⟩ | ⟨rfl, hno, hb2⟩)
      · obtain ⟨hi2, hs2, hm2⟩ := hR.out.inv.look hcm hopj (by simp) hlk
        have R2 := Lib.hid (show LRel B S bA bT l cs is U ops w (j + 1) g2 tr2 w2 from ⟨hsp2, hi2, fun i hi hp ho => by
          by_cases e : i = j
          · subst e; exact hs2 ho
          · exact (hR.out.sat.mono hm2) i hi (by omega) ho, hn2, by rw [hm2']; exact hR.out.nn, hR.out.hb.trans hb2⟩)
        clear hlk hsp2 hn2 hb2 hi2 hs2 hm2 hm2' hcm hopj HK
        go_wp2
        go_roundw
        case rel => exact ⟨j + 1, g2, tr2, by omega, by go_num, R2⟩
        case measure => simp [intOf]; omega
      · have HNO := Lib.hid (hR.out.inv.no hcm hno)
        have HB := Lib.hid (hR.out.hb.trans hb2)
        clear hno hb2 hcm hopj HK
        go_wp2
        go_ret
        exact ⟨HB.out, .inr ⟨rfl, HNO.out⟩⟩
    · have R0 := Lib.hid (show ORel B S bA bT l cs is U w 0 g' tr' ops wr from ⟨hR.out.sp, hR.out.inv, by simpa using H.out.hop, fun i hi _ ho => hR.out.sat i hi (by omega) ho, hR.out.nT, hR.out.nn, hR.out.hb⟩)
      obtain ⟨wz, rfl⟩ : ∃ wz : World, wz = wr := ⟨_, rfl⟩
      clear hR
      go_wp2
      go_loopw [4] (fun i wr => ∃ (nx : Nat) (g3 : Gh) (tr3 ops3 : List Int), nx ≤ tr3.length ∧ i = .int .i64 nx ∧ Hid (ORel B S bA bT l cs is U w nx g3 tr3 ops3 wr)) (fun i _ => 60000 - (intOf i).toNat)
      case atStart => exact ⟨0, g', tr', ops, Nat.zero_le _, rfl, R0⟩
      case round =>
        obtain ⟨nx, g3, tr3, ops3, hnx, rfl, hO⟩ := hrel
        have c4 := hO.out.sp.c4
        obtain ⟨At, ct, evt⟩ := hO.out.sp.rt.form
        rw [evt] at c4
        have htl := hO.out.inv.len
        have hvt0 := hO.out.sp.rt
        rw [evt] at hvt0
        clear evt
        by_cases hltn : nx < tr3.length
        · obtain ⟨A', c', e', _, hat⟩ := hvt0.nums
          cases e'
          obtain ⟨bt, ot, rfl, hlt4, hcell⟩ := hat (by omega)
          obtain ⟨t, ht⟩ : ∃ t, tr3.getD nx 0 = t := ⟨_, rfl⟩
          have ct0 := hcell nx hltn
          rw [ht] at ct0
          have HT := Lib.hid ht
          have htm : mayB t = true := hO.out.inv.may t (hO.out.inv.sub t (ht ▸ getD_mem hltn))
          obtain ⟨_, tb1, tb2⟩ := mayB_iff.1 htm
          have c2 := hO.out.sp.c2
          have hnn : g3.n < maxLen := by have := hO.out.nn; unfold maxLen; omega
          have SD := Lib.hid (hO.out.sp.keep (w' := wr.drew) ⟨rfl, rfl, rfl, Nat.le_refl _, fun _ _ _ => rfl⟩)
          obtain ⟨v, zs, hrun, hatz, hoi, hzl, _, hsh⟩ := groups_look SD.out.gr hnn (may_neg htm)
          have hzs : zs = idxL cs (-t) := by
            have h1 := SD.out.gd (-t)
            rw [hatz, numsOf_row hoi] at h1
            exact h1
          have HZ := Lib.hid hzs
          have hzlen : zs.length ≤ 1000 := by rw [hzs]; exact Nat.le_trans (idxL_len _ _) hcl
          have hov : Own wr.drew (bA + 1) v zs := hoi.1
          obtain ⟨Az, cz, ev⟩ := hov.form
          subst ev
          have I0 := Lib.hid (show IRel B S bA bT l cs is U w nx tr3 (.slice Az zs.length cz) zs 0 g3 tr3 ops3 wr.drew from ⟨SD.out, hO.out.inv, ⟨[], by simp⟩, zero_ops hO.out.hop, hO.out.sat, hO.out.nT, hO.out.nn, hO.out.hb.drew, hov,
            fun k hk => Classical.byContradiction fun e => hsh _ SD.out.tg k hk e⟩)
          clear hcell hat hatz hoi hzl hsh hzs hov htm ht hnn hvt0
          have hz63 : (zs.length : Int) ≤ 1000 := by omega
          have hneg : IntKind.i64.wrap (-t) = -t := IntWalk.i64_in _ (by omega)
          go_wp2_with fail
          refine wp_region_T (S := fun w' => w' = World.drew wr) (tail := fun _ => false) (by kernel_rfl) ?_
          change wpAnyT _ _ _ _ _ _ _ _ _ (World.drew wr)
          refine tk 0 29 (.pointer (some ⟨S, 0, none⟩)) rfl ?y0 ?_
          case y0 =>
            intro w' hw'
            subst hw'
            go_simp
          try simp only [Act.put, List.setIfInBounds_toArray, List.set_cons_zero, List.set_cons_succ]
          refine tk 1 30 (.pointer (some ⟨S, 0, none⟩)) rfl ?y1 ?_
          case y1 =>
            intro w' hw'
            subst hw'
            go_simp
          try simp only [Act.put, List.setIfInBounds_toArray, List.set_cons_zero, List.set_cons_succ]
          refine tk 2 31 (.pointer (some ⟨S, 2, none⟩)) rfl ?y2 ?_
          case y2 =>
            intro w' hw'
            subst hw'
            go_simp
          try simp only [Act.put, List.setIfInBounds_toArray, List.set_cons_zero, List.set_cons_succ]
          refine tk 3 32 (.map (some bA)) rfl ?y3 ?_
          case y3 =>
            intro w' hw'
            subst hw'
            go_simp
          try simp only [Act.put, List.setIfInBounds_toArray, List.set_cons_zero, List.set_cons_succ]
          refine tk 4 33 (.pointer (some ⟨S, 0, none⟩)) rfl ?y4 ?_
          case y4 =>
            intro w' hw'
            subst hw'
            go_simp
          try simp only [Act.put, List.setIfInBounds_toArray, List.set_cons_zero, List.set_cons_succ]
          refine tk 5 34 (.pointer (some ⟨S, 0, none⟩)) rfl ?y5 ?_
          case y5 =>
            intro w' hw'
            subst hw'
            go_simp
          try simp only [Act.put, List.setIfInBounds_toArray, List.set_cons_zero, List.set_cons_succ]
          refine tk 6 35 (.pointer (some ⟨S, 4, none⟩)) rfl ?y6 ?_
          case y6 =>
            intro w' hw'
            subst hw'
            go_simp
          try simp only [Act.put, List.setIfInBounds_toArray, List.set_cons_zero, List.set_cons_succ]
          refine tk 7 36 (.slice (some ⟨bt, ot, none⟩) tr3.length ct) rfl ?y7 ?_
          case y7 =>
            intro w' hw'
            subst hw'
            go_simp
          try simp only [Act.put, List.setIfInBounds_toArray, List.set_cons_zero, List.set_cons_succ]
          refine tk 8 37 (.int .i64 nx) rfl ?y8 ?_
          case y8 =>
            intro w' hw'
            subst hw'
            go_simp
          try simp only [Act.put, List.setIfInBounds_toArray, List.set_cons_zero, List.set_cons_succ]
          refine tk 9 38 (.pointer (some ⟨bt, ot + nx, none⟩)) rfl ?y9 ?_
          case y9 =>
            intro w' hw'
            subst hw'
            go_simp
          try simp only [Act.put, List.setIfInBounds_toArray, List.set_cons_zero, List.set_cons_succ]
          refine tk 10 39 (.int .i64 t) rfl ?y10 ?_
          case y10 =>
            intro w' hw'
            subst hw'
            go_simp
          try simp only [Act.put, List.setIfInBounds_toArray, List.set_cons_zero, List.set_cons_succ]
          refine tk 11 40 (.int .i64 (-t)) rfl ?y11 ?_
          case y11 =>
            intro w' hw'
            subst hw'
            go_simp
          try simp only [Act.put, List.setIfInBounds_toArray, List.set_cons_zero, List.set_cons_succ]
          refine tk 12 41 (.slice Az zs.length cz) rfl ?y12 ?_
          case y12 =>
            intro w' hw'
            subst hw'
            go_simp
          try simp only [Act.put, List.setIfInBounds_toArray, List.set_cons_zero, List.set_cons_succ]
          refine tk 13 42 (.int .i64 zs.length) rfl ?y13 ?_
          case y13 =>
            intro w' hw'
            subst hw'
            go_simp
          try simp only [Act.put, List.setIfInBounds_toArray, List.set_cons_zero, List.set_cons_succ]
          refine tk 14 43 (.int .i64 0) rfl ?y14 ?_
          case y14 =>
            intro w' hw'
            subst hw'
            go_simp
          try simp only [Act.put, List.setIfInBounds_toArray, List.set_cons_zero, List.set_cons_succ]
          refine dn ?_
          obtain ⟨wo, rfl⟩ : ∃ wo : World, wo = wr := ⟨_, rfl⟩
          have HO := Lib.hid hO.out.inv
          have HTL := Lib.hid htl
          clear hneg hrun SD c2 c4 ct0 hO
          go_wp2
          go_loopw [43] (fun i wr => ∃ (j : Nat) (g4 : Gh) (tr4 ops4 : List Int), j ≤ zs.length ∧ i = .int .i64 j ∧ Hid (IRel B S bA bT l cs is U w nx tr3 (.slice Az zs.length cz) zs j g4 tr4 ops4 wr)) (fun i _ => zs.length - (intOf i).toNat)
          case atStart => exact ⟨0, g3, tr3, ops3, Nat.zero_le _, rfl, I0⟩
          case round =>
            obtain ⟨j, g4, tr4, ops4, hj, rfl, hI⟩ := hrel
            by_cases hltj : j < zs.length
            · obtain ⟨A', c', e', _, hat⟩ := hI.out.hv.nums
              cases e'
              obtain ⟨bz, oz, rfl, hlz, hcell⟩ := hat (by omega)
              have hzm : zs.getD j 0 ∈ idxL cs (-t) := by rw [← HZ.out]; exact getD_mem hltj
              obtain ⟨i, hi, hzi, him⟩ := mem_idxL.1 hzm
              have cz0 := hcell j hltj
              rw [hzi] at cz0
              have HZI := Lib.hid hzi
              obtain ⟨hi1, hval, hops⟩ := step_ops HO.out HZ.out hltn HT.out hI.out.hop hltj hzi
              have HVAL := Lib.hid hval
              have HOPS := Lib.hid hops
              have c1 := hI.out.sp.c1
              obtain ⟨go, co, evo, hgo, hgl⟩ := World.ownsRow.form hI.out.sp.ro (by rw [hI.out.hop.1]; omega)
              have hro := hI.out.sp.ro
              rw [evo] at c1 hro
              have HEV := Lib.hid evo
              obtain ⟨op, hop⟩ : ∃ op, ops4.getD i 0 = op := ⟨_, rfl⟩
              rw [hop] at hval hops
              have hiO : i < ops4.length := by rw [hI.out.hop.1]; exact hi
              have d1 : wr.cell? ⟨go, i, none⟩ = some (.int .i64 op) := by
                rw [World.ownsRow.cellAt hro i (by omega), ← hop]
                simp [encs, List.getD, hiO]
              have f1 := World.ownsRow.frozenAt hro i
              have hcl2 := cnt_len (cs.getD i []) (tr3.take (nx + 1))
              have hrl := H.out.rows _ (getD_memL hi)
              have hop0 : -1 ≤ op - 1 := by omega
              have hop1 : op ≤ 1001 := by omega
              have hzi0 : (0 : Int) ≤ (i : Int) := by omega
              have hiI : (i : Int) < (ops4.length : Int) := by omega
              obtain ⟨hst1, hst2⟩ := World.ownsRow.stored hro i (.int .i64 (op - 1))
              have hk1 : g4.vo.ownBlock = some go := by rw [evo]; rfl
              have hset : (encs ops4).set i (.int .i64 (op - 1)) = encs (ops4.set i (op - 1)) := by unfold encs; rw [List.map_set]
              have SS := Lib.hid (hI.out.sp.stored (ops' := ops4.set i (op - 1)) hk1 hst2 (by rw [evo]; unfold Own; rw [← hset, List.length_set]; exact hst1))
              have hlo : (ops4.set i (op - 1)).length = cs.length := by rw [List.length_set]; exact hI.out.hop.1
              have hgd : (ops4.set i (op - 1)).getD i 0 = op - 1 := by rw [set_getD hiO, if_pos rfl]
              have HGD := Lib.hid hgd
              have HLK := Lib.hid (look_any i _ SS.out hi hlo (inv_may hI.out.inv) (by have := hI.out.inv.len; omega) hI.out.nT hcl H.out.rows)
              rw [hgd] at HLK
              have HIL := Lib.hid (fun (tr5 : List Int) (hl : Looked (cs.getD i []) (op - 1) tr4 tr5) => hI.out.inv.look (getD_memL hi) hval (fun m hm => by obtain ⟨r, hr⟩ := hI.out.more; rw [hr]; exact List.mem_append_left _ (List.mem_of_mem_take hm)) hl)
              have HBS := Lib.hid (show Below B w (wr.setCell ⟨go, i, none⟩ (.int .i64 (op - 1))) from hI.out.hb.setCell (by show B ≤ go; omega) _)
              have HVS := Lib.hid (show Own (wr.setCell ⟨go, i, none⟩ (.int .i64 (op - 1))) (bA + 1) (.slice (some ⟨bz, oz, none⟩) zs.length cz) zs from
                Own.apart hI.out.hv hI.out.hvt hst2 (fun k hk => by cases hk; exact hI.out.sp.to_ go hk1) (by decide))
              have HVT := Lib.hid hI.out.hvt
              have hsat := hI.out.sat
              have HSAT := Lib.hid hsat
              have HNN := Lib.hid hI.out.nn
              have HMORE := Lib.hid hI.out.more
              have HIV := Lib.hid hI.out.inv
              rw [hop] at HOPS
              have HOPE := Lib.hid hop
              clear hcell hat hzm hzi him hval hops evo hro hop hcl2 hrl hst1 hst2 hk1 hset hlo hgd hsat hI hi1
              go_wp2_with fail
              refine (HLK.out).mono ?_
              rintro e w2 (⟨rfl, g5, tr5, hlk, hsp5, hn5, hm5, ho5, hk5, hb5⟩ | ⟨rfl, hno, hb5⟩)
              · obtain ⟨hi5, hs5, hm6⟩ := HIL.out tr5 hlk
                have R := Lib.hid (show IRel B S bA bT l cs is U w nx tr3 (.slice (some ⟨bz, oz, none⟩) zs.length cz) zs (j + 1) g5 tr5 (ops4.set i (op - 1)) w2 from
                  { sp := hsp5
                    inv := hi5
                    more := by
                      obtain ⟨r1, h1⟩ := HMORE.out
                      obtain ⟨r2, h2⟩ := hm6
                      exact ⟨r1 ++ r2, by rw [h2, h1, List.append_assoc]⟩
                    hop := HOPS.out
                    sat := fun k hk _ ho => by
                      by_cases e : k = i
                      · subst e
                        rw [HGD.out] at ho
                        exact hs5 ho
                      · rw [set_getD hiO, if_neg e] at ho
                        exact (HSAT.out.mono hm6) k hk trivial ho
                    nT := hn5
                    nn := by rw [hm5]; exact HNN.out
                    hb := HBS.out.trans hb5
                    hv := own_keep4 HVS.out HVT.out hk5
                    hvt := fun k hk => (ho5 k (HVS.out.lt k hk).2).trans (HVT.out k hk) })
                clear hlk hsp5 hn5 hm5 ho5 hk5 hb5 hi5 hs5 hm6 HLK
                go_wp2
                go_roundw
                case rel => exact ⟨j + 1, g5, tr5, _, by omega, by go_num, R⟩
                case measure => simp [intOf]; omega
              · have HNO := Lib.hid (HIV.out.no (getD_memL hi) hno)
                have HB := Lib.hid (HBS.out.trans hb5)
                clear hno hb5 HLK
                go_wp2
                go_ret
                exact ⟨HB.out, .inr ⟨rfl, HNO.out⟩⟩
            · have hjz : j = zs.length := by omega
              subst hjz
              have hops := end_ops HZ.out hltn HT.out hI.out.hop
              obtain ⟨r, hr⟩ := hI.out.more
              have hlen4 : nx + 1 ≤ tr4.length := by rw [hr]; simp; omega
              have htk : tr4.take (nx + 1) = tr3.take (nx + 1) := by rw [hr, List.take_append_of_le_length (by omega)]
              have R := Lib.hid (show ORel B S bA bT l cs is U w (nx + 1) g4 tr4 ops4 wr from ⟨hI.out.sp, hI.out.inv, by rw [htk]; exact hops, hI.out.sat, hI.out.nT, hI.out.nn, hI.out.hb⟩)
              clear hops hr htk
              go_wp2
              go_roundw
              case rel => exact ⟨nx + 1, g4, tr4, ops4, hlen4, by go_num, R⟩
              case measure => simp [intOf]; omega
        · have hnl : nx = tr3.length := by omega
          have HFIN := Lib.hid (show ∀ c ∈ cs, cnt c tr3 ≤ 1 → ∃ m ∈ c, m ∈ tr3 from fun c hc hle => by
            obtain ⟨i, hi, rfl⟩ := List.getElem_of_mem hc
            have e : cs.getD i [] = cs[i] := by simp [List.getD, List.getElem?_eq_getElem hi]
            have h1 := hO.out.hop.2 i hi
            rw [hnl, List.take_length, e] at h1
            have h2 := hO.out.sat i hi trivial (by rw [h1]; show ((cnt cs[i] tr3 : Nat) : Int) ≤ 1; omega)
            rwa [e] at h2)
          clear hnl hvt0
          go_wp2
          go_ret
          exact ⟨hO.out.hb, .inl ⟨rfl, g3, tr3, ops3, hO.out.sp, hO.out.inv, HFIN.out⟩⟩
end Go.Proofs.YtpfoaaiedfidbaaGreatDoor
