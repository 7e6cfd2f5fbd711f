/- A diagram is true in the ways in which the table is: the law. -/
import Derived.Test.YtailpphafoamfaaPzas
set_option linter.all false
namespace Go.Proofs.Ytailpphafoamfaa
open Go Go.RowKit Go.Maps

set_option maxHeartbeats 40000000 in
set_option maxRecDepth 100000 in
theorem builds_law (W : World) (v : Int) (av : Value) (ac : List ActI) (hv : 0 ≤ v ∧ v ≤ 255) (ha : Acts W av ac) (hal : ac.length ≤ 9223372036854775807) (hav : ∀ a ∈ ac, a.vs.length ≤ 9223372036854775807) :
    Calls Try.prog 3 #[.int .u8 v, av] W fun e w' => e = .returned (.bool true) ∧ W.grownBy w' none := by
  have hn0 : 0 ≤ v % 6 ∧ v % 6 < 6 := ⟨Int.emod_nonneg v (by decide), Int.emod_lt_of_pos v (by decide)⟩
  obtain ⟨n, hn⟩ : ∃ n : Nat, 1 + v % 6 = (n : Int) := ⟨(1 + v % 6).toNat, by omega⟩
  have HN := Lib.hid (show 1 ≤ n ∧ n ≤ 6 from by omega)
  have HNEW := Lib.hid (new_any (w := W) (o := fun _ => 0) (fun _ _ => rfl) (n : Int) 100000)
  have HA := Lib.hid ha
  have HAL := Lib.hid hal
  have HAV := Lib.hid hav
  have qv0 : 0 ≤ v := hv.1
  have qv1 : v ≤ 255 := hv.2
  have wv : IntKind.i64.wrap v = v := IntWalk.i64_in _ (by omega)
  have wm : IntKind.i64.wrap (v % 6) = v % 6 := IntWalk.i64_in _ (by omega)
  have wn : IntKind.i64.wrap (1 + v % 6) = (n : Int) := (IntWalk.i64_in _ (by omega)).trans hn
  clear ha hal hav hn0
  go_enter Try.func3, Try.ntmps3
  go_wp2_with fail
  refine (HNEW.out).mono ?_
  intro e w1 hp
  obtain ⟨s, o1, g1, rfl, hst, hkp, hgs, hgV, hgR, hg2⟩ : ∃ (s : Nat) (o1 : Nat → Nat) (g1 : SG), e = .returned (.tuple #[.pointer (some ⟨s, 0, none⟩), .int .i64 0]) ∧ StoreAt w1 o1 g1 ∧ Keep T0 W (fun _ => 0) w1 o1 ∧ g1.s = s ∧ g1.V = n ∧ g1.room = 100000 ∧ g1.ns.length = 2 := by
    have h6 := HN.out
    rcases hp with ⟨h1, -⟩ | ⟨-, h1, -⟩ | ⟨-, -, s, val, o1, h1, h2, h3⟩
    · exact absurd (by omega) h1
    · exact absurd (by decide) h1
    · exact ⟨s, o1, _, h1, h2, h3.more (fun _ _ => rfl), rfl, by simp, rfl, rfl⟩
  have HST := Lib.hid hst
  have HKP := Lib.hid hkp
  have HGS := Lib.hid hgs
  have HGV := Lib.hid hgV
  have HGR := Lib.hid hgR
  have HG2 := Lib.hid hg2
  have HAW := Lib.hid (awake_any w1)
  clear hp hst hkp hgs hgV hgR hg2 HNEW
  go_wp2_with fail
  refine (HAW.out).mono ?_
  rintro e w2 ⟨rfl, hg⟩
  have HBU := Lib.hid (built_any (HST.out.grown hg) (HKP.out.trans (keep_none T0 o1 hg)) HN.out HGV.out (by rw [HGR.out]; decide) HG2.out HA.out HAL.out HAV.out)
  rw [HGS.out] at HBU
  clear hg HAW
  go_wp2_with fail
  refine (HBU.out).mono ?_
  rintro e w3 ⟨o', g', lv, tv, ls, ts, us, rfl, hlp⟩
  obtain ⟨m, hm⟩ : ∃ m, ls.length = m := ⟨_, rfl⟩
  obtain ⟨bl, ol, cl, hlv, hbl, hol, hcl⟩ := hlp.bt.nums.at_ (N := m) (i := 0) (by rw [List.length_map]; exact hm) (by have := hlp.good.two; omega)
  obtain ⟨bt, ot, ct, htv, hbt, hot, hat⟩ := hlp.bt.tabs.at_ (M := m) (j0 := 0) (by rw [← hlp.good.len]; exact hm) (by have := hlp.good.two; omega)
  subst hlv htv
  have HMM := Lib.hid hm
  have HLP := Lib.hid hlp
  have HGV2 := Lib.hid (show g'.V = n from hlp.ups.V.trans HGV.out)
  have qm : (m : Int) ≤ 32 := by have := hlp.le; omega
  have HCL := Lib.hid hcl
  have HAT := Lib.hid hat
  have HBL := Lib.hid hbl
  have HBT := Lib.hid hbt
  clear hlp hm hbl hol hcl hbt hot hat HBU
  have HWF := Lib.hid (show WF n g'.ns from by have := HLP.out.st.wf; rw [HGV2.out] at this; exact this)
  have HFIN := Lib.hid (HLP.out.kp.none)
  have HSS := Lib.hid (show g'.s = s from HLP.out.ups.s.trans HGS.out)
  obtain ⟨N, hN⟩ : ∃ N, 2 ^ n = N := ⟨_, rfl⟩
  have HNN := Lib.hid hN
  have HN6 := Lib.hid (show N ≤ 64 from by rw [← hN]; exact pow6 HN.out.2)
  have qN : (N : Int) ≤ 64 := by have := HN6.out; omega
  clear wv wm wn qv0 qv1 hv hN
  go_wp2
  go_loopw [11] (fun j wr => ∃ i : Nat, j = .int .i64 (i : Int) ∧ i ≤ m ∧ Hid (w3.grownBy wr none)) (fun j _ => m - (intOf j).toNat)
  case atStart => exact ⟨0, rfl, Nat.zero_le _, Lib.hid (World.grownBy.refl _ _)⟩
  case round =>
    obtain ⟨i, rfl, hk, hb⟩ := hrel
    have HB := hb
    by_cases hlt : i < m
    · have q1 : (i : Int) < (m : Int) := by omega
      have HLT := Lib.hid hlt
      obtain ⟨ui, hti, hbi⟩ := HAT.out i hlt
      have hli := HCL.out i hlt
      rw [getD_nat] at hli
      obtain ⟨xi, hxi⟩ : ∃ x, ls.getD i 0 = x := ⟨_, rfl⟩
      rw [hxi] at hli
      have hgd := HLP.out.good.tab i (by rw [HMM.out]; exact hlt)
      rw [hxi] at hgd
      have HGD := Lib.hid hgd
      have HXLT := Lib.hid hgd.1
      obtain ⟨bu, ou, cu, hui, hbu, hcu⟩ := hbi.bools.at_ (N := N) (i := 0) (by rw [hgd.2, tab_len]; exact HNN.out) (by rw [← HNN.out]; exact Nat.two_pow_pos n)
      subst hui
      have HTI := Lib.hid hti
      have HLI := Lib.hid hli
      have HBU2 := Lib.hid hbu
      have HCU := Lib.hid hcu
      clear hti hbi hli hxi hgd hbu hcu hk hb hlt
      go_wp2
      go_loopw [12] (fun j wy => ∃ k : Nat, j = .int .i64 (k : Int) ∧ k ≤ N ∧ Hid (w3.grownBy wy none)) (fun j _ => N - (intOf j).toNat)
      case atStart => exact ⟨0, rfl, Nat.zero_le _, HB⟩
      case round =>
        obtain ⟨k, rfl, hk2, hb2⟩ := hrel
        have HB2 := hb2
        obtain ⟨wo, hwo⟩ : ∃ wo, wr = wo := ⟨_, rfl⟩
        rw [hwo] at HB2 ⊢
        clear hwo hb2
        have mv := fun b q x (hb : b < w3.heap.size) (hx : w3.cell? ⟨b, q, none⟩ = some x) => (World.cell?_of_block (a := ⟨b, q, none⟩) (grown_far HB2.out hb)).trans hx
        have kli := mv _ _ _ HBL.out HLI.out
        have kti := mv _ _ _ HBT.out HTI.out
        by_cases hlt2 : k < N
        · have q2 : (k : Int) < (N : Int) := by omega
          have HLT3 := Lib.hid hlt2
          obtain ⟨x, hx⟩ : ∃ x, ev g'.ns xi (way n k) = x := ⟨_, rfl⟩
          have HCU2 := Lib.hid (show w3.cell? ⟨bu, ou + k, none⟩ = some (.bool x) from (HCU.out k hlt2).trans (by rw [HGD.out.2, tab_getD _ (by rw [HNN.out]; exact hlt2), hx]))
          have HVAL := Lib.hid (show ev g'.ns xi (lookB (wayL n k)) = x from by
            rw [← hx]
            exact HWF.out.hangs HXLT.out _ _ fun z hz => wayL_get hz)
          have HWAY := Lib.hid (way_any n k HN.out.2 (by have := HN6.out; omega) (World.drew wo))
          have HLT2 := Lib.hid (show ∀ q ∈ [bl], q < (World.drew wo).heap.size from fun q hq => by
            have h1 := HBL.out
            have h3 := (grown_trans HB2.out (grown_drewN wo 1)).size
            simp at hq
            subst hq
            exact Nat.lt_of_lt_of_le h1 h3)
          clear mv hx hk2 hlt2
          go_wp2
          refine wp_region_T (S := fun w' => ∀ k ∈ [bl], w'.heap[k]? = wo.heap[k]?) (tail := fun _ => false) (by kernel_rfl) ?_
          change wpAnyT _ _ _ _ _ _ _ _ _ (World.drew wo)
          have BD := Lib.hid (show ∀ k ∈ [bl], (World.drew wo).heap[k]? = wo.heap[k]? from fun _ _ => rfl)
          refine tk 0 60 (.pointer (some ⟨s, 0, none⟩)) BD.out ?y0 ?_
          case y0 =>
            intro w' hw'
            go_simp
          try simp only [Act.put, List.setIfInBounds_toArray, List.set_cons_zero, List.set_cons_succ]
          refine tk 1 61 (.slice (some ⟨bl, ol, none⟩) m cl) BD.out ?y1 ?_
          case y1 =>
            intro w' hw'
            go_simp
          try simp only [Act.put, List.setIfInBounds_toArray, List.set_cons_zero, List.set_cons_succ]
          refine tk 2 62 (.int .i64 ((i : Nat) : Int)) BD.out ?y2 ?_
          case y2 =>
            intro w' hw'
            go_simp
          try simp only [Act.put, List.setIfInBounds_toArray, List.set_cons_zero, List.set_cons_succ]
          refine tk 3 63 (.pointer (some ⟨bl, ol + i, none⟩)) BD.out ?y3 ?_
          case y3 =>
            intro w' hw'
            go_simp
          try simp only [Act.put, List.setIfInBounds_toArray, List.set_cons_zero, List.set_cons_succ]
          refine tk 4 64 (.int .i64 (xi : Int)) BD.out ?y4 ?_
          case y4 =>
            intro w' hw'
            have z0 := (World.cell?_of_block (a := ⟨bl, ol + i, none⟩) (hw' bl (by simp))).trans kli
            go_simp
          try simp only [Act.put, List.setIfInBounds_toArray, List.set_cons_zero, List.set_cons_succ]
          refine tk 5 65 (.int .i64 ((n : Nat) : Int)) BD.out ?y5 ?_
          case y5 =>
            intro w' hw'
            go_simp
          try simp only [Act.put, List.setIfInBounds_toArray, List.set_cons_zero, List.set_cons_succ]
          refine tk 6 66 (.int .i64 ((k : Nat) : Int)) BD.out ?y6 ?_
          case y6 =>
            intro w' hw'
            go_simp
          try simp only [Act.put, List.setIfInBounds_toArray, List.set_cons_zero, List.set_cons_succ]
          refine on 7 (fun K hK => ?_)
          go_simp
          refine (HWAY.out).mono ?_
          rintro e z1 ⟨vw, rfl, hrw, hgz⟩
          have B1 := Lib.hid (show ∀ q ∈ [bl], z1.heap[q]? = wo.heap[q]? from fun q hq => grown_far hgz (HLT2.out q hq))
          have HGZ := Lib.hid (show w3.grownBy z1 none from grown_trans (grown_trans HB2.out (grown_drewN wo 1)) hgz)
          have HEV := Lib.hid (eval_any (HLP.out.st.grown HGZ.out) (xi : Int) hrw.bools (by rw [wayL_len]; have := HN.out; omega))
          rw [HSS.out] at HEV
          obtain ⟨Aw, cw, hfw⟩ := hrw.form
          subst hfw
          rw [wayL_len] at HEV ⊢
          clear hgz hrw
          refine hK.out _ _ (fun _ => B1.out) ?_
          clear hK K
          try simp only [Act.put, List.setIfInBounds_toArray, List.set_cons_zero, List.set_cons_succ]
          refine on 8 (fun K hK => ?_)
          go_simp
          refine (HEV.out).mono ?_
          rintro e z2 ⟨hgz2, he⟩
          rw [if_pos (okB_of HXLT.out), if_pos (by rw [wayL_len]; exact HGV2.out.symm), Int.toNat_natCast, HVAL.out] at he
          subst he
          have B2 := Lib.hid (show ∀ q ∈ [bl], z2.heap[q]? = wo.heap[q]? from fun q hq => (grown_far hgz2 (by
            have h1 := HLT2.out q hq
            have h2 := HBL.out
            simp at hq
            subst hq
            exact Nat.lt_of_lt_of_le h2 HGZ.out.size)).trans (B1.out q hq))
          have HGZ2 := Lib.hid (grown_trans HGZ.out hgz2)
          clear hgz2
          refine hK.out _ _ (fun _ => B2.out) ?_
          clear hK K
          try simp only [Act.put, List.setIfInBounds_toArray, List.set_cons_zero, List.set_cons_succ]
          refine tk 9 59 (.tuple #[.bool x, .int .i64 0]) B2.out ?y9 ?_
          case y9 =>
            intro w' hw'
            go_simp
          try simp only [Act.put, List.setIfInBounds_toArray, List.set_cons_zero, List.set_cons_succ]
          refine tk 10 69 (.bool x) B2.out ?y10 ?_
          case y10 =>
            intro w' hw'
            go_simp
          try simp only [Act.put, List.setIfInBounds_toArray, List.set_cons_zero, List.set_cons_succ]
          refine tk 11 70 (.int .i64 0) B2.out ?y11 ?_
          case y11 =>
            intro w' hw'
            go_simp
          try simp only [Act.put, List.setIfInBounds_toArray, List.set_cons_zero, List.set_cons_succ]
          refine tk 12 13 (.bool x) B2.out ?y12 ?_
          case y12 =>
            intro w' hw'
            go_simp
          try simp only [Act.put, List.setIfInBounds_toArray, List.set_cons_zero, List.set_cons_succ]
          refine tk 13 14 (.int .i64 0) B2.out ?y13 ?_
          case y13 =>
            intro w' hw'
            go_simp
          try simp only [Act.put, List.setIfInBounds_toArray, List.set_cons_zero, List.set_cons_succ]
          refine dn ?_
          clear kli kti
          have mv := fun b q x (hb : b < w3.heap.size) (hx : w3.cell? ⟨b, q, none⟩ = some x) => (World.cell?_of_block (a := ⟨b, q, none⟩) (grown_far HGZ2.out hb)).trans hx
          have kti2 := mv _ _ _ HBT.out HTI.out
          have kcu2 := mv _ _ _ HBU2.out HCU2.out
          have hxx : (x != x) = false := by cases x <;> rfl
          clear mv
          go_wp2
          go_roundw
          case rel => exact ⟨k + 1, by go_num, HLT3.out, HGZ2⟩
          case measure => simp [intOf]; have := HLT3.out; omega
        · obtain rfl : k = N := by omega
          have q2 : ¬ (k : Int) < (k : Int) := by omega
          clear hk2 hlt2 mv
          go_wp2
          go_roundw
          case rel => exact ⟨i + 1, by go_num, HLT.out, HB2⟩
          case measure => simp [intOf]; have := HLT.out; omega
    · obtain rfl : i = m := by omega
      have q1 : ¬ (i : Int) < (i : Int) := by omega
      clear hk hlt hb
      go_wp2
      go_ret
      exact ⟨rfl, grown_trans HFIN.out HB.out⟩

end Go.Proofs.Ytailpphafoamfaa
