/- One node, one truth: the law. -/
import Derived.Test.YtailpphafoamfaaPzas
set_option linter.all false
namespace Go.Proofs.Ytailpphafoamfaa
open Go Go.RowKit Go.Maps


/-- Two numbers are the same just where their tables are. -/
theorem Good.one {n : Nat} {g : SG} {ls : List Nat} {ts : List (List Bool)} (h : Good n g ls ts) (hw : WF n g.ns) {i k : Nat} (hi : i < ls.length) (hk : k < ls.length) : ls.getD i 0 = ls.getD k 0 ↔ ts.getD i [] = ts.getD k [] := by
  obtain ⟨h1, h2⟩ := h.tab i hi
  obtain ⟨h3, h4⟩ := h.tab k hk
  constructor
  · intro e
    rw [h2, h4, e]
  · intro e
    rw [h2, h4] at e
    exact hw.one h1 h3 fun m => tab_inj (hw.hangs h1) (hw.hangs h3) e m
set_option maxHeartbeats 40000000 in
set_option maxRecDepth 100000 in
theorem one_law (W : World) (v : Int) (av : Value) (ac : List ActI) (hv : 0 ≤ v ∧ v ≤ 255) (ha : Acts W av ac) (hal : ac.length ≤ 9223372036854775807) (hav : ∀ a ∈ ac, a.vs.length ≤ 9223372036854775807) :
    Calls Try.prog 4 #[.int .u8 v, av] W fun e w' => e = .returned (.bool true) ∧ W.grownBy w' none := by
  have hn0 : 0 ≤ v % 6 ∧ v % 6 < 6 := ⟨Int.emod_nonneg v (by decide), Int.emod_lt_of_pos v (by decide)⟩
  obtain ⟨n, hn⟩ : ∃ n : Nat, 1 + v % 6 = (n : Int) := ⟨(1 + v % 6).toNat, by omega⟩
  have HN := Lib.hid (show 1 ≤ n ∧ n ≤ 6 from by omega)
  have HNEW := Lib.hid (new_any (w := W) (o := fun _ => 0) (fun _ _ => rfl) (n : Int) 100000)
  have HA := Lib.hid ha
  have HAL := Lib.hid hal
  have HAV := Lib.hid hav
  have qv0 : 0 ≤ v := hv.1
  have qv1 : v ≤ 255 := hv.2
  have wv : IntKind.i64.wrap v = v := IntWalk.i64_in _ (by omega)
  have wm : IntKind.i64.wrap (v % 6) = v % 6 := IntWalk.i64_in _ (by omega)
  have wn : IntKind.i64.wrap (1 + v % 6) = (n : Int) := (IntWalk.i64_in _ (by omega)).trans hn
  clear ha hal hav hn0
  go_enter Try.func4, Try.ntmps4
  go_wp2_with fail
  refine (HNEW.out).mono ?_
  intro e w1 hp
  obtain ⟨s, o1, g1, rfl, hst, hkp, hgs, hgV, hgR, hg2⟩ : ∃ (s : Nat) (o1 : Nat → Nat) (g1 : SG), e = .returned (.tuple #[.pointer (some ⟨s, 0, none⟩), .int .i64 0]) ∧ StoreAt w1 o1 g1 ∧ Keep T0 W (fun _ => 0) w1 o1 ∧ g1.s = s ∧ g1.V = n ∧ g1.room = 100000 ∧ g1.ns.length = 2 := by
    have h6 := HN.out
    rcases hp with ⟨h1, -⟩ | ⟨-, h1, -⟩ | ⟨-, -, s, val, o1, h1, h2, h3⟩
    · exact absurd (by omega) h1
    · exact absurd (by decide) h1
    · exact ⟨s, o1, _, h1, h2, h3.more (fun _ _ => rfl), rfl, by simp, rfl, rfl⟩
  have HST := Lib.hid hst
  have HKP := Lib.hid hkp
  have HGS := Lib.hid hgs
  have HGV := Lib.hid hgV
  have HGR := Lib.hid hgR
  have HG2 := Lib.hid hg2
  have HAW := Lib.hid (awake_any w1)
  clear hp hst hkp hgs hgV hgR hg2 HNEW
  go_wp2_with fail
  refine (HAW.out).mono ?_
  rintro e w2 ⟨rfl, hg⟩
  have HBU := Lib.hid (built_any (HST.out.grown hg) (HKP.out.trans (keep_none T0 o1 hg)) HN.out HGV.out (by rw [HGR.out]; decide) HG2.out HA.out HAL.out HAV.out)
  rw [HGS.out] at HBU
  clear hg HAW
  go_wp2_with fail
  refine (HBU.out).mono ?_
  rintro e w3 ⟨o', g', lv, tv, ls, ts, us, rfl, hlp⟩
  obtain ⟨m, hm⟩ : ∃ m, ls.length = m := ⟨_, rfl⟩
  obtain ⟨bl, ol, cl, hlv, hbl, hol, hcl⟩ := hlp.bt.nums.at_ (N := m) (i := 0) (by rw [List.length_map]; exact hm) (by have := hlp.good.two; omega)
  obtain ⟨bt, ot, ct, htv, hbt, hot, hat⟩ := hlp.bt.tabs.at_ (M := m) (j0 := 0) (by rw [← hlp.good.len]; exact hm) (by have := hlp.good.two; omega)
  subst hlv htv
  have HMM := Lib.hid hm
  have HLP := Lib.hid hlp
  have HGV2 := Lib.hid (show g'.V = n from hlp.ups.V.trans HGV.out)
  have qm : (m : Int) ≤ 32 := by have := hlp.le; omega
  have HCL := Lib.hid hcl
  have HAT := Lib.hid hat
  have HBL := Lib.hid hbl
  have HBT := Lib.hid hbt
  clear hlp hm hbl hol hcl hbt hot hat HBU
  have HWF := Lib.hid (show WF n g'.ns from by have := HLP.out.st.wf; rw [HGV2.out] at this; exact this)
  have HFIN := Lib.hid (HLP.out.kp.none)
  clear wv wm wn qv0 qv1 hv
  go_wp2
  go_loopw [11] (fun j wr => ∃ i : Nat, j = .int .i64 (i : Int) ∧ i ≤ m ∧ Hid (w3.grownBy wr none)) (fun j _ => m - (intOf j).toNat)
  case atStart => exact ⟨0, rfl, Nat.zero_le _, Lib.hid (World.grownBy.refl _ _)⟩
  case round =>
    obtain ⟨i, rfl, hk, hb⟩ := hrel
    have HB := hb
    by_cases hlt : i < m
    · have q1 : (i : Int) < (m : Int) := by omega
      have HLT := Lib.hid hlt
      obtain ⟨ui, hti, hbi⟩ := HAT.out i hlt
      have hli := HCL.out i hlt
      rw [getD_nat] at hli
      obtain ⟨xi, hxi⟩ : ∃ x, ls.getD i 0 = x := ⟨_, rfl⟩
      rw [hxi] at hli
      have HXI := Lib.hid hxi
      have HTI := Lib.hid hti
      have HLI := Lib.hid hli
      have HBI := Lib.hid hbi
      clear hti hbi hli hxi hk hb hlt
      go_wp2
      go_loopw [12] (fun j wy => ∃ k : Nat, j = .int .i64 (k : Int) ∧ k ≤ i ∧ Hid (w3.grownBy wy none)) (fun j _ => i - (intOf j).toNat)
      case atStart => exact ⟨0, rfl, Nat.zero_le _, HB⟩
      case round =>
        obtain ⟨k, rfl, hk2, hb2⟩ := hrel
        have HB2 := hb2
        obtain ⟨wo, hwo⟩ : ∃ wo, wr = wo := ⟨_, rfl⟩
        rw [hwo] at HB2 ⊢
        clear hwo hb2
        by_cases hlt2 : k < i
        · have q2 : (k : Int) < (i : Int) := by omega
          have q3 : (k : Int) < (m : Int) := by omega
          have hkm : k < m := by omega
          obtain ⟨uk, htk, hbk⟩ := HAT.out k hkm
          have hlk := HCL.out k hkm
          rw [getD_nat] at hlk
          obtain ⟨xk, hxk⟩ : ∃ x, ls.getD k 0 = x := ⟨_, rfl⟩
          rw [hxk] at hlk
          have mv := fun b q x (hb : b < w3.heap.size) (hx : w3.cell? ⟨b, q, none⟩ = some x) => (World.cell?_of_block (a := ⟨b, q, none⟩) (grown_far HB2.out hb)).trans hx
          have kli := mv _ _ _ HBL.out HLI.out
          have klk := mv _ _ _ HBL.out hlk
          have kti := mv _ _ _ HBT.out HTI.out
          have ktk := mv _ _ _ HBT.out htk
          have HLT3 := Lib.hid hlt2
          have hone := HLP.out.good.one HWF.out (i := i) (k := k) (by rw [HMM.out]; exact HLT.out) (by rw [HMM.out]; exact hkm)
          rw [HXI.out, hxk] at hone
          obtain ⟨d, hd⟩ : ∃ d, decide (ts.getD i [] = ts.getD k []) = d := ⟨_, rfl⟩
          have HDI := Lib.hid (show ((xi : Int) == (xk : Int)) = d from by
            rw [← hd]
            by_cases e : xi = xk
            · rw [decide_eq_true (hone.1 e), e]; simp
            · rw [decide_eq_false (fun h => e (hone.2 h))]; simp; omega)
          have hlen : ∀ j, j < m → (ts.getD j []).length ≤ 1000000 := fun j hj => by
            have := (HLP.out.good.tab j (by rw [HMM.out]; exact hj)).2
            rw [this, tab_len]
            have := pow6 HN.out.2
            omega
          have HSAME := Lib.hid (same_any ((HBI.out.bools.grown HB2.out).grown (grown_drewN wo 1)) ((hbk.bools.grown HB2.out).grown (grown_drewN wo 1)) ⟨hlen i HLT.out, hlen k hkm⟩)
          rw [hd] at HSAME
          have HLT2 := Lib.hid (show ∀ q ∈ [bl, bt], q < (World.drew wo).heap.size from fun q hq => by
            have h1 := HBL.out
            have h2 := HBT.out
            have h3 := (grown_trans HB2.out (grown_drewN wo 1)).size
            simp at hq
            rcases hq with rfl | rfl
            · exact Nat.lt_of_lt_of_le h1 h3
            · exact Nat.lt_of_lt_of_le h2 h3)
          clear htk hbk hlk hxk mv hone hd hlen hkm hk2 hlt2
          go_wp2
          refine wp_region_T (S := fun w' => ∀ k ∈ [bl, bt], w'.heap[k]? = wo.heap[k]?) (tail := fun _ => false) (by kernel_rfl) ?_
          change wpAnyT _ _ _ _ _ _ _ _ _ (World.drew wo)
          have BD := Lib.hid (show ∀ k ∈ [bl, bt], (World.drew wo).heap[k]? = wo.heap[k]? from fun _ _ => rfl)
          refine tk 0 53 (.slice (some ⟨bl, ol, none⟩) m cl) BD.out ?y0 ?_
          case y0 =>
            intro w' hw'
            go_simp
          try simp only [Act.put, List.setIfInBounds_toArray, List.set_cons_zero, List.set_cons_succ]
          refine tk 1 54 (.int .i64 ((i : Nat) : Int)) BD.out ?y1 ?_
          case y1 =>
            intro w' hw'
            go_simp
          try simp only [Act.put, List.setIfInBounds_toArray, List.set_cons_zero, List.set_cons_succ]
          refine tk 2 55 (.pointer (some ⟨bl, ol + i, none⟩)) BD.out ?y2 ?_
          case y2 =>
            intro w' hw'
            go_simp
          try simp only [Act.put, List.setIfInBounds_toArray, List.set_cons_zero, List.set_cons_succ]
          refine tk 3 56 (.int .i64 (xi : Int)) BD.out ?y3 ?_
          case y3 =>
            intro w' hw'
            have z0 := (World.cell?_of_block (a := ⟨bl, ol + i, none⟩) (hw' bl (by simp))).trans kli
            go_simp
          try simp only [Act.put, List.setIfInBounds_toArray, List.set_cons_zero, List.set_cons_succ]
          refine tk 4 57 (.slice (some ⟨bl, ol, none⟩) m cl) BD.out ?y4 ?_
          case y4 =>
            intro w' hw'
            go_simp
          try simp only [Act.put, List.setIfInBounds_toArray, List.set_cons_zero, List.set_cons_succ]
          refine tk 5 58 (.int .i64 ((k : Nat) : Int)) BD.out ?y5 ?_
          case y5 =>
            intro w' hw'
            go_simp
          try simp only [Act.put, List.setIfInBounds_toArray, List.set_cons_zero, List.set_cons_succ]
          refine tk 6 59 (.pointer (some ⟨bl, ol + k, none⟩)) BD.out ?y6 ?_
          case y6 =>
            intro w' hw'
            go_simp
          try simp only [Act.put, List.setIfInBounds_toArray, List.set_cons_zero, List.set_cons_succ]
          refine tk 7 60 (.int .i64 (xk : Int)) BD.out ?y7 ?_
          case y7 =>
            intro w' hw'
            have z0 := (World.cell?_of_block (a := ⟨bl, ol + k, none⟩) (hw' bl (by simp))).trans klk
            go_simp
          try simp only [Act.put, List.setIfInBounds_toArray, List.set_cons_zero, List.set_cons_succ]
          refine tk 8 61 (.bool d) BD.out ?y8 ?_
          case y8 =>
            intro w' hw'
            go_simp
            try exact HDI.out
            try (rw [← HDI.out]; simp)
          try simp only [Act.put, List.setIfInBounds_toArray, List.set_cons_zero, List.set_cons_succ]
          refine tk 9 62 (.slice (some ⟨bt, ot, none⟩) m ct) BD.out ?y9 ?_
          case y9 =>
            intro w' hw'
            go_simp
          try simp only [Act.put, List.setIfInBounds_toArray, List.set_cons_zero, List.set_cons_succ]
          refine tk 10 63 (.int .i64 ((i : Nat) : Int)) BD.out ?y10 ?_
          case y10 =>
            intro w' hw'
            go_simp
          try simp only [Act.put, List.setIfInBounds_toArray, List.set_cons_zero, List.set_cons_succ]
          refine tk 11 64 (.pointer (some ⟨bt, ot + i, none⟩)) BD.out ?y11 ?_
          case y11 =>
            intro w' hw'
            go_simp
          try simp only [Act.put, List.setIfInBounds_toArray, List.set_cons_zero, List.set_cons_succ]
          refine tk 12 65 (ui) BD.out ?y12 ?_
          case y12 =>
            intro w' hw'
            have z0 := (World.cell?_of_block (a := ⟨bt, ot + i, none⟩) (hw' bt (by simp))).trans kti
            go_simp
          try simp only [Act.put, List.setIfInBounds_toArray, List.set_cons_zero, List.set_cons_succ]
          refine tk 13 66 (.slice (some ⟨bt, ot, none⟩) m ct) BD.out ?y13 ?_
          case y13 =>
            intro w' hw'
            go_simp
          try simp only [Act.put, List.setIfInBounds_toArray, List.set_cons_zero, List.set_cons_succ]
          refine tk 14 67 (.int .i64 ((k : Nat) : Int)) BD.out ?y14 ?_
          case y14 =>
            intro w' hw'
            go_simp
          try simp only [Act.put, List.setIfInBounds_toArray, List.set_cons_zero, List.set_cons_succ]
          refine tk 15 68 (.pointer (some ⟨bt, ot + k, none⟩)) BD.out ?y15 ?_
          case y15 =>
            intro w' hw'
            go_simp
          try simp only [Act.put, List.setIfInBounds_toArray, List.set_cons_zero, List.set_cons_succ]
          refine tk 16 69 (uk) BD.out ?y16 ?_
          case y16 =>
            intro w' hw'
            have z0 := (World.cell?_of_block (a := ⟨bt, ot + k, none⟩) (hw' bt (by simp))).trans ktk
            go_simp
          try simp only [Act.put, List.setIfInBounds_toArray, List.set_cons_zero, List.set_cons_succ]
          refine on 17 (fun K hK => ?_)
          go_simp
          refine (HSAME.out).mono ?_
          rintro e z1 ⟨rfl, hgz⟩
          have B1 := Lib.hid (show ∀ q ∈ [bl, bt], z1.heap[q]? = wo.heap[q]? from fun q hq => grown_far hgz (HLT2.out q hq))
          have HGZ := Lib.hid (show w3.grownBy z1 none from grown_trans (grown_trans HB2.out (grown_drewN wo 1)) hgz)
          clear hgz
          refine hK.out _ _ (fun _ => B1.out) ?_
          clear hK K
          try simp only [Act.put, List.setIfInBounds_toArray, List.set_cons_zero, List.set_cons_succ]
          refine tk 18 71 (.bool false) B1.out ?y18 ?_
          case y18 =>
            intro w' hw'
            go_simp
            try (cases d <;> rfl)
          try simp only [Act.put, List.setIfInBounds_toArray, List.set_cons_zero, List.set_cons_succ]
          refine dn ?_
          clear kli klk kti ktk
          go_wp2
          go_roundw
          case rel => exact ⟨k + 1, by go_num, HLT3.out, HGZ⟩
          case measure => simp [intOf]; have := HLT3.out; omega
        · obtain rfl : k = i := by omega
          have q2 : ¬ (k : Int) < (k : Int) := by omega
          clear hk2 hlt2
          go_wp2
          go_roundw
          case rel => exact ⟨k + 1, by go_num, HLT.out, HB2⟩
          case measure => simp [intOf]; have := HLT.out; omega
    · obtain rfl : i = m := by omega
      have q1 : ¬ (i : Int) < (i : Int) := by omega
      clear hk hlt hb
      go_wp2
      go_ret
      exact ⟨rfl, grown_trans HFIN.out HB.out⟩

end Go.Proofs.Ytailpphafoamfaa
