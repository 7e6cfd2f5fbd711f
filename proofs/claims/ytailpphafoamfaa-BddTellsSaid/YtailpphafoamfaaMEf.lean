/- In how many ways, and the first one: the law. -/
import Derived.Test.YtailpphafoamfaaPzas
import Derived.Test.YtailpphafoamfaaMMn
set_option linter.all false
namespace Go.Proofs.Ytailpphafoamfaa
open Go Go.RowKit Go.Maps


/-- What is told of the first way. -/
def WantOk (t : List Bool) (N k : Nat) : Prop := k ≤ N ∧ (∀ q, q < k → t.getD q false = false) ∧ (k < N → t.getD k false = true)
theorem want_first {t : List Bool} {N k j : Nat} (h : WantOk t N k) (hj : j < N) (h1 : t.getD j false = true) (h2 : ∀ q, q < j → t.getD q false = false) : k = j := by
  obtain ⟨a, b, c⟩ := h
  rcases Nat.lt_trichotomy k j with h3 | h3 | h3
  · have h4 := c (by omega)
    rw [h2 k h3] at h4
    cases h4
  · exact h3
  · have := b j h3
    rw [h1] at this
    cases this
theorem want_none {t : List Bool} {N k : Nat} (h : WantOk t N k) (h1 : ∀ q, q < N → t.getD q false = false) : k = N := by
  obtain ⟨a, b, c⟩ := h
  apply Classical.byContradiction
  intro hn
  have h4 := c (by omega)
  rw [h1 k (by omega)] at h4
  cases h4
set_option maxHeartbeats 60000000 in
set_option maxRecDepth 100000 in
theorem tells_law (W : World) (v : Int) (av : Value) (ac : List ActI) (hv : 0 ≤ v ∧ v ≤ 255) (ha : Acts W av ac) (hal : ac.length ≤ 9223372036854775807) (hav : ∀ a ∈ ac, a.vs.length ≤ 9223372036854775807) :
    Calls Try.prog 5 #[.int .u8 v, av] W fun e w' => e = .returned (.bool true) ∧ W.grownBy w' none := by
  have hn0 : 0 ≤ v % 6 ∧ v % 6 < 6 := ⟨Int.emod_nonneg v (by decide), Int.emod_lt_of_pos v (by decide)⟩
  obtain ⟨n, hn⟩ : ∃ n : Nat, 1 + v % 6 = (n : Int) := ⟨(1 + v % 6).toNat, by omega⟩
  have HN := Lib.hid (show 1 ≤ n ∧ n ≤ 6 from by omega)
  have HNEW := Lib.hid (new_any (w := W) (o := fun _ => 0) (fun _ _ => rfl) (n : Int) 100000)
  have HA := Lib.hid ha
  have HAL := Lib.hid hal
  have HAV := Lib.hid hav
  have qv0 : 0 ≤ v := hv.1
  have qv1 : v ≤ 255 := hv.2
  have wv : IntKind.i64.wrap v = v := IntWalk.i64_in _ (by omega)
  have wm : IntKind.i64.wrap (v % 6) = v % 6 := IntWalk.i64_in _ (by omega)
  have wn : IntKind.i64.wrap (1 + v % 6) = (n : Int) := (IntWalk.i64_in _ (by omega)).trans hn
  clear ha hal hav hn0
  go_enter Try.func5, Try.ntmps5
  go_wp2_with fail
  refine (HNEW.out).mono ?_
  intro e w1 hp
  obtain ⟨s, o1, g1, rfl, hst, hkp, hgs, hgV, hgR, hg2⟩ : ∃ (s : Nat) (o1 : Nat → Nat) (g1 : SG), e = .returned (.tuple #[.pointer (some ⟨s, 0, none⟩), .int .i64 0]) ∧ StoreAt w1 o1 g1 ∧ Keep T0 W (fun _ => 0) w1 o1 ∧ g1.s = s ∧ g1.V = n ∧ g1.room = 100000 ∧ g1.ns.length = 2 := by
    have h6 := HN.out
    rcases hp with ⟨h1, -⟩ | ⟨-, h1, -⟩ | ⟨-, -, s, val, o1, h1, h2, h3⟩
    · exact absurd (by omega) h1
    · exact absurd (by decide) h1
    · exact ⟨s, o1, _, h1, h2, h3.more (fun _ _ => rfl), rfl, by simp, rfl, rfl⟩
  have HST := Lib.hid hst
  have HKP := Lib.hid hkp
  have HGS := Lib.hid hgs
  have HGV := Lib.hid hgV
  have HGR := Lib.hid hgR
  have HG2 := Lib.hid hg2
  have HAW := Lib.hid (awake_any w1)
  clear hp hst hkp hgs hgV hgR hg2 HNEW
  go_wp2_with fail
  refine (HAW.out).mono ?_
  rintro e w2 ⟨rfl, hg⟩
  have HBU := Lib.hid (built_any (HST.out.grown hg) (HKP.out.trans (keep_none T0 o1 hg)) HN.out HGV.out (by rw [HGR.out]; decide) HG2.out HA.out HAL.out HAV.out)
  rw [HGS.out] at HBU
  clear hg HAW
  go_wp2_with fail
  refine (HBU.out).mono ?_
  rintro e w3 ⟨o', g', lv, tv, ls, ts, us, rfl, hlp⟩
  obtain ⟨m, hm⟩ : ∃ m, ls.length = m := ⟨_, rfl⟩
  obtain ⟨bl, ol, cl, hlv, hbl, hol, hcl⟩ := hlp.bt.nums.at_ (N := m) (i := 0) (by rw [List.length_map]; exact hm) (by have := hlp.good.two; omega)
  obtain ⟨bt, ot, ct, htv, hbt, hot, hat⟩ := hlp.bt.tabs.at_ (M := m) (j0 := 0) (by rw [← hlp.good.len]; exact hm) (by have := hlp.good.two; omega)
  subst hlv htv
  have HMM := Lib.hid hm
  have HLP := Lib.hid hlp
  have HGV2 := Lib.hid (show g'.V = n from hlp.ups.V.trans HGV.out)
  have qm : (m : Int) ≤ 32 := by have := hlp.le; omega
  have HCL := Lib.hid hcl
  have HAT := Lib.hid hat
  have HBL := Lib.hid hbl
  have HBT := Lib.hid hbt
  clear hlp hm hbl hol hcl hbt hot hat HBU
  have HWF := Lib.hid (show WF n g'.ns from by have := HLP.out.st.wf; rw [HGV2.out] at this; exact this)
  have HSS := Lib.hid (show g'.s = s from HLP.out.ups.s.trans HGS.out)
  have HOL := Lib.hid (show o' bl = 0 from HLP.out.bt.lo bl rfl)
  have HOT := Lib.hid (show o' bt = 0 from HLP.out.bt.to bt rfl)
  obtain ⟨N, hN⟩ : ∃ N, 2 ^ n = N := ⟨_, rfl⟩
  have HNN := Lib.hid hN
  have HN6 := Lib.hid (show N ≤ 64 from by rw [← hN]; exact pow6 HN.out.2)
  have qN : (N : Int) ≤ 64 := by have := HN6.out; omega
  clear wv wm wn qv0 qv1 hv hN
  go_wp2
  go_loopw [11] (fun j wr => ∃ i : Nat, j = .int .i64 (i : Int) ∧ i ≤ m ∧ Hid (∃ o2, StoreAt wr o2 g' ∧ Keep T0 w3 o' wr o2)) (fun j _ => m - (intOf j).toNat)
  case atStart => exact ⟨0, rfl, Nat.zero_le _, Lib.hid ⟨o', HLP.out.st, Keep.refl _ _ _⟩⟩
  case round =>
    obtain ⟨i, rfl, hk, hb⟩ := hrel
    obtain ⟨o2, hst2, hk2⟩ := hb.out
    have HST2 := Lib.hid hst2
    have HK2 := Lib.hid hk2
    by_cases hlt : i < m
    · have q1 : (i : Int) < (m : Int) := by omega
      have HLT := Lib.hid hlt
      obtain ⟨ui, hti, hbi⟩ := HAT.out i hlt
      have hli := HCL.out i hlt
      rw [getD_nat] at hli
      obtain ⟨xi, hxi⟩ : ∃ x, ls.getD i 0 = x := ⟨_, rfl⟩
      rw [hxi] at hli
      have hgd := HLP.out.good.tab i (by rw [HMM.out]; exact hlt)
      rw [hxi] at hgd
      obtain ⟨t, ht⟩ : ∃ t, ts.getD i [] = t := ⟨_, rfl⟩
      rw [ht] at hgd hbi
      have HGD := Lib.hid hgd
      have htl : t.length = N := by rw [hgd.2, tab_len]; exact HNN.out
      have HTL := Lib.hid htl
      obtain ⟨bu, ou, cu, hui, hbu, hcu⟩ := hbi.bools.at_ (N := N) (i := 0) htl (by rw [← HNN.out]; exact Nat.two_pow_pos n)
      subst hui
      have HBI := Lib.hid hbi
      have HTI := Lib.hid hti
      have HLI := Lib.hid hli
      have kli := hk2.cell hli (by show T0 (o' bl) = false; rw [HOL.out]; rfl)
      have HCNT := Lib.hid (count_any hst2 (xi : Int))
      rw [HSS.out] at HCNT
      have HCE := Lib.hid (show cntAll g' xi % UM = cntT t from by
        have h1 := HWF.out.cnt_tab hgd.1
        unfold cntAll
        rw [← h1, ← hgd.2]
        exact Nat.mod_eq_of_lt (Nat.lt_of_le_of_lt (List.count_le_length (a := true) (l := t)) (by rw [htl]; have := HN6.out; show N < 18446744073709551616; omega)))
      clear hti hbi hli hxi hgd hbu hcu hk hb hlt ht htl hst2 hk2
      go_wp2_with fail
      refine (HCNT.out).mono ?_
      rintro e w4 ⟨⟨o4, hst4, hk4⟩, he⟩
      rw [if_pos (okB_of HGD.out.1), Int.toNat_natCast, HCE.out] at he
      subst he
      have HST4 := Lib.hid hst4
      have HK4 := Lib.hid (HK2.out.trans hk4)
      have kli4 := HK4.out.cell HLI.out (by show T0 (o' bl) = false; rw [HOL.out]; rfl)
      have HPK := Lib.hid (pick_any hst4 (xi : Int))
      rw [HSS.out] at HPK
      clear hst4 hk4 HCNT kli
      go_wp2_with fail
      refine (HPK.out).mono ?_
      rintro e w5 ⟨hg5, hp⟩
      have HST5 := Lib.hid (HST4.out.grown hg5)
      have HK5 := Lib.hid (HK4.out.trans (keep_none T0 o4 hg5))
      have kti := HK5.out.cell HTI.out (by show T0 (o' bt) = false; rw [HOT.out]; rfl)
      have HBI5 := Lib.hid (HBI.out.keep HK5.out rfl)
      obtain ⟨bu', ou', cu', hui, hbu, hcu⟩ := HBI5.out.bools.at_ (N := N) (i := 0) HTL.out (by rw [← HNN.out]; exact Nat.two_pow_pos n)
      simp at hui
      obtain ⟨⟨rfl, rfl⟩, rfl⟩ := hui
      have HCU := Lib.hid hcu
      have HRC := Lib.hid (rcount_any (w := w5) HBI5.out.bools (by rw [HTL.out]; exact HN6.out))
      obtain ⟨ct, hct⟩ : ∃ ct : Int, ((cntT t : Nat) : Int) = ct := ⟨_, rfl⟩
      rw [hct] at HRC ⊢
      have qct : (ct != ct) = false := by simp
      have HPP := Lib.hid (show (xi = 0 ∧ e = .returned (.tuple #[.slice none 0 0, .int .i64 92])) ∨ (xi ≠ 0 ∧ ∃ (bw : Nat) (way : List Bool), e = .returned (.tuple #[.slice (some ⟨bw, 0, none⟩) n n, .int .i64 0]) ∧ way.length = n ∧ w5.heap[bw]? = some (.cells (boolC way) 4 (0, 0)) ∧ First n g'.ns xi (lookB way)) from by
        rcases hp with ⟨h1, h2⟩ | ⟨⟨h0, h1⟩, bw, way, h2, h3, h4, h5, h6⟩
        · left
          refine ⟨?_, h2⟩
          apply Classical.byContradiction
          intro hx
          exact h1 ⟨okB_of HGD.out.1, by omega⟩
        · right
          rw [HGV2.out] at h3 h6
          rw [Int.toNat_natCast] at h6
          exact ⟨by omega, bw, way, by rw [h2, h3], h3, h4, h6⟩)
      clear hbu hcu hp hg5 HPK kli4 hct
      rcases HPP.out with ⟨hx0, rfl⟩ | ⟨hx0, bw, way, rfl, hwl, hcw, hfi⟩
      · have HX0 := Lib.hid hx0
        clear hx0
        go_wp2
        go_loopw [16] (fun j wy => ∃ k : Nat, j = .int .i64 (k : Int) ∧ k ≤ N ∧ Hid (∀ q, q < k → t.getD q false = false) ∧ wy = w5) (fun j _ => N - (intOf j).toNat)
        case atStart => exact ⟨0, rfl, Nat.zero_le _, Lib.hid (fun q hq => by omega), rfl⟩
        case round =>
          obtain ⟨k, rfl, hk3, hq, rfl⟩ := hrel
          have HQ := hq
          by_cases hlt2 : k < N
          · have q2 : (k : Int) < (N : Int) := by omega
            have HLT2 := Lib.hid hlt2
            have kx := HCU.out k hlt2
            obtain ⟨x, hx⟩ : ∃ x, t.getD k false = x := ⟨_, rfl⟩
            rw [hx] at kx
            have HX := Lib.hid hx
            clear hx hlt2 hk3 hq
            cases x with
            | false =>
              go_wp2
              go_roundw
              case rel => exact ⟨k + 1, by go_num, HLT2.out, Lib.hid (fun q hq => by
                by_cases e : q = k
                · subst e; exact HX.out
                · exact HQ.out q (by omega)), by first | rfl | trivial⟩
              case measure => simp [intOf]; have := HLT2.out; omega
            | true =>
              have HWANT := Lib.hid (show WantOk t N k from ⟨Nat.le_of_lt HLT2.out, HQ.out, fun _ => HX.out⟩)
              have hkn := want_none HWANT.out (fun q hq => by
                rw [HGD.out.2, tab_getD _ (by rw [HNN.out]; exact hq), HX0.out, ev0])
              have := HLT2.out
              omega
          · obtain rfl : k = N := by omega
            have q2 : ¬ (k : Int) < (k : Int) := by omega
            have HWANT := Lib.hid (show WantOk t k k from ⟨Nat.le_refl _, HQ.out, fun h => absurd h (by omega)⟩)
            clear hlt2 hk3 hq
            clear kti
            have kti2 := HK5.out.cell HTI.out (by show T0 (o' bt) = false; rw [HOT.out]; rfl)
            go_wp2_with fail
            refine (HRC.out).mono ?_
            rintro e w6 ⟨rfl, hg6⟩
            have HK6 := Lib.hid (HK5.out.trans (keep_none T0 o4 hg6))
            have HST6 := Lib.hid (HST5.out.grown hg6)
            have kti6 := HK6.out.cell HTI.out (by show T0 (o' bt) = false; rw [HOT.out]; rfl)
            clear hg6 kti2
            go_wp2
            go_roundw
            case rel => exact ⟨i + 1, by go_num, HLT.out, Lib.hid ⟨o4, HST6.out, HK6.out⟩⟩
            case measure => simp [intOf]; have := HLT.out; omega
      · have HX0 := Lib.hid hx0
        have HFI := Lib.hid hfi
        have HWL := Lib.hid hwl
        have hbw := two_bools hcw
        rw [hwl] at hbw
        have HBW := Lib.hid hbw
        have HRAF := Lib.hid (fun (z : World) (hz : w5.grownBy z none) => rat_any (w := z) (HBW.out.grown hz) (by rw [HWL.out]; exact HN.out.2))
        clear hx0 hfi hwl hcw hbw
        go_wp2
        go_loopw [16] (fun j wy => ∃ k : Nat, j = .int .i64 (k : Int) ∧ k ≤ N ∧ Hid (∀ q, q < k → t.getD q false = false) ∧ wy = w5) (fun j _ => N - (intOf j).toNat)
        case atStart => exact ⟨0, rfl, Nat.zero_le _, Lib.hid (fun q hq => by omega), rfl⟩
        case round =>
          obtain ⟨k, rfl, hk3, hq, rfl⟩ := hrel
          have HQ := hq
          by_cases hlt2 : k < N
          · have q2 : (k : Int) < (N : Int) := by omega
            have HLT2 := Lib.hid hlt2
            have kx := HCU.out k hlt2
            obtain ⟨x, hx⟩ : ∃ x, t.getD k false = x := ⟨_, rfl⟩
            rw [hx] at kx
            have HX := Lib.hid hx
            clear hx hlt2 hk3 hq
            cases x with
            | false =>
              go_wp2
              go_roundw
              case rel => exact ⟨k + 1, by go_num, HLT2.out, Lib.hid (fun q hq => by
                by_cases e : q = k
                · subst e; exact HX.out
                · exact HQ.out q (by omega)), by first | rfl | trivial⟩
              case measure => simp [intOf]; have := HLT2.out; omega
            | true =>
              have HWANT := Lib.hid (show WantOk t N k from ⟨Nat.le_of_lt HLT2.out, HQ.out, fun _ => HX.out⟩)
              have hfa := HWF.out.first_at HGD.out.1 HWL.out HFI.out
              rw [HNN.out, ← HGD.out.2] at hfa
              have hka := want_first HWANT.out hfa.1 hfa.2.1 hfa.2.2
              have HKA := Lib.hid hka
              have qkk : ((k : Int) != (k : Int)) = false := by simp
              have qnn : ((n : Int) != (n : Int)) = false := by simp
              clear hfa hka
              go_wp2_with fail
              refine (HRC.out).mono ?_
              rintro e w6 ⟨rfl, hg6⟩
              have HK6 := Lib.hid (HK5.out.trans (keep_none T0 o4 hg6))
              have HST6 := Lib.hid (HST5.out.grown hg6)
              have kti6 := HK6.out.cell HTI.out (by show T0 (o' bt) = false; rw [HOT.out]; rfl)
              have HRA6 := Lib.hid (HRAF.out w6 hg6)
              rw [← HKA.out] at HRA6
              clear hg6 kti kx
              go_wp2_with fail
              refine (HRA6.out).mono ?_
              rintro e w7 ⟨rfl, hg7⟩
              have HK7 := Lib.hid (HK6.out.trans (keep_none T0 o4 hg7))
              have HST7 := Lib.hid (HST6.out.grown hg7)
              clear hg7
              go_wp2
              go_roundw
              case rel => exact ⟨i + 1, by go_num, HLT.out, Lib.hid ⟨o4, HST7.out, HK7.out⟩⟩
              case measure => simp [intOf]; have := HLT.out; omega
          · obtain rfl : k = N := by omega
            have q2 : ¬ (k : Int) < (k : Int) := by omega
            have HWANT := Lib.hid (show WantOk t k k from ⟨Nat.le_refl _, HQ.out, fun h => absurd h (by omega)⟩)
            clear hlt2 hk3 hq
            have hfa := HWF.out.first_at HGD.out.1 HWL.out HFI.out
            rw [HNN.out, ← HGD.out.2] at hfa
            have hka := want_first HWANT.out hfa.1 hfa.2.1 hfa.2.2
            have := hfa.1
            omega
    · obtain rfl : i = m := by omega
      have q1 : ¬ (i : Int) < (i : Int) := by omega
      have HFIN := Lib.hid (show W.grownBy wr none from (HLP.out.kp.trans HK2.out).none)
      clear hk hlt hb hst2 hk2
      go_wp2
      go_ret
      exact ⟨rfl, HFIN.out⟩

end Go.Proofs.Ytailpphafoamfaa
