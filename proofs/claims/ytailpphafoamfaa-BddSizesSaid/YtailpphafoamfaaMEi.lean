/- How many nodes a diagram has: the law. -/
import Derived.Test.YtailpphafoamfaaPzas
import Derived.Test.YtailpphafoamfaaMMn
import Derived.Test.YtailpphafoamfaaMEh
set_option linter.all false
namespace Go.Proofs.Ytailpphafoamfaa
open Go Go.RowKit Go.Maps


theorem small64 {k : Nat} (h : k ≤ 2000) : wrap64 (k : Int) = (k : Int) ∧ IntKind.i64.wrap ((k : Int) + 2) = (k : Int) + 2 := by
  refine ⟨?_, IntWalk.i64_in _ (by omega)⟩
  unfold wrap64
  omega
theorem le_gl {k gl : Nat} (h : k + 2 ≤ gl) : ¬ (gl : Int) < (k : Int) + 2 := by omega
theorem nodup_le : ∀ (n : Nat) (l : List Nat), l.Nodup → (∀ x ∈ l, x < n) → l.length ≤ n
  | 0, l, _, h => by
    cases l with
    | nil => exact Nat.le_refl _
    | cons x l => have := h x (by simp); omega
  | n + 1, l, hd, h => by
    by_cases hm : n ∈ l
    · have h1 := nodup_le n (l.erase n) (hd.erase n) fun x hx => by
        have h2 := (hd.mem_erase_iff).1 hx
        have := h x h2.2
        have := h2.1
        omega
      rw [List.length_erase_of_mem hm] at h1
      omega
    · have := nodup_le n l hd fun x hx => by
        have := h x hx
        have : x ≠ n := fun e => hm (e ▸ hx)
        omega
      omega
/-- A diagram has no more nodes than its store, but for the two ends. -/
theorem WF.vis_le {V : Nat} {L : List Nd} (hw : WF V L) {f : Nat} (hf : f < L.length) : (vis L [] f).length + 2 ≤ L.length := by
  have h2 := hw.two
  obtain ⟨-, -, hd, hin, -⟩ := hw.vis_ok f [] hf (by simp) (by simp)
  have h3 : ∀ x ∈ vis L [] f, 2 ≤ x ∧ x ≤ f := fun x hx => (hin x hx).resolve_left (by simp)
  have h4 : (0 :: 1 :: vis L [] f).Nodup := by
    refine List.nodup_cons.2 ⟨fun h => ?_, List.nodup_cons.2 ⟨fun h => ?_, hd⟩⟩
    · rcases List.mem_cons.1 h with h | h
      · cases h
      · have := (h3 0 h).1; omega
    · have := (h3 1 h).1; omega
  have h5 := nodup_le L.length _ h4 fun x hx => by
    simp at hx
    rcases hx with rfl | rfl | hx
    · omega
    · omega
    · have := h3 x hx; omega
  simpa using h5
set_option maxHeartbeats 60000000 in
set_option maxRecDepth 100000 in
theorem sizes_law (W : World) (v : Int) (av : Value) (ac : List ActI) (hv : 0 ≤ v ∧ v ≤ 255) (ha : Acts W av ac) (hal : ac.length ≤ 9223372036854775807) (hav : ∀ a ∈ ac, a.vs.length ≤ 9223372036854775807) :
    Calls Try.prog 6 #[.int .u8 v, av] W fun e w' => e = .returned (.bool true) ∧ W.grownBy w' none := by
  have hn0 : 0 ≤ v % 5 ∧ v % 5 < 5 := ⟨Int.emod_nonneg v (by decide), Int.emod_lt_of_pos v (by decide)⟩
  obtain ⟨n, hn⟩ : ∃ n : Nat, 1 + v % 5 = (n : Int) := ⟨(1 + v % 5).toNat, by omega⟩
  have HN := Lib.hid (show 1 ≤ n ∧ n ≤ 6 from by omega)
  have HN5 := Lib.hid (show n ≤ 5 from by omega)
  have HNEW := Lib.hid (new_any (w := W) (o := fun _ => 0) (fun _ _ => rfl) (n : Int) 100000)
  have HA := Lib.hid ha
  have HAL := Lib.hid hal
  have HAV := Lib.hid hav
  have qv0 : 0 ≤ v := hv.1
  have qv1 : v ≤ 255 := hv.2
  have wv : IntKind.i64.wrap v = v := IntWalk.i64_in _ (by omega)
  have wm : IntKind.i64.wrap (v % 5) = v % 5 := IntWalk.i64_in _ (by omega)
  have wn : IntKind.i64.wrap (1 + v % 5) = (n : Int) := (IntWalk.i64_in _ (by omega)).trans hn
  clear ha hal hav hn0
  go_enter Try.func6, Try.ntmps6
  go_wp2_with fail
  refine (HNEW.out).mono ?_
  intro e w1 hp
  obtain ⟨s, o1, g1, rfl, hst, hkp, hgs, hgV, hgR, hg2⟩ : ∃ (s : Nat) (o1 : Nat → Nat) (g1 : SG), e = .returned (.tuple #[.pointer (some ⟨s, 0, none⟩), .int .i64 0]) ∧ StoreAt w1 o1 g1 ∧ Keep T0 W (fun _ => 0) w1 o1 ∧ g1.s = s ∧ g1.V = n ∧ g1.room = 100000 ∧ g1.ns.length = 2 := by
    have h6 := HN.out
    rcases hp with ⟨h1, -⟩ | ⟨-, h1, -⟩ | ⟨-, -, s, val, o1, h1, h2, h3⟩
    · exact absurd (by omega) h1
    · exact absurd (by decide) h1
    · exact ⟨s, o1, _, h1, h2, h3.more (fun _ _ => rfl), rfl, by simp, rfl, rfl⟩
  have HST := Lib.hid hst
  have HKP := Lib.hid hkp
  have HGS := Lib.hid hgs
  have HGV := Lib.hid hgV
  have HGR := Lib.hid hgR
  have HG2 := Lib.hid hg2
  have HAW := Lib.hid (awake_any w1)
  clear hp hst hkp hgs hgV hgR hg2 HNEW
  go_wp2_with fail
  refine (HAW.out).mono ?_
  rintro e w2 ⟨rfl, hg⟩
  have HBU := Lib.hid (built_any (HST.out.grown hg) (HKP.out.trans (keep_none T0 o1 hg)) HN.out HGV.out (by rw [HGR.out]; decide) HG2.out HA.out HAL.out HAV.out)
  rw [HGS.out] at HBU
  clear hg HAW
  go_wp2_with fail
  refine (HBU.out).mono ?_
  rintro e w3 ⟨o', g', lv, tv, ls, ts, us, rfl, hlp⟩
  obtain ⟨m, hm⟩ : ∃ m, ls.length = m := ⟨_, rfl⟩
  obtain ⟨bl, ol, cl, hlv, hbl, hol, hcl⟩ := hlp.bt.nums.at_ (N := m) (i := 0) (by rw [List.length_map]; exact hm) (by have := hlp.good.two; omega)
  obtain ⟨bt, ot, ct, htv, hbt, hot, hat⟩ := hlp.bt.tabs.at_ (M := m) (j0 := 0) (by rw [← hlp.good.len]; exact hm) (by have := hlp.good.two; omega)
  subst hlv htv
  have HMM := Lib.hid hm
  have HLP := Lib.hid hlp
  have HGV2 := Lib.hid (show g'.V = n from hlp.ups.V.trans HGV.out)
  have qm : (m : Int) ≤ 32 := by have := hlp.le; omega
  have HCL := Lib.hid hcl
  have HAT := Lib.hid hat
  have HBL := Lib.hid hbl
  have HBT := Lib.hid hbt
  clear hlp hm hbl hol hcl hbt hot hat HBU
  have HWF := Lib.hid (show WF n g'.ns from by have := HLP.out.st.wf; rw [HGV2.out] at this; exact this)
  have HSS := Lib.hid (show g'.s = s from HLP.out.ups.s.trans HGS.out)
  have HOL := Lib.hid (show o' bl = 0 from HLP.out.bt.lo bl rfl)
  have HOT := Lib.hid (show o' bt = 0 from HLP.out.bt.to bt rfl)
  obtain ⟨N, hN⟩ : ∃ N, 2 ^ n = N := ⟨_, rfl⟩
  have HNN := Lib.hid hN
  obtain ⟨gl, hgl⟩ : ∃ gl, g'.ns.length = gl := ⟨_, rfl⟩
  have HGL := Lib.hid (show g'.ns.length = gl ∧ gl ≤ 2000 from ⟨hgl, by have := HLP.out.room; omega⟩)
  clear wv wm wn qv0 qv1 hv hN hgl
  go_wp2
  go_loopw [11] (fun j wr => ∃ i : Nat, j = .int .i64 (i : Int) ∧ i ≤ m ∧ Hid (∃ o2, StoreAt wr o2 g' ∧ Keep T0 w3 o' wr o2)) (fun j _ => m - (intOf j).toNat)
  case atStart => exact ⟨0, rfl, Nat.zero_le _, Lib.hid ⟨o', HLP.out.st, Keep.refl _ _ _⟩⟩
  case round =>
    obtain ⟨i, rfl, hk, hb⟩ := hrel
    obtain ⟨o2, hst2, hk2⟩ := hb.out
    have HK2 := Lib.hid hk2
    by_cases hlt : i < m
    · have q1 : (i : Int) < (m : Int) := by omega
      have HLT := Lib.hid hlt
      obtain ⟨ui, hti, hbi⟩ := HAT.out i hlt
      have hli := HCL.out i hlt
      rw [getD_nat] at hli
      obtain ⟨xi, hxi⟩ : ∃ x, ls.getD i 0 = x := ⟨_, rfl⟩
      rw [hxi] at hli
      have hgd := HLP.out.good.tab i (by rw [HMM.out]; exact hlt)
      rw [hxi] at hgd
      obtain ⟨t, ht⟩ : ∃ t, ts.getD i [] = t := ⟨_, rfl⟩
      rw [ht] at hgd hbi
      have HGD := Lib.hid hgd
      have htl : t.length = N := by rw [hgd.2, tab_len]; exact HNN.out
      have HTL := Lib.hid htl
      obtain ⟨bu, ou, cu, hui, hbu, hcu⟩ := hbi.bools.at_ (N := N) (i := 0) htl (by rw [← HNN.out]; exact Nat.two_pow_pos n)
      subst hui
      have HBI := Lib.hid hbi
      have HTI := Lib.hid hti
      have HCAP := Lib.hid (show N ≤ cu from hbi.cap _ _ _ rfl)
      have kli := hk2.cell hli (by show T0 (o' bl) = false; rw [HOL.out]; rfl)
      have HSZ := Lib.hid (size_any hst2 (xi : Int))
      rw [HSS.out] at HSZ
      obtain ⟨k, hkk⟩ : ∃ k, (vis g'.ns [] xi).length = k := ⟨_, rfl⟩
      have hk3 : k + 2 ≤ gl := by rw [← hkk, ← HGL.out.1]; exact HWF.out.vis_le hgd.1
      have hk4 : (partsT n t n).length = k := by rw [← hkk, ← HWF.out.parts_len hgd.1, ← hgd.2]
      have hk0 : k ≤ 2000 := Nat.le_trans (Nat.le_trans (Nat.le_add_right k 2) hk3) HGL.out.2
      have hk5 : wrap64 (k : Int) = (k : Int) := (small64 hk0).1
      have HKK := Lib.hid (show (vis g'.ns [] xi).length = k ∧ (partsT n t n).length = k ∧ wrap64 (k : Int) = (k : Int) from ⟨hkk, hk4, hk5⟩)
      have qgt : ¬ (gl : Int) < (k : Int) + 2 := le_gl hk3
      have wk : IntKind.i64.wrap ((k : Int) + 2) = (k : Int) + 2 := (small64 hk0).2
      have qkk : ((k : Int) != (k : Int)) = false := by simp
      clear hti hbi hli hxi hgd hbu hcu hk hb hlt ht htl hst2 hk2 hkk hk3 hk4 hk5 hk0
      go_wp2_with fail
      refine (HSZ.out).mono ?_
      rintro e w4 ⟨⟨o4, hst4, hk4⟩, he⟩
      rw [if_pos (okB_of HGD.out.1), Int.toNat_natCast, HKK.out.1, HKK.out.2.2] at he
      subst he
      have HST4 := Lib.hid hst4
      have HK4 := Lib.hid (HK2.out.trans hk4)
      have kti := HK4.out.cell HTI.out (by show T0 (o' bt) = false; rw [HOT.out]; rfl)
      have HBI4 := Lib.hid (HBI.out.keep HK4.out rfl)
      obtain ⟨bu', ou', cu', hui, hbu, hcu⟩ := HBI4.out.bools.at_ (N := N) (i := 0) HTL.out (by rw [← HNN.out]; exact Nat.two_pow_pos n)
      simp at hui
      obtain ⟨⟨rfl, rfl⟩, rfl⟩ := hui
      have HPT := Lib.hid (parts_any (w := w4) hcu HTL.out HNN.out HN5.out hbu HCAP.out)
      rw [HKK.out.2.1] at HPT
      clear hst4 hk4 HSZ kli hbu hcu
      go_wp2_with fail
      refine (HPT.out).mono ?_
      rintro e w5 ⟨rfl, hg5⟩
      have HST5 := Lib.hid (HST4.out.grown hg5)
      have HK5 := Lib.hid (HK4.out.trans (keep_none T0 o4 hg5))
      have HND := Lib.hid (nodes_any HST5.out)
      rw [HSS.out, HGL.out.1] at HND
      clear hg5 HPT kti
      go_wp2_with fail
      refine (HND.out).mono ?_
      rintro e w6 ⟨rfl, rfl⟩
      clear HND
      go_wp2
      go_roundw
      case rel => exact ⟨i + 1, by go_num, HLT.out, Lib.hid ⟨o4, HST5.out, HK5.out⟩⟩
      case measure => simp [intOf]; have := HLT.out; omega
    · obtain rfl : i = m := by omega
      have q1 : ¬ (i : Int) < (i : Int) := by omega
      have HFIN := Lib.hid (show W.grownBy wr none from (HLP.out.kp.trans HK2.out).none)
      clear hk hlt hb hst2 hk2
      go_wp2
      go_ret
      exact ⟨rfl, HFIN.out⟩

end Go.Proofs.Ytailpphafoamfaa
