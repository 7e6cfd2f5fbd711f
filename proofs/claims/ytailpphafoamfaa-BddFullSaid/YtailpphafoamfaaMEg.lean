/- With too little room: the law. -/
import Derived.Test.YtailpphafoamfaaPzas
set_option linter.all false
namespace Go.Proofs.Ytailpphafoamfaa
open Go Go.RowKit Go.Maps


/-- What the rounds keep, with too little room. -/
structure Lf (W : World) (n s R : Nat) (w : World) (o : Nat → Nat) (g' : SG) (lv tv : Value) (ls : List Nat) (ts : List (List Bool)) (us : List Value) (i : Nat) : Prop where
  st : StoreAt w o g'
  kp : Keep T0 W (fun _ => 0) w o
  hs : g'.s = s
  V : g'.V = n
  room : g'.room = R
  wk : g'.W ≤ 5000 * i
  bt : Bt W.heap.size w o lv tv ls ts us
  good : Good n g' ls ts
  le : ls.length ≤ i + 2
theorem Lf.grown {W w w' : World} {n s R : Nat} {g' : SG} {o : Nat → Nat} {lv tv : Value} {ls : List Nat} {ts : List (List Bool)} {us : List Value} {i : Nat} (h : Lf W n s R w o g' lv tv ls ts us i) (hg : w.grownBy w' none) : Lf W n s R w' o g' lv tv ls ts us i :=
  ⟨h.st.grown hg, h.kp.trans (keep_none _ _ hg), h.hs, h.V, h.room, h.wk, h.bt.grown hg, h.good, h.le⟩
theorem Lf.start {W w wl wr : World} {o : Nat → Nat} {g : SG} {n N s R : Nat} {a b : Value} (h : StoreAt w o g) (hk : Keep T0 W (fun _ => 0) w o) (hs : g.s = s) (hV : g.V = n) (hR : g.room = R) (hW : g.W = 0) (hN : 2 ^ n = N) (h2 : g.ns.length = 2) (hl : w.alloc (.cells #[.int .i64 0, .int .i64 1] 3) = wl) (hny : NY wl.heap.size wr a b N) (hb : wl.grownBy wr none) :
    Lf W n s R (wr.alloc (.cells #[a, b] 32)) o g (.slice (some ⟨w.heap.size, 0, none⟩) 2 2) (.slice (some ⟨wr.heap.size, 0, none⟩) 2 2) [0, 1] [List.replicate N false, List.replicate N true] [a, b] 0 := by
  have s1 : wl.heap.size = w.heap.size + 1 := by rw [← hl]; simp
  have hg1 : wl.grownBy (wr.alloc (.cells #[a, b] 32)) none := grown_trans hb (grown_alloc _ _)
  have hg : w.grownBy (wr.alloc (.cells #[a, b] 32)) none := grown_trans (by rw [← hl]; exact grown_alloc _ _) hg1
  have h1 : (wr.alloc (.cells #[a, b] 32)).heap[w.heap.size]? = some (.cells #[.int .i64 0, .int .i64 1] 3 (0, 0)) := (grown_far hg1 (by omega)).trans (by rw [← hl]; exact (MapKept.heap_alloc w _).1)
  have h3 : (wr.alloc (.cells #[a, b] 32)).heap[wr.heap.size]? = some (.cells #[a, b] 32 (0, 0)) := (MapKept.heap_alloc wr _).1
  have hW' : W.heap.size ≤ w.heap.size := hk.size
  have hw : wl.heap.size ≤ wr.heap.size := hb.size
  have hno := hny.no.alloc (.cells #[a, b] 32)
  have hyes := hny.yes.alloc (.cells #[a, b] 32)
  have hlt : ∀ {v : Value} {x : Bool} (q : Nat), BRow wl.heap.size wr v (List.replicate N x) → v.ownBlock = some q → wl.heap.size ≤ q ∧ q < wr.heap.size := fun q hr hq => hr.lt q hq
  refine ⟨h.grown hg, hk.trans (keep_none _ _ hg), hs, hV, hR, by omega, ⟨two_row h1 hW', two_row h3 (by omega), rfl, fun j u hu => ?_, fun q hq => ?_, fun q hq => ?_, fun q hq hq2 => ?_, fun j u q hu hq => ?_⟩, ⟨rfl, Nat.le_refl _, fun j hj => ?_⟩, Nat.le_refl _⟩
  · match j, hu with
    | 0, hu => cases hu; exact hno.bools.tag fun q hq => h.new q (by have := (hlt q hny.no hq).1; omega)
    | 1, hu => cases hu; exact hyes.bools.tag fun q hq => h.new q (by have := (hlt q hny.yes hq).1; omega)
    | j + 2, hu => simp at hu
  · cases hq; exact h.new _ (Nat.le_refl _)
  · cases hq; exact h.new _ (by show w.heap.size ≤ wr.heap.size; omega)
  · cases hq
    have := Option.some.inj hq2
    simp at this
    omega
  · have key : wl.heap.size ≤ q ∧ q < wr.heap.size := by
      match j, hu with
      | 0, hu => cases hu; exact hlt q hny.no hq
      | 1, hu => cases hu; exact hlt q hny.yes hq
      | j + 2, hu => simp at hu
    refine ⟨by simp; omega, ?_, ?_⟩
    · intro e; have := Option.some.inj e; simp at this; omega
    · intro e; have := Option.some.inj e; simp at this; omega
  · match j, hj with
    | 0, _ => exact ⟨by show 0 < _; omega, (tab_rep hN).trans (tab_hang fun m => (ev0 m).symm)⟩
    | 1, _ => exact ⟨by show 1 < _; omega, (tab_rep hN).trans (tab_hang fun m => (ev1 m).symm)⟩
    | j + 2, hj => simp at hj; omega
set_option maxHeartbeats 80000000 in
set_option maxRecDepth 100000 in
theorem full_out (W : World) (R : Int) (av : Value) (hR : ¬ (2 ≤ R ∧ R ≤ 16777216)) :
    Calls Try.prog 7 #[.int .i64 R, av] W fun e w' => e = .returned (.bool true) ∧ W.grownBy w' none := by
  have HNEW := Lib.hid (new_any (w := W) (o := fun _ => 0) (fun _ _ => rfl) 5 R)
  have HAW := Lib.hid (awake_any W)
  have HR := Lib.hid hR
  have hR2 : R < 2 ∨ (¬ R < 2 ∧ R > 16777216) := by omega
  clear hR
  rcases hR2 with q1 | ⟨q1, q2⟩
  all_goals
    go_enter Try.func7, Try.ntmps7
    go_wp2_with fail
    refine (HNEW.out).mono ?_
    intro e w1 hp
    obtain ⟨rfl, rfl⟩ : e = .returned (.tuple #[.pointer none, .int .i64 90]) ∧ W = w1 := by
      rcases hp with ⟨h1, -⟩ | ⟨-, -, h1, h2⟩ | ⟨-, h1, -⟩
      · exact absurd ⟨by decide, by decide⟩ h1
      · exact ⟨h1, h2⟩
      · exact absurd h1 HR.out
    clear hp HNEW
    go_wp2_with fail
    refine (HAW.out).mono ?_
    rintro e w2 ⟨rfl, hg⟩
    have HG := Lib.hid hg
    clear hg
    go_wp2
    go_ret
    exact ⟨rfl, HG.out⟩
set_option maxHeartbeats 80000000 in
set_option maxRecDepth 100000 in
theorem full_in (W : World) (R : Nat) (av : Value) (ac : List ActI) (hR : 2 ≤ R ∧ R ≤ 16777216) (ha : Acts W av ac) (hal : ac.length ≤ 9223372036854775807) (hav : ∀ a ∈ ac, a.vs.length ≤ 9223372036854775807) :
    Calls Try.prog 7 #[.int .i64 (R : Int), av] W fun e w' => e = .returned (.bool true) ∧ W.grownBy w' none := by
  obtain ⟨i0, hi0, hz0, hz1, hz2⟩ := info_parts info4
  obtain ⟨j0, hj0, hj1, hj2, hj3⟩ := info_parts info3
  obtain ⟨k0, hk0, hk1, hk2', hk3⟩ := info_parts info32
  obtain ⟨n, hn⟩ : ∃ n : Nat, n = 5 := ⟨5, rfl⟩
  have HNE := Lib.hid hn
  have HN := Lib.hid (show 1 ≤ n ∧ n ≤ 6 from by omega)
  have HN5 := Lib.hid (show ((n : Nat) : Int) = 5 from by omega)
  have HNN := Lib.hid (show 2 ^ n = 32 from by rw [hn])
  have HNEW := Lib.hid (new_any (w := W) (o := fun _ => 0) (fun _ _ => rfl) 5 (R : Int))
  have HA := Lib.hid ha
  have HAL := Lib.hid hal
  have HAV := Lib.hid hav
  have HRR := Lib.hid hR
  obtain ⟨Aa, ca, rfl, -⟩ := ha
  obtain ⟨M, hM⟩ : ∃ M, ac.length = M := ⟨_, rfl⟩
  have HM := Lib.hid hM
  rw [hM]
  have qr1 : ¬ (R : Int) < 2 := by omega
  have qr2 : ¬ (R : Int) > 16777216 := by omega
  clear hal hav hn hR hM
  go_enter Try.func7, Try.ntmps7
  go_wp2_with fail
  refine (HNEW.out).mono ?_
  intro e w1 hp
  obtain ⟨s, o1, g1, rfl, hst, hkp, hgs, hgV, hgR, hg2, hgW⟩ : ∃ (s : Nat) (o1 : Nat → Nat) (g1 : SG), e = .returned (.tuple #[.pointer (some ⟨s, 0, none⟩), .int .i64 0]) ∧ StoreAt w1 o1 g1 ∧ Keep T0 W (fun _ => 0) w1 o1 ∧ g1.s = s ∧ g1.V = n ∧ g1.room = R ∧ g1.ns.length = 2 ∧ g1.W = 0 := by
    rcases hp with ⟨h1, -⟩ | ⟨-, h1, -⟩ | ⟨-, -, s, val, o1, h1, h2, h3⟩
    · exact absurd ⟨by decide, by decide⟩ h1
    · exact absurd (by have := HRR.out; omega) h1
    · exact ⟨s, o1, _, h1, h2, h3.more (fun _ _ => rfl), rfl, by show Int.toNat 5 = n; rw [HNE.out]; rfl, by simp, rfl, rfl⟩
  have HST := Lib.hid hst
  have HKP := Lib.hid hkp
  have HGS := Lib.hid hgs
  have HGV := Lib.hid hgV
  have HGR := Lib.hid hgR
  have HG2 := Lib.hid hg2
  have HGW := Lib.hid hgW
  have HAW := Lib.hid (awake_any w1)
  clear hp hst hkp hgs hgV hgR hg2 hgW HNEW
  go_wp2_with fail
  refine (HAW.out).mono ?_
  rintro e w2 ⟨rfl, hg⟩
  have HST2 := Lib.hid (HST.out.grown hg)
  have HKP2 := Lib.hid (HKP.out.trans (keep_none T0 o1 hg))
  clear hg HAW
  obtain ⟨wl, hwl⟩ : ∃ wl, w2.alloc (.cells #[.int .i64 0, .int .i64 1] 3) = wl := ⟨_, rfl⟩
  have HWL := Lib.hid hwl
  go_wp2
  clear hwl
  go_loopw [8, 9, 10] (fun a b j wr => ∃ i : Nat, j = .int .i64 (i : Int) ∧ i ≤ 32 ∧ Hid (NY wl.heap.size wr a b i) ∧ Hid (wl.grownBy wr none)) (fun _ _ j _ => 32 - (intOf j).toNat)
  case atStart =>
    refine ⟨0, rfl, Nat.zero_le _, Lib.hid ⟨(BRow.made wl (Nat.le_refl _)).alloc _, ?_, ?_⟩, Lib.hid (grown_trans (grown_alloc _ _) (grown_alloc _ _))⟩
    · have := BRow.made (base := wl.heap.size) (wl.alloc (.cells #[] 4)) (by simp)
      simpa using this
    · intro q hq hq2
      cases hq
      have := Option.some.inj hq2
      simp at this
  case round =>
    obtain ⟨i, rfl, hk, hm, hb⟩ := hrel
    have HMM := hm
    have HB := hb
    by_cases hlt : i < 32
    · have q1 : (i : Int) < 32 := by omega
      have HLT := Lib.hid hlt
      have QL := fun (x : Bool) => Lib.hid (show (List.replicate i x).length ≤ 1000000 from by rw [List.length_replicate]; omega)
      have QB := fun o : Obj => Lib.hid (show wl.heap.size ≤ (wr.alloc o).heap.size from Nat.le_trans HB.out.size (by simp))
      clear hk hm hb hlt
      go_wp2_with (first
        | (at_builtin
           refine wpList_push _ rfl (.tmp 57) (.tmp 58) 32 rfl 4 i0 (.bool false) 1 Try.underlying32 hi0 hz0 hz1 hz2 rfl (by decide) wl.heap.size u8 _ _ rfl (HMM.out.no.alloc _) wr.heap.size 1 (.bool false) rfl (cell_new _ _ _) rfl (QL false).out (QB _).out ?_
           intro o2 w3 hown2 hgrow2 hat2
           have HO2 := Lib.hid (BRow.push hown2)
           have HG2 := Lib.hid hgrow2
           have HAT2 := Lib.hid hat2
           have HY2 := Lib.hid ((HMM.out.yes.alloc (.cells #[.bool false] 4)).row hgrow2 (fun b hb e => HMM.out.dis b e hb))
           have HB3 := Lib.hid (grown_own (grown_trans HB.out (grown_alloc wr _)) (fun b hb => (HMM.out.no.lt b hb).1) hgrow2)
           have QB3 := fun o : Obj => Lib.hid (show wl.heap.size ≤ (w3.alloc o).heap.size from Nat.le_trans HB3.out.size (by simp))
           clear hown2 hgrow2 hat2)
        | (at_builtin
           refine wpList_push _ rfl (.tmp 60) (.tmp 61) 32 rfl 4 i0 (.bool false) 1 Try.underlying32 hi0 hz0 hz1 hz2 rfl (by decide) wl.heap.size u9 _ _ rfl (HY2.out.alloc _) w3.heap.size 1 (.bool true) rfl (cell_new _ _ _) rfl (QL true).out (QB3 _).out ?_
           intro o3 w4 hown3 hgrow3 hat3
           have HO3 := Lib.hid (BRow.push hown3)
           have HG3 := Lib.hid hgrow3
           have HAT3 := Lib.hid hat3
           clear hown3 hgrow3 hat3))
      have HNY := Lib.hid (show NY wl.heap.size w4 o2 o3 (i + 1) from by
        have d1 : ∀ q, o2.ownBlock = some q → o3.ownBlock ≠ some q := fun q hq hq3 => by
          have l2 := HO2.out.lt q hq
          rcases HAT3.out with e | e
          · rw [e] at hq3
            rcases HAT2.out with e2 | e2
            · exact HMM.out.dis q (by rw [← e2]; exact hq) hq3
            · rw [e2] at hq
              cases hq
              have := ((HMM.out.yes.alloc (.cells #[.bool false] 4)).lt _ hq3).2
              omega
          · rw [e] at hq3
            cases hq3
            have : (w3.alloc (.cells #[.bool true] 4)).heap.size = w3.heap.size + 1 := by simp
            omega
        refine ⟨(HO2.out.alloc _).row HG3.out (fun b hb e => ?_), HO3.out, d1⟩
        rcases HAT2.out with e2 | e2
        · exact HMM.out.dis b (by rw [← e2]; exact hb) e
        · rw [e2] at hb
          cases hb
          have := ((HMM.out.yes.alloc (.cells #[.bool false] 4)).lt _ e).2
          omega)
      have HB4 := Lib.hid (grown_own (grown_trans HB3.out (grown_alloc w3 _)) (fun b hb => (HY2.out.lt b hb).1) HG3.out)
      go_roundw
      case rel => exact ⟨i + 1, by go_num, HLT.out, HNY, HB4⟩
      case measure => simp [intOf]; have := HLT.out; omega
    · obtain rfl : i = 32 := by omega
      have HB := hb
      have HSTA := Lib.hid (Lf.start HST2.out HKP2.out HGS.out HGV.out HGR.out HGW.out HNN.out HG2.out HWL.out hm.out hb.out)
      obtain ⟨A9, c9, h9⟩ := hm.out.no.form
      obtain ⟨A10, c10, h10⟩ := hm.out.yes.form
      subst h9 h10
      rw [List.length_replicate] at HSTA ⊢
      rw [List.length_replicate] at HSTA ⊢
      obtain ⟨wo, hwo⟩ : ∃ wo, wr = wo := ⟨_, rfl⟩
      rw [hwo] at HSTA ⊢
      clear hk hlt hm hb hwo
      have HWK := Lib.hid (works_any HSTA.out.st)
      rw [HGS.out] at HWK
      go_wp2_with fail
      refine (HWK.out).mono ?_
      rintro e wx ⟨rfl, hwx⟩
      rw [hwx] at HSTA
      clear hwx HWK
      go_wp2
      go_loopw [7, 11, 12, 13] (fun lv tv wk j wr => ∃ i : Nat, j = .int .i64 (i : Int) ∧ i ≤ 30 ∧ i ≤ M ∧ Hid (∃ (o' : Nat → Nat) (g' : SG) (ls : List Nat) (ts : List (List Bool)) (us : List Value), wk = .int .u64 ((g'.W % 18446744073709551616 : Nat) : Int) ∧ Lf W n s R wr o' g' lv tv ls ts us i)) (fun _ _ _ j _ => 30 - (intOf j).toNat)
      case atStart => exact ⟨0, rfl, Nat.zero_le _, Nat.zero_le _, Lib.hid ⟨o1, g1, _, _, _, rfl, HSTA.out⟩⟩
      case round =>
        obtain ⟨i, rfl, hk, hk2, hlpE⟩ := hrel
        obtain ⟨o', g', ls, ts, us, hwk, hlp⟩ := hlpE.out
        clear hlpE
        subst hwk
        have HLP := Lib.hid hlp
        by_cases hlt : i < M ∧ i < 30
        · have q1 : (i : Int) < (M : Int) := by omega
          have q2 : (i : Int) < 30 := by omega
          have HLT := Lib.hid hlt
          obtain ⟨A', c', he, hc⟩ := HA.out.grown hlp.kp.none
          rw [HM.out] at he
          simp at he
          obtain ⟨rfl, rfl⟩ := he
          have hil : i < ac.length := by rw [HM.out]; exact hlt.1
          obtain ⟨ba, oa, rfl, hba, hcell⟩ := hc (by intro e; rw [e] at hil; simp at hil)
          obtain ⟨a, hai⟩ : ∃ a, ac[i]? = some a := ⟨_, List.getElem?_eq_getElem hil⟩
          obtain ⟨y0, y1, y2, y3, vv, y4, hvv⟩ := hcell i a hai
          have HMl := Lib.hid (show 1 ≤ ls.length ∧ ls.length ≤ 1000 from by have := hlp.good.two; have := hlp.le; omega)
          obtain ⟨k, A, B, C, B', C', vs, hok, hcall⟩ := fitted_any (K := a.K) (A0 := a.A) (B0 := a.B) (C0 := a.C) hvv HN.out HMl.out (HAV.out a (List.mem_of_getElem? hai))
          have HOKA := Lib.hid hok
          have HCALL := Lib.hid hcall
          rw [HN5.out] at HCALL
          obtain ⟨Al, cl, hfl⟩ := hlp.bt.lrow.form
          subst hfl
          rw [List.length_map] at HLP ⊢
          obtain ⟨m, hm⟩ : ∃ m, ls.length = m := ⟨_, rfl⟩
          have HMM := Lib.hid hm
          rw [hm] at HCALL HLP ⊢
          have qm : (m : Int) ≤ 1000 := by have := HMl.out.2; omega
          obtain ⟨wk0, hwk0⟩ : ∃ wk0 : Int, ((g'.W % 18446744073709551616 : Nat) : Int) = wk0 := ⟨_, rfl⟩
          have HWK0 := Lib.hid hwk0
          rw [hwk0]
          clear hc hcell hba hai hvv hok hcall hk hk2 hlp hlt hm hil hwk0
          unfold actV at HCALL
          go_wp2_with fail
          refine (HCALL.out).mono ?_
          rintro e w1 ⟨v1, rfl, hir, hg1⟩
          have HL1 := Lib.hid (HLP.out.grown hg1)
          obtain ⟨Av1, cv1, hfv⟩ := hir.form
          subst hfv
          rw [List.length_map] at hir ⊢
          have HIR := Lib.hid hir
          clear hir hg1 y0 y1 y2 y3 y4 HCALL
          unfold actV
          have HCB := Lib.hid (show (w1.alloc (.cells #[.int .i64 (k : Int), .int .i64 (A : Int), .int .i64 B', .int .i64 C', .slice Av1 vs.length cv1] 51)).heap[w1.heap.size]? = some (.cells #[.int .i64 (k : Int), .int .i64 (A : Int), .int .i64 B', .int .i64 C', .slice Av1 vs.length cv1] 51 (0, 0)) from (MapKept.heap_alloc w1 _).1)
          have HL2 := Lib.hid (HL1.out.grown (grown_alloc w1 (.cells #[.int .i64 (k : Int), .int .i64 (A : Int), .int .i64 B', .int .i64 C', .slice Av1 vs.length cv1] 51)))
          have HOB := Lib.hid (show o' w1.heap.size = 0 from HL1.out.st.new _ (Nat.le_refl _))
          have HVO := Lib.hid (show NumsO w1 o' (.slice Av1 vs.length cv1) (vs.map fun (x : Nat) => (x : Int)) from HIR.out.numsO HLP.out.st.new)
          have HVA := Lib.hid (HVO.out.keep (T := fun _ => false) (keep_alloc _ w1 o' (.cells #[.int .i64 (k : Int), .int .i64 (A : Int), .int .i64 B', .int .i64 C', .slice Av1 vs.length cv1] 51)) rfl)
          have HNV := Lib.hid (show ∀ bq, (Value.slice Av1 vs.length cv1).ownBlock = some bq → (Value.slice Al m cl).ownBlock ≠ some bq from fun bq hq e => by
            have h1 := (HIR.out.lt bq hq).1
            have h2 := (HLP.out.bt.lrow.lt bq e).2
            omega)
          have HM1 := Lib.hid (show m ≤ 1000 from by rw [← HMM.out]; exact HMl.out.2)
          have HGV' := Lib.hid (show g'.V = n from HLP.out.V)
          have HGS' := Lib.hid (show g'.s = s from HLP.out.hs)
          obtain ⟨bt, ot, ct, htv, hbt, hot, hat⟩ := HL2.out.bt.tabs.at_ (M := m) (j0 := 0) (by rw [← HL2.out.good.len]; exact HMM.out) (by rw [← HMM.out]; exact HMl.out.1)
          have HNB := Lib.hid (show (Value.slice Al m cl).ownBlock ≠ some w1.heap.size ∧ (Value.slice (some ⟨bt, ot, none⟩) m ct).ownBlock ≠ some w1.heap.size from ⟨fun e => by have := (HL1.out.bt.lrow.lt _ e).2; omega, fun e => by rw [← htv] at e; have := (HL1.out.bt.trow.lt _ e).2; omega⟩)
          subst htv
          clear hat hbt hot
          obtain ⟨wa, hwa⟩ : ∃ wa, w1.alloc (.cells #[.int .i64 (k : Int), .int .i64 (A : Int), .int .i64 B', .int .i64 C', .slice Av1 vs.length cv1] 51) = wa := ⟨_, rfl⟩
          obtain ⟨bx, hbx⟩ : ∃ bx, w1.heap.size = bx := ⟨_, rfl⟩
          rw [hwa, hbx] at HCB
          rw [hwa] at HL2 HVA
          rw [hbx] at HOB HNB
          have x0 : wa.cell? ⟨bx, 0, none⟩ = some (.int .i64 (k : Int)) := (cell_of HCB.out).trans rfl
          have x1 : wa.cell? ⟨bx, 1, none⟩ = some (.int .i64 (A : Int)) := (cell_of HCB.out).trans rfl
          have x2 : wa.cell? ⟨bx, 2, none⟩ = some (.int .i64 B') := (cell_of HCB.out).trans rfl
          have x3 : wa.cell? ⟨bx, 3, none⟩ = some (.int .i64 C') := (cell_of HCB.out).trans rfl
          have x4 : wa.cell? ⟨bx, 4, none⟩ = some (.slice Av1 vs.length cv1) := (cell_of HCB.out).trans rfl
          by_cases hk7 : k = 7
          · have qk : ((k : Int) == 7) = true := by subst hk7; rfl
            have HLF := Lib.hid (show Lf W n s R wa o' g' _ _ ls ts us (i + 1) from ⟨HL2.out.st, HL2.out.kp, HL2.out.hs, HL2.out.V, HL2.out.room, Nat.le_trans HL2.out.wk (by omega), HL2.out.bt, HL2.out.good, Nat.le_trans HL2.out.le (by omega)⟩)
            clear hk7
            go_wp2
            rw [← HWK0.out]
            go_roundw
            case rel => exact ⟨i + 1, by go_num, by have := HLT.out; omega, HLT.out.1, Lib.hid ⟨o', g', ls, ts, us, rfl, HLF.out⟩⟩
            case measure => simp [intOf]; have := HLT.out; omega
          · have qk : ((k : Int) == 7) = false := by simp; omega
            have HRENT := Lib.hid (show k = 7 → RenamesT (ts.getD A []) n (vs.map fun (x : Nat) => (x : Int)) from fun h => absurd h hk7)
            have HREN := Lib.hid (show k = 7 → RenOk g' (ls.getD A 0) (vs.map fun (x : Nat) => (x : Int)) from fun h => absurd h hk7)
            have HDO := Lib.hid (do_any HL2.out.st (by rw [HGV'.out]; exact HN.out.2) HL2.out.bt.nums HL2.out.good.all.1 (by rw [HMM.out]; exact HM1.out) HOKA.out.k8 (by rw [HGV'.out]; exact HOKA.out.z) HOKA.out.s HVA.out.nums (by have := HOKA.out.vl; have := HN.out; omega) (by rw [HGV'.out]; exact HOKA.out.vn))
            unfold actV at HDO
            rw [HGS'.out] at HDO
            clear hk7
            go_wp2_with fail
            refine (HDO.out).mono ?_
            intro e w2 hp
            clear hwa hbx
            obtain ⟨o2, g2, hz⟩ := hp.1 HREN.out
            have HZ := Lib.hid hz
            have HST2 := Lib.hid hz.st
            have HK2 := Lib.hid hz.keep
            have HU2 := Lib.hid hz.ups
            have HBT2 := Lib.hid (HL2.out.bt.keep hz.keep rfl)
            have HKP2 := Lib.hid (HL2.out.kp.trans hz.keep)
            have HGD2 := Lib.hid (HL2.out.good.ups hz.ups HL2.out.st.wf hz.st.wf)
            have HWK2 := Lib.hid (show g2.W ≤ 5000 * (i + 1) from by have := hz.W1; have := HL2.out.wk; omega)
            have HS2 := Lib.hid (show g2.s = s from hz.ups.s.trans HL2.out.hs)
            have HND := Lib.hid (nodes_any hz.st)
            have HWS := Lib.hid (works_any hz.st)
            rw [HS2.out] at HND HWS
            have hnl : ¬ ((g2.ns.length : Nat) : Int) > (R : Int) := by
              have h1 := hz.st.bd.2.2
              have h2 := hz.ups.room
              have h3 := HL2.out.room
              omega
            obtain ⟨nl, hnl2⟩ : ∃ nl : Int, ((g2.ns.length : Nat) : Int) = nl := ⟨_, rfl⟩
            obtain ⟨wk1, hwk1⟩ : ∃ wk1 : Int, ((g2.W % 18446744073709551616 : Nat) : Int) = wk1 := ⟨_, rfl⟩
            have HWK1 := Lib.hid hwk1
            rw [hnl2] at HND hnl
            rw [hwk1] at HWS
            have hws : ¬ wk1 < wk0 := by
              have h1 := HWK0.out
              have h2 := HL2.out.wk
              have h3 := HWK2.out
              have h4 := hz.ups.W
              have h5 := HLT.out
              rw [Nat.mod_eq_of_lt (by omega)] at h1 hwk1
              omega
            rcases hz.res with ⟨he, hns, -⟩ | ⟨r, he, hr2, -, hev⟩
            · subst he
              have HLF := Lib.hid (show Lf W n s R w2 o2 g2 _ _ ls ts us (i + 1) from ⟨hz.st, HKP2.out, HS2.out, hz.ups.V.trans HL2.out.V, hz.ups.room.trans HL2.out.room, HWK2.out, HBT2.out, HGD2.out, Nat.le_trans HL2.out.le (by omega)⟩)
              clear hp hz hns hnl2 hwk1 x0 x1 x2 x3 x4 qk HDO
              go_wp2_with fail
              refine (HND.out).mono ?_
              rintro e wy ⟨rfl, rfl⟩
              go_wp2_with fail
              refine (HWS.out).mono ?_
              rintro e wy ⟨rfl, rfl⟩
              go_wp2_with fail
              refine (HWS.out).mono ?_
              rintro e wy ⟨rfl, rfl⟩
              go_wp2
              rw [← HWK1.out]
              go_roundw
              case rel => exact ⟨i + 1, by go_num, by have := HLT.out; omega, HLT.out.1, Lib.hid ⟨o2, g2, ls, ts, us, rfl, HLF.out⟩⟩
              case measure => simp [intOf]; have := HLT.out; omega
            · subst he
              have HR2 := Lib.hid hr2
              have HEV := Lib.hid hev
              have HTB2 := Lib.hid (show doT n k A B C vs ts = tabF n (ev g2.ns r) from (doT_tab (G := fun j => ev g'.ns (ls.getD j 0)) (fun j hj => by
                  have h1 := HL2.out.good.tab j (by rw [HL2.out.good.len]; exact hj)
                  have h2 := HL2.out.st.wf.hangs h1.1
                  rw [HGV'.out] at h2
                  exact ⟨h2, h1.2⟩) HOKA.out.z (fun hz => by rw [← HL2.out.good.len]; exact (HOKA.out.s hz).1) HOKA.out.vn).trans (tab_hang fun m => (hev m).symm))
              have HCW2 := Lib.hid ((hz.keep.blk bx (Array.getElem?_eq_some_iff.1 HCB.out).1 (by rw [HOB.out]; rfl)).trans HCB.out)
              have HVW2 := Lib.hid (HVA.out.keep hz.keep rfl)
              clear hp hz hnl2 hwk1 x0 x1 x2 x3 x4 qk HDO hr2 hev
              have c0 : w2.cell? ⟨bx, 0, none⟩ = some (.int .i64 (k : Int)) := (cell_of HCW2.out).trans rfl
              have c1 : w2.cell? ⟨bx, 1, none⟩ = some (.int .i64 (A : Int)) := (cell_of HCW2.out).trans rfl
              have c2 : w2.cell? ⟨bx, 2, none⟩ = some (.int .i64 B') := (cell_of HCW2.out).trans rfl
              have c3 : w2.cell? ⟨bx, 3, none⟩ = some (.int .i64 C') := (cell_of HCW2.out).trans rfl
              have c4 : w2.cell? ⟨bx, 4, none⟩ = some (.slice Av1 vs.length cv1) := (cell_of HCW2.out).trans rfl
              go_wp2_with fail
              refine (HND.out).mono ?_
              rintro e wy ⟨rfl, rfl⟩
              go_wp2_with fail
              refine (HWS.out).mono ?_
              rintro e wy ⟨rfl, rfl⟩
              go_wp2_with fail
              refine (HWS.out).mono ?_
              rintro e wy ⟨rfl, rfl⟩
              go_wp2
              refine wp_region_T (S := fun w' => ∀ k ∈ [bx], w'.heap[k]? = w2.heap[k]?) (tail := fun _ => false) (by kernel_rfl) ?_
              change wpAnyT _ _ _ _ _ _ _ _ _ (World.drew w2)
              have BD := Lib.hid (show ∀ k ∈ [bx], (World.drew w2).heap[k]? = w2.heap[k]? from fun _ _ => rfl)
              refine tk 0 121 (.slice Al m cl) BD.out ?y0 ?_
              case y0 =>
                intro w' hw'
                go_simp
              try simp only [Act.put, List.setIfInBounds_toArray, List.set_cons_zero, List.set_cons_succ]
              refine tk 1 122 (.int .i64 ((r : Nat) : Int)) BD.out ?y1 ?_
              case y1 =>
                intro w' hw'
                go_simp
              try simp only [Act.put, List.setIfInBounds_toArray, List.set_cons_zero, List.set_cons_succ]
              refine tk 4 125 (.slice (some ⟨bt, ot, none⟩) m ct) BD.out ?y4 ?_
              case y4 =>
                intro w' hw'
                go_simp
              try simp only [Act.put, List.setIfInBounds_toArray, List.set_cons_zero, List.set_cons_succ]
              refine tk 5 126 (.agg #[.int .i64 (k : Int), .int .i64 (A : Int), .int .i64 B', .int .i64 C', .slice Av1 vs.length cv1]) BD.out ?y5 ?_
              case y5 =>
                intro w' hw'
                have y0 := (World.cell?_of_block (a := ⟨bx, 0, none⟩) (hw' bx (by simp))).trans c0
                have y1 := (World.cell?_of_block (a := ⟨bx, 1, none⟩) (hw' bx (by simp))).trans c1
                have y2 := (World.cell?_of_block (a := ⟨bx, 2, none⟩) (hw' bx (by simp))).trans c2
                have y3 := (World.cell?_of_block (a := ⟨bx, 3, none⟩) (hw' bx (by simp))).trans c3
                have y4 := (World.cell?_of_block (a := ⟨bx, 4, none⟩) (hw' bx (by simp))).trans c4
                go_simp
              try simp only [Act.put, List.setIfInBounds_toArray, List.set_cons_zero, List.set_cons_succ]
              refine tk 6 127 (.slice (some ⟨bt, ot, none⟩) m ct) BD.out ?y6 ?_
              case y6 =>
                intro w' hw'
                go_simp
              try simp only [Act.put, List.setIfInBounds_toArray, List.set_cons_zero, List.set_cons_succ]
              have hb2 := (Array.getElem?_eq_some_iff.1 HCW2.out).1
              refine on 2 (fun K hK => ?_)
              go_simp
              have BA := Lib.hid (show ∀ k ∈ [bx], ((World.drew w2).alloc (.cells #[.int .i64 (r : Int)] 3)).heap[k]? = w2.heap[k]? from fun k hk => by
                simp at hk
                subst hk
                exact heap_alloc_old hb2)
              refine hK.out _ _ (fun _ => BA.out) ?_
              clear hK K
              try simp only [Act.put, List.setIfInBounds_toArray, List.set_cons_zero, List.set_cons_succ]
              have HBT3 := Lib.hid (HBT2.out.grown (grown_trans (grown_drewN w2 1) (grown_alloc _ (.cells #[.int .i64 (r : Int)] 3))))
              have HLR3 := Lib.hid (show ((World.drew w2).alloc (.cells #[.int .i64 (r : Int)] 3)).ownsRow W.heap.size 3 1 (.slice Al m cl) m ((ls.map fun (x : Nat) => (x : Int)).map (Value.int .i64)) from by
                have h1 := HBT3.out.lrow
                unfold IRow at h1
                rw [List.length_map, HMM.out] at h1
                exact h1)
              have hW2 := HKP2.out.size
              refine on 3 (fun K hK => ?_)
              refine wp_push _ (.tmp 121) (.tmp 123) 28 rfl 3 j0 (.int .i64 0) 8 Try.underlying28 hj0 hj1 hj2 hj3 rfl (by decide) W.heap.size (.slice Al m cl) m _ rfl HLR3.out (World.drew w2).heap.size 1 (.int .i64 (r : Int)) rfl (cell_new _ _ _) rfl (by have := HM1.out; omega) (by simp; exact Nat.le_trans hW2 (Nat.le_succ _)) ?_
              intro lv2 w4 hown4 hgrow4 hat4
              have hst3 : StoreAt ((World.drew w2).alloc (.cells #[.int .i64 (r : Int)] 3)) o2 g2 := HST2.out.drew.alloc _
              have hkp3 := HKP2.out.trans ((keep_drew T0 w2 o2).trans (keep_alloc T0 _ o2 (.cells #[.int .i64 (r : Int)] 3)))
              have HBT4 := Lib.hid (HBT3.out.pushL hgrow4 (by rw [HMM.out]; exact hown4) hat4 hst3.new)
              have HST4 := Lib.hid (hst3.row0 hgrow4 (fun b hb => HBT3.out.lo b hb))
              have HKP4 := Lib.hid (hkp3.row hgrow4 (fun b hb => (HBT3.out.lrow.lt b hb).1))
              have hne4 : (Value.slice Al m cl).ownBlock ≠ some bx := fun e => HNB.out.1 e
              have B4 := Lib.hid (show ∀ k ∈ [bx], w4.heap[k]? = w2.heap[k]? from fun k hk => by
                simp at hk
                subst hk
                exact (hgrow4.block k (by simp; exact Nat.lt_succ_of_lt hb2) (fun e => hne4 e.symm)).trans (heap_alloc_old hb2))
              have HVW4 := Lib.hid (show Nums w4 (.slice Av1 vs.length cv1) (vs.map fun (x : Nat) => (x : Int)) from by
                obtain ⟨Aq, cq, e1, e2⟩ := HVW2.out
                refine ⟨Aq, cq, e1, fun hne => ?_⟩
                obtain ⟨bq, oq, e3, e4, e5, e6⟩ := e2 hne
                have hbv : (Value.slice Al m cl).ownBlock ≠ some bq := HNV.out bq (by rw [e1, e3]; rfl)
                refine ⟨bq, oq, e3, Nat.lt_of_lt_of_le e4 (Nat.le_trans (by simp) hgrow4.size), fun j x hx => (World.cell?_of_block (a := ⟨bq, oq + j, none⟩) ((hgrow4.block bq (by simp; exact Nat.lt_succ_of_lt e4) (fun e => hbv e.symm)).trans (heap_alloc_old e4))).trans (e6 j x hx)⟩)
              have hlb4 : ∀ b, lv2.ownBlock = some b → b < w4.heap.size := fun b hb => (HBT4.out.lrow.lt b hb).2
              clear hown4 hgrow4 hat4 hst3 hkp3 hne4
              refine hK.out _ _ (fun _ => B4.out) ?_
              clear hK K
              try simp only [Act.put, List.setIfInBounds_toArray, List.set_cons_zero, List.set_cons_succ]
              have HRD := Lib.hid (rdo_any (k := k) (A := A) (B := B) (C := C) (B' := B') (C' := C') (vs := vs) HST4.out.new HBT4.out.tabs HN.out.2 HGD2.out.all.2 (by rw [← HGD2.out.len, HMM.out]; have := HM1.out; omega) HOKA.out.k8 HOKA.out.z (by rw [← HGD2.out.len]; exact HOKA.out.s) HVW4.out (by have := HOKA.out.vl; have := HN.out; omega) HOKA.out.vn HRENT.out)
              unfold actV at HRD
              rw [HN5.out] at HRD
              refine on 7 (fun K hK => ?_)
              go_simp
              refine (HRD.out).mono ?_
              rintro e w5 ⟨u, rfl, hbo, hg5, hfrom⟩
              have hub : ∀ b, u.ownBlock = some b → b < w5.heap.size ∧ lv2.ownBlock ≠ some b ∧ (Value.slice (some ⟨bt, ot, none⟩) m ct).ownBlock ≠ some b := by
                have htl : (Value.slice (some ⟨bt, ot, none⟩) m ct).ownBlock = some bt := rfl
                intro b hb
                rcases hfrom with ⟨b', off, M', c', e1, eA, e2⟩ | hfr
                · cases e1
                  obtain ⟨j, hj⟩ := ent_of HBT4.out.trow eA e2
                  obtain ⟨d1, d2, d3⟩ := HBT4.out.dl j u b hj hb
                  exact ⟨Nat.lt_of_lt_of_le d1 hg5.size, d2, d3⟩
                · have h1 := hfr b hb
                  refine ⟨?_, fun e => by have := hlb4 b e; omega, fun e => by have := (HBT4.out.trow.lt b e).2; omega⟩
                  obtain ⟨Au, cu, e1, e2⟩ := hbo
                  subst e1
                  obtain ⟨bu, ou, rfl, e3, -⟩ := e2 (by intro e0; have h9 := congrArg List.length e0; rw [HTB2.out, tab_len] at h9; exact absurd h9 (Nat.ne_of_gt (Nat.two_pow_pos n)))
                  cases hb
                  exact e3
              have HBO := Lib.hid hbo
              have HUB := Lib.hid hub
              have HBT5 := Lib.hid (HBT4.out.grown hg5)
              have HST5 := Lib.hid (HST4.out.grown hg5)
              have HKP5 := Lib.hid (HKP4.out.trans (keep_none T0 o2 hg5))
              have B5 := Lib.hid (show ∀ q ∈ [bx], w5.heap[q]? = w2.heap[q]? from fun q hq => by
                have h1 := B4.out q hq
                simp at hq
                subst hq
                exact (grown_far hg5 (by
                  have : w4.heap[q]? = some (.cells #[.int .i64 (k : Int), .int .i64 (A : Int), .int .i64 B', .int .i64 C', .slice Av1 vs.length cv1] 51 (0, 0)) := h1.trans HCW2.out
                  exact (Array.getElem?_eq_some_iff.1 this).1)).trans h1)
              obtain ⟨Au, cu, hfu, -⟩ := hbo
              subst hfu
              clear hg5 hfrom hub hlb4
              refine hK.out _ _ (fun _ => B5.out) ?_
              clear hK K
              try simp only [Act.put, List.setIfInBounds_toArray, List.set_cons_zero, List.set_cons_succ]
              obtain ⟨lu, hlu⟩ : ∃ lu, (doT n k A B C vs ts).length = lu := ⟨_, rfl⟩
              rw [hlu] at HBO HUB ⊢
              refine on 8 (fun K hK => ?_)
              go_simp
              have hb5 : bx < w5.heap.size := by
                have : w5.heap[bx]? = some (.cells #[.int .i64 (k : Int), .int .i64 (A : Int), .int .i64 B', .int .i64 C', .slice Av1 vs.length cv1] 51 (0, 0)) := (B5.out bx (by simp)).trans HCW2.out
                exact (Array.getElem?_eq_some_iff.1 this).1
              have B6 := Lib.hid (show ∀ q ∈ [bx], (w5.alloc (.cells #[.slice Au lu cu] 32)).heap[q]? = w2.heap[q]? from fun q hq => by
                have h1 := B5.out q hq
                simp at hq
                subst hq
                exact (heap_alloc_old hb5).trans h1)
              refine hK.out _ _ (fun _ => B6.out) ?_
              clear hK K
              try simp only [Act.put, List.setIfInBounds_toArray, List.set_cons_zero, List.set_cons_succ]
              have HBT6 := Lib.hid (HBT5.out.grown (grown_alloc w5 (.cells #[.slice Au lu cu] 32)))
              refine on 9 (fun K hK => ?_)
              refine wp_push _ (.tmp 125) (.tmp 129) 29 rfl 32 k0 (.slice none 0 0) 24 Try.underlying29 hk0 hk1 hk2' hk3 rfl (by decide) W.heap.size (.slice (some ⟨bt, ot, none⟩) m ct) us.length us rfl HBT6.out.trow w5.heap.size 1 (.slice Au lu cu) rfl (cell_new _ _ _) rfl (by have := HBT6.out.ul; have h2 := HGD2.out.len; rw [HMM.out] at h2; have := HM1.out; omega) (by simp; exact Nat.le_trans HKP5.out.size (Nat.le_succ _)) ?_
              intro tv2 w7 hown7 hgrow7 hat7
              have hst6 : StoreAt (w5.alloc (.cells #[.slice Au lu cu] 32)) o2 g2 := HST5.out.alloc _
              have hkp6 := HKP5.out.trans (keep_alloc T0 w5 o2 (.cells #[.slice Au lu cu] 32))
              have hbo6 : BoolsO (w5.alloc (.cells #[.slice Au lu cu] 32)) o2 (.slice Au lu cu) (doT n k A B C vs ts) := HBO.out.keep (T := fun _ => false) (keep_alloc _ w5 o2 _) rfl
              have HBT7 := Lib.hid (HBT6.out.pushT hbo6 (fun b hb => by have := HUB.out b hb; exact ⟨by simp; omega, this.2⟩) hgrow7 hown7 hat7 hst6.new)
              have HST7 := Lib.hid (hst6.row0 hgrow7 (fun b hb => HBT6.out.to b hb))
              have HKP7 := Lib.hid (hkp6.row hgrow7 (fun b hb => (HBT6.out.trow.lt b hb).1))
              have B7 := Lib.hid (show ∀ k ∈ [bx], w7.heap[k]? = w2.heap[k]? from fun k hk => by
                have h1 := B6.out k hk
                simp at hk
                subst hk
                exact (hgrow7.block k (by simp; exact Nat.lt_succ_of_lt hb5) (fun e => HNB.out.2 e.symm)).trans h1)
              clear hown7 hgrow7 hat7 hst6 hkp6 hbo6
              refine hK.out _ _ (fun _ => B7.out) ?_
              clear hK K
              try simp only [Act.put, List.setIfInBounds_toArray, List.set_cons_zero, List.set_cons_succ]
              refine on 10 (fun K hK => ?_)
              go_simp
              refine hK.out _ _ (fun _ => B7.out) ?_
              clear hK K
              try simp only [Act.put, List.setIfInBounds_toArray, List.set_cons_zero, List.set_cons_succ]
              refine on 11 (fun K hK => ?_)
              go_simp
              refine hK.out _ _ (fun _ => B7.out) ?_
              clear hK K
              try simp only [Act.put, List.setIfInBounds_toArray, List.set_cons_zero, List.set_cons_succ]
              refine dn ?_
              clear c0 c1 c2 c3 c4
              have HLF := Lib.hid (show Lf W n s R w7 o2 g2 _ _ (ls ++ [r]) (ts ++ [doT n k A B C vs ts]) (us ++ [.slice Au lu cu]) (i + 1) from ⟨HST7.out, HKP7.out, HS2.out, HU2.out.V.trans HL2.out.V, HU2.out.room.trans HL2.out.room, HWK2.out, HBT7.out, HGD2.out.push HR2.out HTB2.out, by have := HL2.out.le; simp; omega⟩)
              obtain ⟨bt2, ot2, ct2, htv2, hbt2, -, hat2⟩ := HBT7.out.tabs.at_ (M := m + 1) (j0 := 0) (by rw [List.length_append, ← HL2.out.good.len, HMM.out]; rfl) (by omega)
              subst htv2
              obtain ⟨uz, ktz, hbz⟩ := hat2 m (by omega)
              have hgz : (ts ++ [doT n k A B C vs ts]).getD m [] = tabF n (ev g2.ns r) := by
                have : m = ts.length := by rw [← HL2.out.good.len, HMM.out]
                rw [← HTB2.out, this]
                simp [List.getD_eq_getElem?_getD]
              rw [hgz] at hbz
              obtain ⟨bz, oz, cz, huz, hbzl, hcz⟩ := hbz.bools.at_ (N := 32) (i := 0) (by rw [tab_len]; exact HNN.out) (by omega)
              subst huz
              have HKTZ := Lib.hid ktz
              have HBT2' := Lib.hid hbt2
              have HBZ := Lib.hid hbzl
              have HCZ := Lib.hid hcz
              have wm1 : IntKind.i64.wrap (((m + 1 : Nat) : Int) - 1) = (m : Int) := (IntWalk.i64_in _ (by omega)).trans (by omega)
              have qm1 : (m : Int) < ((m + 1 : Nat) : Int) := by omega
              have HWF2 := Lib.hid (show WF n g2.ns from by have := HST7.out.wf; rw [HLF.out.V] at this; exact this)
              clear hat2 hbz hgz hcz hbzl hbt2 ktz
              go_wp2
              go_loopw [17] (fun j wy => ∃ q : Nat, j = .int .i64 (q : Int) ∧ q ≤ 32 ∧ Hid (w7.grownBy wy none)) (fun j _ => 32 - (intOf j).toNat)
              case atStart => exact ⟨0, rfl, Nat.zero_le _, Lib.hid (World.grownBy.refl _ _)⟩
              case round =>
                obtain ⟨q, rfl, hkq, hbq⟩ := hrel
                have HBQ := hbq
                obtain ⟨wv, hwv⟩ : ∃ wv, wr = wv := ⟨_, rfl⟩
                rw [hwv] at HBQ ⊢
                clear hwv hbq
                by_cases hltq : q < 32
                · have q3 : (q : Int) < 32 := by omega
                  have HLTQ := Lib.hid hltq
                  have HWAY := Lib.hid (way_any n q HN.out.2 (by omega) wv)
                  rw [HN5.out] at HWAY
                  obtain ⟨x, hx⟩ : ∃ x, ev g2.ns r (way n q) = x := ⟨_, rfl⟩
                  have HXQ := Lib.hid (show w7.cell? ⟨bz, oz + q, none⟩ = some (.bool x) from (HCZ.out q hltq).trans (by rw [tab_getD _ (by rw [HNN.out]; exact hltq), hx]))
                  have HVAL := Lib.hid (show ev g2.ns r (lookB (wayL n q)) = x from by
                    rw [← hx]
                    exact HWF2.out.hangs HR2.out _ _ fun z hz => wayL_get hz)
                  clear hx hkq hltq
                  go_wp2_with fail
                  refine (HWAY.out).mono ?_
                  rintro e z1 ⟨vw, rfl, hrw, hgz⟩
                  have HGZ := Lib.hid (grown_trans HBQ.out hgz)
                  have HEVL := Lib.hid (eval_any (HST7.out.grown HGZ.out) (r : Int) hrw.bools (by rw [wayL_len]; have := HN.out; omega))
                  rw [HS2.out] at HEVL
                  clear hgz hrw HWAY
                  go_wp2_with fail
                  refine (HEVL.out).mono ?_
                  rintro e z2 ⟨hgz2, he⟩
                  rw [if_pos (okB_of HR2.out), if_pos (by rw [wayL_len]; exact HLF.out.V.symm), Int.toNat_natCast, HVAL.out] at he
                  subst he
                  have HGZ2 := Lib.hid (grown_trans HGZ.out hgz2)
                  have ktz2 := (World.cell?_of_block (a := ⟨bt2, ot2 + m, none⟩) (grown_far HGZ2.out HBT2'.out)).trans HKTZ.out
                  have kcz2 := (World.cell?_of_block (a := ⟨bz, oz + q, none⟩) (grown_far HGZ2.out HBZ.out)).trans HXQ.out
                  have hxx : (x != x) = false := by cases x <;> rfl
                  clear hgz2 HEVL
                  go_wp2
                  go_roundw
                  case rel => exact ⟨q + 1, by go_num, HLTQ.out, HGZ2⟩
                  case measure => simp [intOf]; have := HLTQ.out; omega
                · obtain rfl : q = 32 := by omega
                  clear hkq hltq
                  go_wp2
                  rw [← HWK1.out]
                  go_roundw
                  case rel => exact ⟨i + 1, by go_num, by have := HLT.out; omega, HLT.out.1, Lib.hid ⟨o2, g2, ls ++ [r], ts ++ [doT n k A B C vs ts], us ++ [.slice Au lu cu], rfl, HLF.out.grown HBQ.out⟩⟩
                  case measure => simp [intOf]; have := HLT.out; omega
        · have hcs : (¬ (i : Int) < (M : Int)) ∨ ((i : Int) < (M : Int) ∧ ¬ (i : Int) < 30) := by omega
          have HE := Lib.hid (hlp.kp.none)
          clear hk hk2 hlp hlt
          rcases hcs with q1 | ⟨q1, q2⟩
          all_goals
            go_wp2
            go_ret
            exact ⟨rfl, HE.out⟩
theorem full_law (W : World) (R : Int) (av : Value) (ac : List ActI) (ha : Acts W av ac) (hal : ac.length ≤ 9223372036854775807) (hav : ∀ a ∈ ac, a.vs.length ≤ 9223372036854775807) :
    Calls Try.prog 7 #[.int .i64 R, av] W fun e w' => e = .returned (.bool true) ∧ W.grownBy w' none := by
  by_cases hR : 2 ≤ R ∧ R ≤ 16777216
  · obtain ⟨r, rfl⟩ : ∃ r : Nat, R = r := ⟨R.toNat, by omega⟩
    exact full_in W r av ac (by omega) ha hal hav
  · exact full_out W R av hR

end Go.Proofs.Ytailpphafoamfaa
