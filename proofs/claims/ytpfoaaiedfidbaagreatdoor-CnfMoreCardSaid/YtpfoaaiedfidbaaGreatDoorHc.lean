/- The law CnfMore. -/
import Derived.Test.YtpfoaaiedfidbaaGreatDoorHb
namespace Go.Proofs.YtpfoaaiedfidbaaGreatDoor
open Go Go.RowKit

theorem hasB_at {b a : List Int} (h : ∀ n ∈ a, n ∈ b) {k : Nat} (hk : k < a.length) : hasB b (a.getD k 0) = true := hasB_iff.2 (h _ (getD_mem hk))
set_option maxHeartbeats 16000000 in
set_option maxRecDepth 100000 in
theorem more_main (v : Value) (A : Option Addr) (c : Nat) (l : List (List Int)) (is : List Int) (n : Int) (w : World) (hg : Grid w w.heap.size v l) (hf : Fits l) (hn : Nums w w.heap.size (.slice A is.length c) is) (hp : Pow w) (h : fewB l = true) (hl : is.length ≤ 30) (hc : checkC l = 0) (hc2 : checkC [is, [n]] = 0) :
    Calls Tryz.prog 5 #[v, .slice A is.length c, .int .i64 n] w (TruePost w) := by
  obtain ⟨i0, hi, hz0, hz1, hz2⟩ := info_parts info3
  have hfew := few_of h
  have hml := checkC_iff.1 hc
  have hmi := allMay_iff.1 (checkC_iff.1 hc2)
  have hmi1 : rowMay is = true := hmi is (by simp)
  have hmi2 : rowMay (is ++ [n]) = true := by
    have h2 := hmi [n] (by simp)
    rw [rowMay_iff] at h2 hmi1 ⊢
    intro x hx
    rw [List.mem_append] at hx
    exact hx.elim (hmi1 x) (h2 x)
  have HFEW := Lib.hid (show Few l is from ⟨hfew.1, hfew.2, by omega, hml, hmi1⟩)
  have HFEW2 := Lib.hid (show Few l (is ++ [n]) from ⟨hfew.1, hfew.2, by simp; omega, hml, hmi2⟩)
  have HS := Lib.hid HFEW.out.small
  have HP := Lib.hid hp
  have HF := Lib.hid (few_b v l w hg hf true h)
  have HC := Lib.hid (rcheck_b v l w hg hf 0 hc)
  have HC2 := Lib.hid (rcheck_b _ [is, [n]] _ (grid2 (w.alloc (.cells #[.int .i64 n] 3)) A (some ⟨w.heap.size, 0, none⟩) is.length c 1 1 is [n] (hn.alloc _) (Nums.new w [n] #[.int .i64 n] 1 rfl rfl)) ⟨by simp, by simp; omega⟩ 0 hc2)
  rw [alloc_size] at HC2
  have hd : ¬ (30 : Int) < (is.length : Int) := by omega
  have HB1 := Lib.hid (fun o p : Obj => below_alloc (below_alloc (Below.refl _ w) o) p)
  have HG1 := Lib.hid (fun o p : Obj => (hg.alloc o).alloc p)
  have HN1 := Lib.hid (fun o p : Obj => (hn.alloc o).alloc p)
  have HK := Lib.hid (fun o p : Obj => copied_b v l _ (HG1.out o p) HS.out)
  clear hg hf hp h hc hn hc2 hfew hml hmi hmi1 hmi2
  go_enter Tryz.func5, Tryz.ntmps5
  go_wp2_with (go_at_call 6; refine (HF.out).mono ?_; rintro e w' ⟨rfl, hw⟩; subst hw)
  refine (HC.out).mono ?_
  rintro e w' ⟨rfl, hw⟩
  subst hw
  go_wp2_with (go_at_call 7; refine (HC2.out).mono ?_; rintro e w' ⟨rfl, hw⟩; subst hw)
  refine (HK.out _ _).mono ?_
  rintro e w1 ⟨v1, rfl, hg1, hb1⟩
  have HV1 := Lib.hid hg1
  have HG2 := Lib.hid ((HG1.out _ _).go hb1)
  have HN2 := Lib.hid ((HN1.out _ _).go hb1)
  have HB2 := Lib.hid (below_then (HB1.out _ _) hb1)
  clear hg1 hb1 HK HF HC HC2 HB1 HG1 HN1
  have HM := Lib.hid (mine_b _ is w1 HN2.out (by omega))
  go_wp2_with fail
  refine (HM.out).mono ?_
  rintro e w2 ⟨v2, rfl, ho2, hb2⟩
  have HV2 := Lib.hid (HV1.out.go hb2)
  have HG3 := Lib.hid (HG2.out.go hb2)
  have HN3 := Lib.hid (HN2.out.go hb2)
  have HB3 := Lib.hid (below_then HB2.out hb2)
  have HK := Lib.hid (spread_b v1 v2 l is w2 HV2.out ho2.nums HFEW.out)
  clear ho2 hb2 HM HG2 HN2 HB2 HV1
  go_wp2_with fail
  refine (HK.out).mono ?_
  rintro e w3 ⟨hb3, hr3⟩
  have HG4 := Lib.hid (HG3.out.go hb3)
  have HN4 := Lib.hid (HN3.out.go hb3)
  have HB4 := Lib.hid (below_then HB3.out hb3)
  have HKC := Lib.hid (copied_b v l w3 HG4.out HS.out)
  clear HG3 HN3 HB3 HK HV2 hb3
  rcases hr3 with ⟨A7, c7, a, rfl, hna, hok, hin⟩ | ⟨rfl, hno⟩
  · have HNA3 := Lib.hid hna
    have HOK := Lib.hid hok
    have HIN := Lib.hid hin
    have HLEN := Lib.hid (ok_few HFEW.out (by omega) hok hin).li
    have hlen := HLEN.out
    clear hna hok hin
    go_wp2_with fail
    refine (HKC.out).mono ?_
    rintro e w4 ⟨v4, rfl, hg4, hb4⟩
    have HV4 := Lib.hid hg4
    have HG5 := Lib.hid (HG4.out.go hb4)
    have HB5 := Lib.hid (below_then HB4.out hb4)
    have HN5 := Lib.hid (HN4.out.go hb4)
    have HNA4 := Lib.hid (HNA3.out.go hb4)
    clear hg4 hb4 HKC HG4 HN4 HB4
    clear HNA3
    have HM := Lib.hid (mine_b _ is w4 HN5.out (by omega))
    go_wp2_with fail
    refine (HM.out).mono ?_
    rintro e w5 ⟨v5, rfl, ho5, hb5⟩
    have HO5 := Lib.hid ho5
    have HB45 := Lib.hid hb5
    have Q1 := Lib.hid (show is.length ≤ 1000000 by omega)
    have Q2 := Lib.hid (show w4.heap.size ≤ (w5.alloc (.cells #[.int .i64 n] 3)).heap.size by have := hb5.size; simp; omega)
    clear ho5 hb5 HM
    go_wp2_with (at_builtin; refine wpList_push _ rfl (.tmp 48) (.tmp 50) 23 rfl 3 i0 (.int .i64 0) 8 Tryz.underlying23 hi hz0 hz1 hz2 rfl (by decide) w4.heap.size v5 is.length (encs is) rfl (World.ownsRow.alloc HO5.out _) w5.heap.size 1 (.int .i64 n) rfl (cell_new _ _ _) rfl Q1.out Q2.out ?_; intro o6 w6 hown6 hgrow6 _; have HO6 := Lib.hid hown6; have HGR6 := Lib.hid hgrow6; clear hown6 hgrow6)
    have hb6 : Below w4.heap.size w4 w6 := (HB45.out.alloc HB45.out.size _).grown HGR6.out Q2.out (fun q hq => (HO5.out.lt q hq).1)
    have HG6 := Lib.hid (HG5.out.go hb6)
    have HV6 := Lib.hid (HV4.out.go hb6)
    have HNA6 := Lib.hid (HNA4.out.go hb6)
    have HB6 := Lib.hid (below_then HB5.out hb6)
    have HK := Lib.hid (spread_b v4 o6 l (is ++ [n]) w6 HV6.out (Own.push HO6.out).nums HFEW2.out)
    clear hb6 HG5 HV4 HB5 HN5 HB45
    clear HNA4
    refine (HK.out).mono ?_
    rintro e w7 ⟨hb7, hr7⟩
    have HG7 := Lib.hid (HG6.out.go hb7)
    have HNA := Lib.hid (HNA6.out.go hb7)
    have HB7 := Lib.hid (below_then HB6.out hb7)
    clear hb7 HG6 HB6 HK HV6
    clear HNA6
    rcases hr7 with ⟨A8, c8, b, rfl, hnb, hok2, hin2⟩ | ⟨rfl, hno⟩
    · have HNB := Lib.hid hnb
      have HSUB := Lib.hid (HOK.out.sub hok2 (fun m hm => by simp [hm]))
      have HLB := Lib.hid (ok_few HFEW2.out (by simp; omega) hok2 hin2).li
      have HH := Lib.hid (fun (k : Nat) (hk : k < a.length) => has_b _ b (a.getD k 0) w7 HNB.out HLB.out true (hasB_at HSUB.out hk))
      clear hnb hok2 hin2
      go_wp2_with fail
      go_loop [11] (fun i => ∃ k : Nat, k ≤ a.length ∧ i = .int .i64 k) (fun i => a.length - (intOf i).toNat)
      case atStart => exact ⟨0, Nat.zero_le _, rfl⟩
      case round =>
        obtain ⟨k, hk, rfl⟩ := hrel
        by_cases hlt : k < a.length
        · obtain ⟨A6, c6, e6, _, hat⟩ := HNA.out
          cases e6
          obtain ⟨b6, off6, rfl, hb6, hcell⟩ := hat (by omega)
          obtain ⟨x, hx⟩ : ∃ x, a.getD k 0 = x := ⟨_, rfl⟩
          have hck := hcell k hlt
          have HH2 := Lib.hid (HH.out k hlt)
          rw [hx] at hck HH2
          clear hat hcell hx HH
          go_wp2_with (go_at_call 14; refine (HH2.out).mono ?_; rintro e w' ⟨rfl, hw⟩; subst hw)
          go_round
          case rel => exact ⟨k + 1, by omega, by go_num⟩
          case measure => simp [intOf]; omega
        · clear HH
          have HK := Lib.hid (copied_b v l w7 HG7.out HS.out)
          go_wp2_with fail
          refine (HK.out).mono ?_
          rintro e w8 ⟨v8, rfl, hg8, hb8⟩
          have HN8 := Lib.hid (HNA.out.go hb8)
          have HG8 := Lib.hid hg8
          have HB8 := Lib.hid (below_then HB7.out hb8)
          have HK8 := Lib.hid (spread_b v8 (.slice A7 a.length c7) l a w8 hg8 HN8.out (ok_few HFEW.out (by omega) HOK.out HIN.out))
          clear HK hg8 hb8
          go_wp2_with fail
          refine (HK8.out).mono ?_
          rintro e w9 ⟨hb9, (⟨A9, c9, a9, rfl, hn9, ho9, _⟩ | ⟨_, hno⟩)⟩
          rotate_left
          · exact absurd hno HOK.out.again_no
          have HEQ := Lib.hid (HOK.out.again ho9)
          have HN9 := Lib.hid (HN8.out.go hb9)
          have HM9 := Lib.hid hn9
          have HB9 := Lib.hid (below_then HB8.out hb9)
          have HA := Lib.hid (awake_any w9 (HP.out.under HB9.out HP.out.lt))
          clear hb9 hn9 HK8
          go_wp2_with fail
          refine (HA.out).mono ?_
          rintro e w10 ⟨rfl, hb10⟩
          have HS10 := Lib.hid (same_b _ _ a a9 w10 (HN9.out.go hb10) (HM9.out.go hb10) (by have := HLEN.out; omega) HEQ.out.symm)
          have HB10 := Lib.hid (below_then HB9.out hb10)
          clear hb10 HA
          go_wp2_with (go_at_call 17; refine (HS10.out).mono ?_; rintro e w11 ⟨rfl, hb11⟩; have HB11 := Lib.hid (below_then HB10.out hb11); clear hb11)
          go_ret
          exact ⟨rfl, HB11.out⟩
    · have HX := Lib.hid hno
      clear hno
      go_wp2_with fail
      go_loop [11] (fun i => i = .int .i64 0) (fun _ => 0)
      case atStart => exact rfl
      case round =>
        obtain rfl := hrel
        by_cases ha : 0 < a.length
        · have ha2 : (0 : Int) < (a.length : Int) := by omega
          have HK := Lib.hid (copied_b v l w7 HG7.out HS.out)
          go_wp2_with fail
          refine (HK.out).mono ?_
          rintro e w8 ⟨v8, rfl, hg8, hb8⟩
          have HN8 := Lib.hid (HNA.out.go hb8)
          have HG8 := Lib.hid hg8
          have HB8 := Lib.hid (below_then HB7.out hb8)
          have HK8 := Lib.hid (spread_b v8 (.slice A7 a.length c7) l a w8 hg8 HN8.out (ok_few HFEW.out (by omega) HOK.out HIN.out))
          clear HK hg8 hb8
          go_wp2_with fail
          refine (HK8.out).mono ?_
          rintro e w9 ⟨hb9, (⟨A9, c9, a9, rfl, hn9, ho9, _⟩ | ⟨_, hno⟩)⟩
          rotate_left
          · exact absurd hno HOK.out.again_no
          have HEQ := Lib.hid (HOK.out.again ho9)
          have HN9 := Lib.hid (HN8.out.go hb9)
          have HM9 := Lib.hid hn9
          have HB9 := Lib.hid (below_then HB8.out hb9)
          have HA := Lib.hid (awake_any w9 (HP.out.under HB9.out HP.out.lt))
          clear hb9 hn9 HK8
          go_wp2_with fail
          refine (HA.out).mono ?_
          rintro e w10 ⟨rfl, hb10⟩
          have HS10 := Lib.hid (same_b _ _ a a9 w10 (HN9.out.go hb10) (HM9.out.go hb10) (by have := HLEN.out; omega) HEQ.out.symm)
          have HB10 := Lib.hid (below_then HB9.out hb10)
          clear hb10 HA
          go_wp2_with (go_at_call 17; refine (HS10.out).mono ?_; rintro e w11 ⟨rfl, hb11⟩; have HB11 := Lib.hid (below_then HB10.out hb11); clear hb11)
          go_ret
          exact ⟨rfl, HB11.out⟩
        · have ha2 : ¬ (0 : Int) < (a.length : Int) := by omega
          have HK := Lib.hid (copied_b v l w7 HG7.out HS.out)
          go_wp2_with fail
          refine (HK.out).mono ?_
          rintro e w8 ⟨v8, rfl, hg8, hb8⟩
          have HN8 := Lib.hid (HNA.out.go hb8)
          have HG8 := Lib.hid hg8
          have HB8 := Lib.hid (below_then HB7.out hb8)
          have HK8 := Lib.hid (spread_b v8 (.slice A7 a.length c7) l a w8 hg8 HN8.out (ok_few HFEW.out (by omega) HOK.out HIN.out))
          clear HK hg8 hb8
          go_wp2_with fail
          refine (HK8.out).mono ?_
          rintro e w9 ⟨hb9, (⟨A9, c9, a9, rfl, hn9, ho9, _⟩ | ⟨_, hno⟩)⟩
          rotate_left
          · exact absurd hno HOK.out.again_no
          have HEQ := Lib.hid (HOK.out.again ho9)
          have HN9 := Lib.hid (HN8.out.go hb9)
          have HM9 := Lib.hid hn9
          have HB9 := Lib.hid (below_then HB8.out hb9)
          have HA := Lib.hid (awake_any w9 (HP.out.under HB9.out HP.out.lt))
          clear hb9 hn9 HK8
          go_wp2_with fail
          refine (HA.out).mono ?_
          rintro e w10 ⟨rfl, hb10⟩
          have HS10 := Lib.hid (same_b _ _ a a9 w10 (HN9.out.go hb10) (HM9.out.go hb10) (by have := HLEN.out; omega) HEQ.out.symm)
          have HB10 := Lib.hid (below_then HB9.out hb10)
          clear hb10 HA
          go_wp2_with (go_at_call 17; refine (HS10.out).mono ?_; rintro e w11 ⟨rfl, hb11⟩; have HB11 := Lib.hid (below_then HB10.out hb11); clear hb11)
          go_ret
          exact ⟨rfl, HB11.out⟩
  · have HNO := Lib.hid hno
    clear hno
    go_wp2_with fail
    refine (HKC.out).mono ?_
    rintro e w4 ⟨v4, rfl, hg4, hb4⟩
    have HV4 := Lib.hid hg4
    have HG5 := Lib.hid (HG4.out.go hb4)
    have HB5 := Lib.hid (below_then HB4.out hb4)
    have HN5 := Lib.hid (HN4.out.go hb4)
    clear hg4 hb4 HKC HG4 HN4 HB4
    have HM := Lib.hid (mine_b _ is w4 HN5.out (by omega))
    go_wp2_with fail
    refine (HM.out).mono ?_
    rintro e w5 ⟨v5, rfl, ho5, hb5⟩
    have HO5 := Lib.hid ho5
    have HB45 := Lib.hid hb5
    have Q1 := Lib.hid (show is.length ≤ 1000000 by omega)
    have Q2 := Lib.hid (show w4.heap.size ≤ (w5.alloc (.cells #[.int .i64 n] 3)).heap.size by have := hb5.size; simp; omega)
    clear ho5 hb5 HM
    go_wp2_with (at_builtin; refine wpList_push _ rfl (.tmp 48) (.tmp 50) 23 rfl 3 i0 (.int .i64 0) 8 Tryz.underlying23 hi hz0 hz1 hz2 rfl (by decide) w4.heap.size v5 is.length (encs is) rfl (World.ownsRow.alloc HO5.out _) w5.heap.size 1 (.int .i64 n) rfl (cell_new _ _ _) rfl Q1.out Q2.out ?_; intro o6 w6 hown6 hgrow6 _; have HO6 := Lib.hid hown6; have HGR6 := Lib.hid hgrow6; clear hown6 hgrow6)
    have hb6 : Below w4.heap.size w4 w6 := (HB45.out.alloc HB45.out.size _).grown HGR6.out Q2.out (fun q hq => (HO5.out.lt q hq).1)
    have HG6 := Lib.hid (HG5.out.go hb6)
    have HV6 := Lib.hid (HV4.out.go hb6)
    have HB6 := Lib.hid (below_then HB5.out hb6)
    have HK := Lib.hid (spread_b v4 o6 l (is ++ [n]) w6 HV6.out (Own.push HO6.out).nums HFEW2.out)
    clear hb6 HG5 HV4 HB5 HN5 HB45
    refine (HK.out).mono ?_
    rintro e w7 ⟨hb7, hr7⟩
    have HG7 := Lib.hid (HG6.out.go hb7)
    have HB7 := Lib.hid (below_then HB6.out hb7)
    clear hb7 HG6 HB6 HK HV6
    rcases hr7 with ⟨A8, c8, b, _, _, hok2, _⟩ | ⟨rfl, hno⟩
    · exact (HNO.out.mono (fun m hm => by simp [hm]) hok2).elim
    · have HA := Lib.hid (awake_b w w7 HP.out HB7.out)
      clear hno
      go_wp2_with (go_at_call 10; refine (HA.out).mono ?_; rintro e w11 ⟨rfl, hb11⟩; have HB11 := Lib.hid hb11; clear hb11)
      go_ret
      exact ⟨rfl, HB11.out⟩
end Go.Proofs.YtpfoaaiedfidbaaGreatDoor
