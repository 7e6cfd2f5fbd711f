/- The law CnfImplies, at every input. -/
import Derived.Test.YtpfoaaiedfidbaaGreatDoorJb
namespace Go.Proofs.YtpfoaaiedfidbaaGreatDoor
open Go Go.RowKit

theorem resolve_b (v u : Value) (a b : List Int) (n : Int) (w : World) (hv : Nums w w.heap.size v a) (hu : Nums w w.heap.size u b) (la : a.length ≤ 1000) (lb : b.length ≤ 1000) (ma : rowMay a = true) (mb : rowMay b = true) :
    Calls Tryz.prog 15 #[v, u, .int .i64 n] w fun e w' => Below w.heap.size w w' ∧ ((resolveOk a b n = true ∧ ∃ A c r, upL (restL a b n) = r ∧ e = .returned (.tuple #[.slice A r.length c, .bool true]) ∧ Nums w' w'.heap.size (.slice A r.length c) r) ∨ e = .returned (.tuple #[.slice none 0 0, .bool false])) :=
  (resolve_any v u a b n w _ hv hu la lb ma mb (Nat.le_refl _)).mono fun e w' ⟨hb, h⟩ => by
    refine ⟨hb, ?_⟩
    rcases h with ⟨h1, _, v', he, ho⟩ | ⟨_, he⟩
    · obtain ⟨A, c, rfl⟩ := ho.form
      exact .inl ⟨h1, A, c, _, rfl, he, ho.nums⟩
    · exact .inr he
theorem rest_len (a b : List Int) (v : Int) : (restL a b v).length ≤ a.length + b.length := by
  unfold restL
  have := List.length_filter_le (fun y => !delB v y) (a ++ b)
  rwa [List.length_append] at this
set_option maxHeartbeats 16000000 in
set_option maxRecDepth 100000 in
theorem implies_main (A A' : Option Addr) (c c' : Nat) (a b : List Int) (v : Int) (w : World) (h1 : Nums w w.heap.size (.slice A a.length c) a) (h2 : Nums w w.heap.size (.slice A' b.length c') b) (hp : Pow w) (hla : a.length ≤ 20) (hlb : b.length ≤ 20) (hc : checkC [a, b] = 0) (hm : mostL [a, b] ≤ 10) :
    Calls Tryz.prog 4 #[.slice A a.length c, .slice A' b.length c', .int .i64 v] w (TruePost w) := by
  have HG := Lib.hid (grid2 w A A' a.length c b.length c' a b h1 h2)
  have hf : Fits [a, b] := ⟨by simp, by simp; omega⟩
  have HF := Lib.hid hf
  have hmay := allMay_iff.1 (checkC_iff.1 hc)
  have HMA := Lib.hid (hmay a (by simp))
  have HMB := Lib.hid (hmay b (by simp))
  have HC := Lib.hid (rcheck_b _ [a, b] _ HG.out hf 0 hc)
  have h1' := h1.alloc (.cells #[.slice A a.length c, .slice A' b.length c'] 23)
  have h2' := h2.alloc (.cells #[.slice A a.length c, .slice A' b.length c'] 23)
  obtain ⟨n, hn⟩ : ∃ n, mostL [a, b] = n := ⟨_, rfl⟩
  rw [hn] at hm
  have HM := Lib.hid (rmost_b _ [a, b] _ (grid2 _ A A' a.length c b.length c' a b h1' h2') hf n hn)
  rw [alloc_size] at HM
  have HP := Lib.hid hp
  have hd : ¬ (20 : Int) < (a.length : Int) := by omega
  have hd2 : ¬ (20 : Int) < (b.length : Int) := by omega
  have hd3 : ¬ (10 : Int) < n := by omega
  have HB1 := Lib.hid (fun o p : Obj => below_alloc (below_alloc (Below.refl _ w) o) p)
  have HA1 := Lib.hid (fun o p : Obj => (h1.alloc o).alloc p)
  have HE1 := Lib.hid (fun o p : Obj => (h2.alloc o).alloc p)
  have HK := Lib.hid (fun o p : Obj => mine_b _ a _ (HA1.out o p) (by omega))
  clear hp h1 h2 hc h1' h2' hf hm hmay hn HG
  go_enter Tryz.func4, Tryz.ntmps4
  go_wp2_with (first
    | (go_at_call 7; refine (HC.out).mono ?_; rintro e w' ⟨rfl, hw⟩; subst hw)
    | (go_at_call 8; refine (HM.out).mono ?_; rintro e w' ⟨rfl, hw⟩; subst hw))
  refine (HK.out _ _).mono ?_
  rintro e w1 ⟨v1, rfl, ho1, hb1⟩
  have HV1 := Lib.hid ho1.nums
  have HA2 := Lib.hid ((HA1.out _ _).go hb1)
  have HE2 := Lib.hid ((HE1.out _ _).go hb1)
  have HB2 := Lib.hid (below_then (HB1.out _ _) hb1)
  clear ho1 hb1 HK HC HM HB1 HA1 HE1
  have HK := Lib.hid (mine_b _ b w1 HE2.out (by omega))
  go_wp2_with fail
  refine (HK.out).mono ?_
  rintro e w2 ⟨v2, rfl, ho2, hb2⟩
  have HV2 := Lib.hid ho2.nums
  have HV12 := Lib.hid (HV1.out.go hb2)
  have HA3 := Lib.hid (HA2.out.go hb2)
  have HE3 := Lib.hid (HE2.out.go hb2)
  have HB3 := Lib.hid (below_then HB2.out hb2)
  clear ho2 hb2 HK HA2 HE2 HB2 HV1
  have HK := Lib.hid (resolve_b v1 v2 a b v w2 HV12.out HV2.out (by omega) (by omega) HMA.out HMB.out)
  go_wp2_with fail
  refine (HK.out).mono ?_
  rintro e w3 ⟨hb3, hr⟩
  have HA4 := Lib.hid (HA3.out.go hb3)
  have HE4 := Lib.hid (HE3.out.go hb3)
  have HB4 := Lib.hid (below_then HB3.out hb3)
  have HW := Lib.hid (awake_any w3 (HP.out.under HB4.out HP.out.lt))
  clear HA3 HE3 HB3 HV2 HV12 HK
  rcases hr with ⟨hok, A7, c7, r, hr, rfl, hnc⟩ | rfl
  · have hrl : r.length ≤ 40 := by
      rw [← hr]
      have := upL_len (restL a b v)
      have := rest_len a b v
      omega
    have HRH := Lib.hid (fun (m : List Int) (h1 : Cons m) (h2 : holdsB [a, b] m = true) => rest_holds h1 h2 hok)
    have HNO := Lib.hid (rest_no (a := a) (b := b) (v := v))
    have hpos := ok_pos HMA.out hok
    rw [hr] at HRH HNO
    have HNC := Lib.hid hnc
    have y1 : IntKind.i64.wrap (-v) = -v := IntWalk.i64_in _ (by omega)
    clear hb3 hok hnc hr
    go_wp2_with fail
    refine (HW.out).mono ?_
    rintro e w4 ⟨rfl, hb4⟩
    have HC5 := Lib.hid (HNC.out.go hb4)
    have HA5 := Lib.hid (HA4.out.go hb4)
    have HE5 := Lib.hid (HE4.out.go hb4)
    have HB5 := Lib.hid (below_then HB4.out hb4)
    have HK := Lib.hid (models_b _ [a, b] _ (grid2 w4 A A' a.length c b.length c' a b HA5.out HE5.out) HF.out)
    clear hb4 HW HNC HA4 HE4 HB4
    go_wp2_with fail
    refine (HK.out).mono ?_
    rintro e w5 ⟨A8, c8, ms, rfl, hg5, hb5, hml, hall⟩
    have HG5 := Lib.hid hg5
    have HALL := Lib.hid hall
    have HC6 := Lib.hid ((HC5.out.alloc _).go hb5)
    have HB6 := Lib.hid (below_then (below_alloc HB5.out _) hb5)
    clear hg5 hall hb5 HK HC5 HA5 HE5 HB5
    go_wp2_with fail
    go_loopw [10] (fun i wr => ∃ k : Nat, k ≤ ms.length ∧ i = .int .i64 k ∧ Hid (Below w5.heap.size w5 wr)) (fun i _ => ms.length - (intOf i).toNat)
    case atStart => exact ⟨0, Nat.zero_le _, rfl, Lib.hid (Below.refl _ _)⟩
    case round =>
      obtain ⟨k, hk, rfl, hb⟩ := hrel
      have HC7 := Lib.hid (HC6.out.go hb.out)
      by_cases hlt : k < ms.length
      · obtain ⟨A9, c9, e9, _, hat⟩ := HG5.out.go hb.out
        cases e9
        obtain ⟨b9, off9, rfl, hb9, hcell⟩ := hat (by omega)
        obtain ⟨u, hu, hnu⟩ := hcell k hlt
        obtain ⟨m, hm⟩ : ∃ m, ms.getD k [] = m := ⟨_, rfl⟩
        obtain ⟨hsig, hlen, hhold⟩ := HALL.out _ (getD_memL hlt)
        rw [hm] at hnu hsig hlen hhold
        have hu2 : (wr.alloc (.cells #[.slice A7 r.length c7] 23)).cell? ⟨b9, off9 + k, none⟩ = some u := (World.cell?_alloc_lt wr _ ⟨b9, off9 + k, none⟩ hb9).trans hu
        have HH := Lib.hid (rholds_b _ _ [r] m _ (grid1 wr A7 r.length c7 r HC7.out) ⟨by simp, by simp; omega⟩ (hnu.alloc _) (by omega) true (HRH.out m (sig_cons hsig) hhold))
        have hb2 := Lib.hid (below_alloc hb.out (.cells #[.slice A7 r.length c7] 23))
        clear hat hcell hnu hsig hhold hm hb
        go_wp2_with (go_at_call 16; refine (HH.out).mono ?_; rintro e w' ⟨rfl, hw⟩; subst hw)
        go_roundw
        case rel => exact ⟨k + 1, by omega, by go_num, hb2⟩
        case measure => simp [intOf]; omega
      · have H1 := Lib.hid (has_b _ r v wr HC7.out (by omega) false HNO.out.1)
        have H2 := Lib.hid (has_b _ r (-v) wr HC7.out (by omega) false HNO.out.2)
        go_wp2_with fail
        refine (H1.out).mono ?_
        rintro e w' ⟨rfl, hw⟩
        subst hw
        go_wp2_with (go_at_call 14; refine (H2.out).mono ?_; rintro e w' ⟨rfl, hw⟩; subst hw)
        go_ret
        exact ⟨rfl, below_then HB6.out hb.out⟩
  · clear hb3
    go_wp2_with fail
    refine (HW.out).mono ?_
    rintro e w4 ⟨rfl, hb4⟩
    have HB5 := Lib.hid (below_then HB4.out hb4)
    have HA := Lib.hid (awake_b w w4 HP.out HB5.out)
    clear hb4 HW
    go_wp2_with (go_at_call 10; refine (HA.out).mono ?_; rintro e w11 ⟨rfl, hb11⟩; have HB11 := Lib.hid hb11; clear hb11)
    go_ret
    exact ⟨rfl, HB11.out⟩
theorem implies_law (v1 v2 : Value) (a b : List Int) (v : Int) (w : World) (h1 : Nums w w.heap.size v1 a) (h2 : Nums w w.heap.size v2 b) (hl : a.length ≤ 9223372036854775806) (hp : Pow w) :
    Calls Tryz.prog 4 #[v1, v2, .int .i64 v] w (TruePost w) := by
  obtain ⟨A, c, rfl⟩ := h1.len
  obtain ⟨A', c', rfl⟩ := h2.len
  by_cases hla : 20 < a.length
  · exact implies_long1 A A' c c' a b v w hp hla hl
  by_cases hlb : 20 < b.length
  · exact implies_long2 A A' c c' a b v w hp (by omega) hlb
  rcases checkC_or [a, b] with hc | hc
  · by_cases hm : 10 < mostL [a, b]
    · exact implies_most A A' c c' a b v _ w h1 h2 hp (by omega) (by omega) hc rfl hm
    · exact implies_main A A' c c' a b v w h1 h2 hp (by omega) (by omega) hc (by omega)
  · exact implies_bad A A' c c' a b v w h1 h2 hp (by omega) (by omega) hc
end Go.Proofs.YtpfoaaiedfidbaaGreatDoor
