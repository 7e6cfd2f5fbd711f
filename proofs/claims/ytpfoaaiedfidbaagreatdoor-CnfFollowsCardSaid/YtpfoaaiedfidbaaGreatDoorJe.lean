/- The law CnfFollows, at every input. -/
import Derived.Test.YtpfoaaiedfidbaaGreatDoorJd
namespace Go.Proofs.YtpfoaaiedfidbaaGreatDoor
open Go Go.RowKit

/-- A row of one, just built. -/
theorem own_one (w : World) (base : Nat) (hb : base ≤ w.heap.size) (x : Int) : Own (w.alloc (.cells #[.int .i64 x] 3)) base (.slice (some ⟨w.heap.size, 0, none⟩) 1 1) [x] :=
  ⟨by simp [encs], .inr ⟨w.heap.size, 1, #[.int .i64 x], rfl, hb, heap_alloc_new w _, by simp, by unfold maxLen; omega, by simp, by simp [encs]⟩⟩
/-- Each number a clause. -/
def units (is : List Int) : List (List Int) := is.map fun x => [x]
theorem units_snoc {is : List Int} {k : Nat} {x : Int} (h : k < is.length) (hx : is.getD k 0 = x) : units (is.take (k + 1)) = units (is.take k) ++ [[x]] := by
  unfold units
  rw [List.take_succ_eq_append_getElem h]
  simp only [List.getD, List.getElem?_eq_getElem h, Option.getD_some] at hx
  rw [hx]
  simp
theorem units_fits {l : List (List Int)} {is : List Int} (hl : l.length ≤ 40 ∧ ∀ c ∈ l, c.length ≤ 20) (hi : is.length ≤ 40) : Fits (l ++ units is) := by
  refine ⟨by simp [units]; omega, fun c hc => ?_⟩
  rw [List.mem_append] at hc
  rcases hc with hc | hc
  · have := hl.2 c hc; omega
  · unfold units at hc
    rw [List.mem_map] at hc
    obtain ⟨x, _, rfl⟩ := hc
    simp
theorem units_holds {l : List (List Int)} {is m : List Int} (h : holdsB (l ++ units is) m = true) : HoldsL l m ∧ ∀ n ∈ is, n ∈ m := by
  have hL := holds_L h
  refine ⟨fun c hc => hL c (by simp [hc]), fun n hn => ?_⟩
  obtain ⟨x, hx, hxm⟩ := hL [n] (by simp [units]; exact .inr hn)
  rw [List.mem_singleton] at hx
  exact hx ▸ hxm
theorem follow_has {l : List (List Int)} {is a m : List Int} (ho : SpreadOk l is a) (hs : Sig m) (h : holdsB (l ++ units is) m = true) {k : Nat} (hk : k < a.length) : hasB m (a.getD k 0) = true :=
  hasB_iff.2 (der_true (units_holds h).1 (units_holds h).2 (sig_cons hs) (ho.der _ (getD_mem hk)))
theorem follow_none {l : List (List Int)} {is : List Int} {ms : List (List Int)} (ho : SpreadNo l is) (h : ∀ m ∈ ms, Sig m ∧ m.length = 10 ∧ holdsB (l ++ units is) m = true) : ms = [] := by
  cases ms with
  | nil => rfl
  | cons m r =>
    obtain ⟨hs, _, hh⟩ := h m (by simp)
    exact absurd ho (no_model (units_holds hh).1 (units_holds hh).2 (sig_cons hs))
set_option maxHeartbeats 16000000 in
set_option maxRecDepth 100000 in
theorem follows_main (v : Value) (A : Option Addr) (c : Nat) (l : List (List Int)) (is : List Int) (n : Int) (w : World) (hg : Grid w w.heap.size v l) (hf : Fits l) (hs : Small l) (hn : Nums w w.heap.size (.slice A is.length c) is) (hp : Pow w) (h : fewB l = true) (hl : is.length ≤ 40) (hc : checkC l = 0) (hc2 : checkC [is] = 0) (hm : mostL (l ++ [is]) = n) (hm2 : n ≤ 10) :
    Calls Tryz.prog 3 #[v, .slice A is.length c] w (TruePost w) := by
  obtain ⟨j0, ki, kz0, kz1, kz2⟩ := info_parts info23
  have HF := Lib.hid (few_b v l w hg hf true h)
  have HC := Lib.hid (rcheck_b v l w hg hf 0 hc)
  have HC2 := Lib.hid (rcheck_b _ [is] _ (grid1 w A is.length c is hn) ⟨by simp, by simp; omega⟩ 0 hc2)
  have HP := Lib.hid hp
  have HS := Lib.hid hs
  have hd : ¬ (40 : Int) < (is.length : Int) := by omega
  have hd2 : ¬ (10 : Int) < n := by omega
  have hll := few_of h
  have HLL := Lib.hid hll
  have hll1 := hll.1
  have HFEW := Lib.hid (show Few l is from ⟨hll.1, hll.2, by omega, checkC_iff.1 hc, allMay_iff.1 (checkC_iff.1 hc2) is (by simp)⟩)
  have HFF : Hid (Fits (l ++ [is])) := Lib.hid ⟨by simp; omega, fun c hc => by
    rw [List.mem_append, List.mem_singleton] at hc
    rcases hc with hc | rfl
    · exact hf.2 c hc
    · omega⟩
  have HB1 := Lib.hid (fun o : Obj => below_alloc (Below.refl _ w) o)
  have HN1 := Lib.hid (fun o : Obj => hn.alloc o)
  have HG1 := Lib.hid (fun o : Obj => hg.alloc o)
  have HK := Lib.hid (fun o : Obj => copied_m v l _ (hg.alloc o) hs)
  clear hg hf hp h hc hn hc2 hs hll
  go_enter Tryz.func3, Tryz.ntmps3
  go_wp2_with (go_at_call 6; refine (HF.out).mono ?_; rintro e w' ⟨rfl, hw⟩; subst hw)
  refine (HC.out).mono ?_
  rintro e w' ⟨rfl, hw⟩
  subst hw
  go_wp2_with (go_at_call 7; refine (HC2.out).mono ?_; rintro e w' ⟨rfl, hw⟩; subst hw)
  refine (HK.out _).mono ?_
  rintro e w1 ⟨v1, rfl, hm1, hb1⟩
  obtain ⟨us, hul, hou, hru⟩ := hm1
  have HU := Lib.hid hul
  have HOU := Lib.hid hou
  have HRU := Lib.hid hru
  have HB12 := Lib.hid hb1
  have Q1 := Lib.hid (show us.length ≤ 1000000 by omega)
  have Q2 := Lib.hid (show (w.alloc (.cells #[.slice A is.length c] 23)).heap.size ≤ (w1.alloc (.cells #[.slice A is.length c] 23)).heap.size by have := hb1.size; simp at *; omega)
  clear hul hou hru hb1 HK HF HC HC2
  go_wp2_with (at_builtin; refine wpList_push_want _ (by go_simp) (.tmp 33) (.tmp 35) 22 rfl 23 j0 (.slice none 0 0) 24 Tryz.underlying22 ki kz0 kz1 kz2 rfl (by decide) (w.alloc (.cells #[.slice A is.length c] 23)).heap.size v1 us.length us rfl (World.ownsRow.alloc HOU.out _) w1.heap.size 1 (.slice A is.length c) rfl (cell_new _ _ _) rfl Q1.out Q2.out ?_; intro o2 w2 hown2 hgrow2 _; have HO2 := Lib.hid hown2; have HG2 := Lib.hid hgrow2; clear hown2 hgrow2)
  have hb2 := (HB12.out.alloc (by have := HB12.out.size; omega) (.cells #[.slice A is.length c] 23)).grown HG2.out Q2.out (fun q hq => (HOU.out.lt q hq).1)
  have HB3 := Lib.hid (below_then (HB1.out _) hb2)
  have HN3 := Lib.hid ((HN1.out _).go hb2)
  have HG3 := Lib.hid ((HG1.out _).go hb2)
  have HM := Lib.hid (rmost_b _ (l ++ [is]) w2 (mesh_push_grid HU.out (World.ownsRow.alloc HOU.out _) (fun j hj => World.ownsRow.alloc (HRU.out j hj) _) HN3.out HG2.out HO2.out) HFF.out n hm)
  have HK := Lib.hid (copied_b v l w2 HG3.out HS.out)
  clear hb2 HU HOU HRU HB12 HO2 HG2 Q1 Q2 HB1 HN1 HG1 hm HFF
  go_wp2_with (go_at_call 8; refine (HM.out).mono ?_; rintro e w' ⟨rfl, hw⟩; subst hw)
  refine (HK.out).mono ?_
  rintro e w3 ⟨v3, rfl, hg3, hb3⟩
  have HV3 := Lib.hid hg3
  have HN4 := Lib.hid (HN3.out.go hb3)
  have HG4 := Lib.hid (HG3.out.go hb3)
  have HB4 := Lib.hid (below_then HB3.out hb3)
  clear hg3 hb3 HK HM HB3 HN3 HG3
  have HK := Lib.hid (mine_b _ is w3 HN4.out (by omega))
  go_wp2_with fail
  refine (HK.out).mono ?_
  rintro e w4 ⟨v4, rfl, ho4, hb4⟩
  have HN5 := Lib.hid (HN4.out.go hb4)
  have HG5 := Lib.hid (HG4.out.go hb4)
  have HB5 := Lib.hid (below_then HB4.out hb4)
  have HK2 := Lib.hid (spread_b v3 v4 l is w4 (HV3.out.go hb4) ho4.nums HFEW.out)
  clear ho4 hb4 HK HB4 HN4 HG4 HV3
  go_wp2_with fail
  refine (HK2.out).mono ?_
  rintro e w5 ⟨hb5, hr5⟩
  have HN6 := Lib.hid (HN5.out.go hb5)
  have HG6 := Lib.hid (HG5.out.go hb5)
  have HB6 := Lib.hid (below_then HB5.out hb5)
  have HK := Lib.hid (copied_m v l w5 HG6.out HS.out)
  clear hb5 HK2 HB5 HN5 HG5
  obtain ⟨A7, c7, a, b, rfl, hna, hall, hend, hal⟩ : ∃ A7 c7 a b, e = .returned (.tuple #[.slice A7 (List.length a) c7, .bool b]) ∧ Nums w5 w5.heap.size (.slice A7 (List.length a) c7) a ∧ (∀ m, Sig m → holdsB (l ++ units is) m = true → ∀ k, k < a.length → hasB m (a.getD k 0) = true) ∧ (b = true ∨ SpreadNo l is) ∧ a.length ≤ 2000 := by
    rcases hr5 with ⟨A7, c7, a, he, hna, hok, hin⟩ | ⟨he, hno⟩
    · exact ⟨A7, c7, a, true, he, hna, fun m h1 h2 k hk => follow_has hok h1 h2 hk, .inl rfl, (ok_few HFEW.out (by omega) hok hin).li⟩
    · exact ⟨none, 0, [], false, he, ⟨none, 0, rfl, Nat.zero_le _, fun h => by simp at h⟩, fun m _ _ k hk => by simp at hk, .inr hno, by simp⟩
  have HNA := Lib.hid hna
  have HALL := Lib.hid hall
  have HEND := Lib.hid hend
  clear hr5 hna hall hend
  go_wp2_with fail
  refine (HK.out).mono ?_
  rintro e w6 ⟨v6, rfl, hm6, hb6⟩
  have HM6 := Lib.hid hm6
  have HB56 := Lib.hid hb6
  clear hm6 hb6 HK HG6
  go_wp2_with fail
  go_loopw [7, 8] (fun o i wr => ∃ k : Nat, k ≤ is.length ∧ i = .int .i64 k ∧ Hid (Mesh wr w5.heap.size o (l ++ units (is.take k))) ∧ Hid (Below w5.heap.size w5 wr)) (fun _ i _ => is.length - (intOf i).toNat)
  case atStart => exact ⟨0, Nat.zero_le _, rfl, Lib.hid (by simpa [units] using HM6.out), HB56⟩
  case round =>
    obtain ⟨k, hk, rfl, hm, hb⟩ := hrel
    by_cases hlt : k < is.length
    · obtain ⟨us, hul, ho, hr⟩ := hm.out
      obtain ⟨A', c', e', _, hat⟩ := HN6.out.go hb.out
      cases e'
      obtain ⟨b9, off9, rfl, hb9, hcell⟩ := hat (by omega)
      obtain ⟨x, hx⟩ : ∃ x, is.getD k 0 = x := ⟨_, rfl⟩
      have hck := hcell k hlt
      rw [hx] at hck
      have hul2 : us.length ≤ 80 := by
        rw [hul]
        simp [units]
        omega
      have HU := Lib.hid hul
      have HO := Lib.hid ho
      have HR := Lib.hid hr
      have HX := Lib.hid hx
      have hsz : w5.heap.size ≤ wr.heap.size := hb.out.size
      have Q1 := Lib.hid (show us.length ≤ 1000000 by omega)
      have Q2 := Lib.hid (show w5.heap.size ≤ ((wr.alloc (.cells #[.int .i64 x] 3)).alloc (.cells #[.slice (some ⟨wr.heap.size, 0, none⟩) 1 1] 23)).heap.size by simp; omega)
      have HONE := Lib.hid (own_one wr w5.heap.size hsz x)
      clear hcell hat hx hul ho hr hm hul2
      go_wp2_with (at_builtin; refine wpList_push _ rfl (.tmp 57) (.tmp 63) 22 rfl 23 j0 (.slice none 0 0) 24 Tryz.underlying22 ki kz0 kz1 kz2 rfl (by decide) w5.heap.size u7 us.length us rfl (World.ownsRow.alloc (World.ownsRow.alloc HO.out _) _) (wr.heap.size + 1) 1 (.slice (some ⟨wr.heap.size, 0, none⟩) 1 1) rfl (by rw [← alloc_size wr (.cells #[.int .i64 x] 3)]; exact cell_new _ _ _) rfl Q1.out Q2.out ?_; intro o7 w7 hown7 hgrow7 _; have HO7 := Lib.hid hown7; have HG7 := Lib.hid hgrow7; clear hown7 hgrow7)
      go_roundw
      case rel =>
        refine ⟨k + 1, by omega, by go_num, Lib.hid ?_, Lib.hid ?_⟩
        · rw [units_snoc hlt HX.out, ← List.append_assoc]
          exact Mesh.push (w := (wr.alloc (.cells #[.int .i64 x] 3)).alloc (.cells #[.slice (some ⟨wr.heap.size, 0, none⟩) 1 1] 23)) HU.out (World.ownsRow.alloc (World.ownsRow.alloc HO.out _) _) (fun j hj => World.ownsRow.alloc (World.ownsRow.alloc (HR.out j hj) _) _) (World.ownsRow.alloc HONE.out _) HG7.out HO7.out
        · exact ((hb.out.alloc hsz _).alloc (by simp; omega) _).grown HG7.out Q2.out (fun q hq => (HO.out.lt q hq).1)
      case measure => simp [intOf]; omega
    · have hk2 : k = is.length := by omega
      subst hk2
      have HM7 := Lib.hid (show Mesh wr w5.heap.size u7 (l ++ units is) by have := hm.out; rwa [List.take_length] at this)
      have HNA7 := Lib.hid (HNA.out.go hb.out)
      have HB7 := Lib.hid (below_then HB6.out hb.out)
      have HK := Lib.hid (models_b u7 _ wr HM7.out.grid (units_fits HLL.out (by omega)))
      clear hm hb
      go_wp2_with fail
      refine (HK.out).mono ?_
      rintro e w8 ⟨A8, c8, ms, rfl, hg8, hb8, hml, hms⟩
      have HG8 := Lib.hid hg8
      have HMS := Lib.hid hms
      have HNA8 := Lib.hid (HNA7.out.go hb8)
      have HB8 := Lib.hid (below_then HB7.out hb8)
      clear hg8 hms hb8 HK HM7 HNA7 HB7
      go_wp2_with fail
      go_loopw [10] (fun i wr => ∃ k : Nat, k ≤ ms.length ∧ i = .int .i64 k ∧ Hid (∃ q, wr = w8.drewN q)) (fun i _ => ms.length - (intOf i).toNat)
      case atStart => exact ⟨0, Nat.zero_le _, rfl, Lib.hid ⟨0, rfl⟩⟩
      case round =>
        obtain ⟨k, hk, rfl, hq⟩ := hrel
        by_cases hlt : k < ms.length
        · obtain ⟨A9, c9, e9, _, hat⟩ := HG8.out
          cases e9
          obtain ⟨b9, off9, rfl, hb9, hcell⟩ := hat (by omega)
          obtain ⟨u, hu, hnu⟩ := hcell k hlt
          obtain ⟨m, hm⟩ : ∃ m, ms.getD k [] = m := ⟨_, rfl⟩
          obtain ⟨hsig, hlen, hhold⟩ := HMS.out _ (getD_memL hlt)
          rw [hm] at hnu hsig hlen hhold
          have HNU := Lib.hid hnu
          have HCU := Lib.hid hu
          have HHAS := Lib.hid (HALL.out m hsig hhold)
          have HLEN := Lib.hid hlen
          clear hat hcell hnu hsig hhold hlen hm hu
          obtain ⟨wo, rfl⟩ : ∃ wo : World, wo = wr := ⟨_, rfl⟩
          go_wp2_with fail
          go_loopw [11] (fun i wr => ∃ j : Nat, j ≤ a.length ∧ i = .int .i64 j ∧ Hid (∃ q, wr = w8.drewN q)) (fun i _ => a.length - (intOf i).toNat)
          case atStart => exact ⟨0, Nat.zero_le _, rfl, hq⟩
          case round =>
            obtain ⟨j, hj, rfl, hq2⟩ := hrel
            by_cases hltj : j < a.length
            · obtain ⟨A6, c6, e6, _, hat⟩ := HNA8.out
              cases e6
              obtain ⟨b6, off6, rfl, hb6, hcell⟩ := hat (by omega)
              obtain ⟨x, hx⟩ : ∃ x, a.getD j 0 = x := ⟨_, rfl⟩
              have hck := hcell j hltj
              have hh := HHAS.out j hltj
              rw [hx] at hck hh
              have HH := Lib.hid hh
              have d0 : wr.cell? ⟨b9, off9 + k, none⟩ = some u := by obtain ⟨q, rfl⟩ := hq2.out; exact HCU.out
              have d1 : wr.cell? ⟨b6, off6 + j, none⟩ = some (.int .i64 x) := by obtain ⟨q, rfl⟩ := hq2.out; exact hck
              have HC : ∀ n, Calls Tryz.prog 14 #[u, .int .i64 x] (wr.drewN n) (fun e w' => e = .returned (.bool true) ∧ ∃ m, w' = (wr.drewN n).drewN m) := fun n =>
                (has_any u m x (wr.drewN n) w8.heap.size (by obtain ⟨q, rfl⟩ := hq2.out; exact HNU.out) (by have := HLEN.out; omega)).mono fun e w' ⟨he, hw⟩ => ⟨by rw [he, HH.out], 0, hw.symm⟩
              clear hat hcell hx hck hh
              go_wp2_with fail
              go_quiet ((go_at_call 14; exact Calls.quiet_of (HC _)))
              go_wp2_with fail
              go_roundw
              case rel => exact ⟨j + 1, by omega, by go_num, Lib.hid (by obtain ⟨q, rfl⟩ := hq2.out; exact ⟨_, World.drewN_drewN _ _ _⟩)⟩
              case measure => simp [intOf]; omega
            · go_wp2_with fail
              go_roundw
              case rel => exact ⟨k + 1, by omega, by go_num, hq2⟩
              case measure => simp [intOf]; omega
        · have HB9 := Lib.hid (show Below w.heap.size w wr by obtain ⟨q, rfl⟩ := hq.out; exact below_then HB8.out (below_drewN w8 q))
          have HA := Lib.hid (awake_b w wr HP.out HB9.out)
          have hdm : ms.length = k := by omega
          have HE := Lib.hid (HEND.out.imp_right fun h => follow_none h HMS.out)
          cases b with
          | true =>
            go_wp2_with (go_at_call 10; refine (HA.out).mono ?_; rintro e w11 ⟨rfl, hb11⟩; have HB11 := Lib.hid hb11; clear hb11)
            go_ret
            exact ⟨rfl, HB11.out⟩
          | false =>
            have h0 : ms = [] := by
              rcases HE.out with h | h
              · cases h
              · exact h
            have h1 : k = 0 := by rw [← hdm, h0]; rfl
            subst h1
            go_wp2_with (go_at_call 10; refine (HA.out).mono ?_; rintro e w11 ⟨rfl, hb11⟩; have HB11 := Lib.hid hb11; clear hb11)
            go_ret
            exact ⟨rfl, HB11.out⟩
theorem follows_law (v1 v2 : Value) (l : List (List Int)) (is : List Int) (w : World) (h1 : Grid w w.heap.size v1 l) (hf : Fits l) (h2 : Nums w w.heap.size v2 is) (hp : Pow w) :
    Calls Tryz.prog 3 #[v1, v2] w (TruePost w) := by
  obtain ⟨A, c, rfl⟩ := h2.len
  cases h : fewB l with
  | false => exact follows_few v1 _ l w h1 hf hp h
  | true =>
    by_cases hl : 40 < is.length
    · exact follows_long v1 A c l is w h1 hf hp h hl
    have hs : Small l := by
      have := few_of h
      exact ⟨by omega, fun c hc => by have := this.2 c hc; omega⟩
    rcases checkC_or l with hc | hc
    · rcases checkC_or [is] with hc2 | hc2
      · by_cases hm : 10 < mostL (l ++ [is])
        · exact follows_most v1 A c l is _ w h1 hf hs h2 hp h (by omega) hc hc2 rfl hm
        · exact follows_main v1 A c l is _ w h1 hf hs h2 hp h (by omega) hc hc2 rfl (by omega)
      · exact follows_wrong v1 A c l is w h1 hf h2 hp h (by omega) hc hc2
    · exact follows_bad v1 A c l is w h1 hf hp h (by omega) hc
end Go.Proofs.YtpfoaaiedfidbaaGreatDoor
