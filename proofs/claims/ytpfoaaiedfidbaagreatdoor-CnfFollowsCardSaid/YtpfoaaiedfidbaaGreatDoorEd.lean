/- Whether clauses hold (the program's). -/
import Derived.Test.YtpfoaaiedfidbaaGreatDoorEc
namespace Go.Proofs.YtpfoaaiedfidbaaGreatDoor
open Go Go.RowKit Go.Maps

theorem hasB_snoc {tr : List Int} {x y : Int} : hasB (tr ++ [x]) y = (hasB tr y || y == x) := by
  rw [Bool.eq_iff_iff, Bool.or_eq_true, hasB_iff, hasB_iff]
  simp
/-- Behind a store of a new key. -/
theorem SetAt.put {w : World} {b n : Nat} {tr : List Int} {x : Int} {D : DataW Unit} (hm : IsMap D) (hh : ∀ y, Maps.has D (.int .i64 y) = hasB tr y) (ho : w.ownsMap Tryz.prog 3 (unitElem (H := Unit)) b n (D.put (.int .i64 x) (.agg []))) : SetAt w b n (tr ++ [x]) := by
  refine ⟨_, ho, ho.isMap, fun y => ?_⟩
  rw [hasB_snoc]
  by_cases e : y = x
  · subst e
    rw [has_put_same hm (by simp [WideAt.IsKeyLit])]
    simp
  · rw [has_put_other (by simpa using e), hh y]
    simp [e]
theorem make49 (n : Nat) (w : World) (_h : n ≤ 1000000) : (Instr.makeMap 49 (some (.int .i64 (n : Int)))).run Tryz.prog w = .ok (.map (some w.heap.size)) (w.alloc (.map #[] 0)) := by
  simp [Instr.makeMap, go_sem]
theorem allMay_iff {l : List (List Int)} : allMay l = true ↔ ∀ c ∈ l, rowMay c = true := by simp [allMay]
theorem getD_memL {l : List (List Int)} {k : Nat} (h : k < l.length) : l.getD k [] ∈ l := by
  simp [List.getD, List.getElem?_eq_getElem h]
set_option maxHeartbeats 4000000 in
set_option maxRecDepth 100000 in
theorem holds_any (v u : Value) (l : List (List Int)) (is : List Int) (w : World) (B : Nat) (h : Grid w B v l) (hs : Small l) (h' : Nums w B u is) (hl' : is.length ≤ 1000) (hm : allMay l = true) (hm' : rowMay is = true) (hB : B ≤ w.heap.size) :
    Calls Tryz.prog 23 #[v, u] w fun e w' => e = .returned (.bool (holdsB l is)) ∧ Below w.heap.size w w' := by
  have HG := Lib.hid h
  have HN := Lib.hid h'
  have HS := Lib.hid hs
  have HM := Lib.hid hm
  have HM' := Lib.hid hm'
  have hl := hs.1
  have hmk := fun w => make49 is.length w (by omega)
  have e60 := enters60
  obtain ⟨A, c, rfl, hc, _⟩ := h
  obtain ⟨A', c', rfl, hc', _⟩ := h'
  clear hs hm hm'
  go_enter Tryz.func23, Tryz.ntmps23
  go_wp2
  go_loopw [16] (fun i wr => ∃ k : Nat, k ≤ is.length ∧ i = .int .i64 k ∧ Hid (SetAt wr w.heap.size k (is.take k)) ∧ Hid (Below w.heap.size w wr)) (fun i _ => is.length - (intOf i).toNat)
  case atStart => exact ⟨0, Nat.zero_le _, rfl, Lib.hid (by simpa using SetAt.made w), Lib.hid ((Below.refl _ _).alloc (Nat.le_refl _) _)⟩
  case round =>
    obtain ⟨k, hk, rfl, hset, hb⟩ := hrel
    by_cases hlt : k < is.length
    · obtain ⟨A2, c2, e2, _, hat⟩ := HN.out.below hb.out hB
      cases e2
      obtain ⟨b, off, rfl, hbB, hcell⟩ := hat (by omega)
      obtain ⟨x, hx⟩ : ∃ x, is.getD k 0 = x := ⟨_, rfl⟩
      have hc0 := hcell k hlt
      rw [hx] at hc0
      have HX := Lib.hid hx
      have HK := Lib.hid (keyOf_may (rowMay_iff.1 HM'.out x (hx ▸ getD_mem hlt)))
      obtain ⟨D, hown, hD, hh⟩ := hset.out
      have HO := Lib.hid hown
      have HD := Lib.hid hD
      have HH := Lib.hid hh
      have HR := Lib.hid (show k < maxLen by unfold maxLen; omega)
      clear hcell hat hx hown hD hh hset
      go_wp2_with (at_mapUpdate; refine wpList_mapUpdate_own _ rfl _ _ _ 49 rfl 3 73 key3 Tryz.underlying49 (unitElem (H := Unit)) w.heap.size k D rfl HO.out HR.out _ _ _ rfl rfl HK.out (.agg []) [] unitElem_mk ?_; intro w1 hown1 hgrow1; have HO1 := Lib.hid hown1; have HG1 := Lib.hid hgrow1; clear hown1 hgrow1)
      go_roundw
      case rel =>
        refine ⟨k + 1, by omega, by go_num, Lib.hid ?_, Lib.hid (hb.out.grown HG1.out hb.out.size (fun q hq => by cases hq; exact Nat.le_refl _))⟩
        have := SetAt.put HD.out HH.out HO1.out
        rwa [List.take_succ_eq_append_getElem hlt, show is[k] = x by rw [← HX.out]; simp [List.getD, List.getElem?_eq_getElem hlt]]
      case measure => simp [intOf]; omega
    · have hset2 := Lib.hid (show SetAt wr w.heap.size k is by have := hset.out; rwa [List.take_of_length_le (by omega)] at this)
      obtain ⟨wo, rfl⟩ : ∃ wo : World, wo = wr := ⟨_, rfl⟩
      go_wp2_with fail
      refine (within_any w.heap.size wo).mono ?_
      rintro e w1 ⟨rfl, hw1⟩
      have hb1 : Below wo.heap.size wo w1 := by rw [hw1]; exact (Below.refl _ _).alloc (Nat.le_refl _) _
      have hq1 : w1.cell? ⟨wo.heap.size, 0, none⟩ = some (.map (some w.heap.size)) := by rw [hw1]; exact cell_new _ _ _
      have hsz1 : wo.heap.size < w1.heap.size := by rw [hw1]; simp
      have HQ1 := Lib.hid hq1
      have HB1 := Lib.hid (hb.out.trans (hb1.mono hb.out.size))
      have HS1 := Lib.hid (hset2.out.below hb1 hset2.out.lt)
      clear hw1 hb1 hq1 hset hset2
      go_wp2_with fail
      go_loopw [28] (fun i wr => ∃ j : Nat, j ≤ l.length ∧ i = .int .i64 j ∧ Hid (Below w1.heap.size w1 wr) ∧ Hid (holdsB (l.take j) is = true)) (fun i _ => l.length - (intOf i).toNat)
      case atStart => exact ⟨0, Nat.zero_le _, rfl, Lib.hid (Below.refl _ _), Lib.hid (by simp [holdsB])⟩
      case round =>
        obtain ⟨j, hj, rfl, hbj, hso⟩ := hrel
        have hbw := HB1.out.trans (hbj.out.mono HB1.out.size)
        have HBW := Lib.hid hbw
        by_cases hlt2 : j < l.length
        · obtain ⟨A2, c2, e2, _, hat⟩ := HG.out.below hbw hB
          cases e2
          obtain ⟨b, off, rfl, hbB, hcell⟩ := hat (by omega)
          obtain ⟨r, hr⟩ : ∃ r, l.getD j [] = r := ⟨_, rfl⟩
          obtain ⟨u2, hu2, hn2⟩ := hcell j hlt2
          have hrl := HS.out.at_ hlt2
          have hrm : rowMay r = true := allMay_iff.1 HM.out r (hr ▸ getD_memL hlt2)
          rw [hr] at hn2 hrl
          have HR := Lib.hid hr
          have HK := Lib.hid (contains_any 60 #[.pointer (some ⟨wo.heap.size, 0, none⟩)] (hasB is) e60 u2 r wr B hn2 (by have := hbw.size; omega) (by omega)
            (fun W x hW hx => within_in wo.heap.size w.heap.size k is x W (rowMay_iff.1 hrm x hx) ((hW.cell (p := ⟨wo.heap.size, 0, none⟩) (by have := hbj.out.size; show wo.heap.size < _; omega)).trans ((hbj.out.cell (p := ⟨wo.heap.size, 0, none⟩) hsz1).trans HQ1.out)) ((HS1.out.below hbj.out HS1.out.lt).below hW (by have := hbj.out.size; have := HS1.out.lt; omega))))
          obtain ⟨A3, c3, rfl, _⟩ := hn2
          clear hcell hat hr hrm hbw
          cases ht : rowHolds r is with
          | true =>
            have HT := Lib.hid (show r.any (hasB is) = true from ht)
            rw [HT.out] at HK
            clear ht
            go_wp2_with (go_at_call 43; refine (HK.out).mono ?_; rintro e w3 ⟨rfl, hb3⟩; have HB3 := Lib.hid hb3; clear hb3)
            go_roundw
            case rel => exact ⟨j + 1, by omega, by go_num, Lib.hid (hbj.out.trans (HB3.out.mono hbj.out.size)), Lib.hid (by rw [holdsB_snoc hlt2 HR.out, hso.out]; exact HT.out)⟩
            case measure => simp [intOf]; omega
          | false =>
            have HT := Lib.hid (show r.any (hasB is) = false from ht)
            rw [HT.out] at HK
            clear ht
            have hin := Lib.hid (holdsB_bad hlt2 HR.out (show rowHolds r is = false from HT.out))
            go_wp2_with (go_at_call 43; refine (HK.out).mono ?_; rintro e w3 ⟨rfl, hb3⟩; have HB3 := Lib.hid hb3; clear hb3)
            go_ret
            exact ⟨ret_bool hin.out.symm, HBW.out.trans (HB3.out.mono HBW.out.size)⟩
        · have hin := Lib.hid (show holdsB l is = true by rw [← hso.out, List.take_of_length_le (by omega)])
          go_wp2
          go_ret
          exact ⟨ret_bool hin.out.symm, HBW.out⟩
end Go.Proofs.YtpfoaaiedfidbaaGreatDoor
