/- Resolving two clauses by a variable: the way that tells a clause; all ways. -/
import Derived.Test.YtpfoaaiedfidbaaGreatDoorDf
namespace Go.Proofs.YtpfoaaiedfidbaaGreatDoor
open Go Go.RowKit

theorem Grid.two {w : World} {B : Nat} {u1 u2 : Value} {xs ys : List Int} (h1 : Nums w B u1 xs) (h2 : Nums w B u2 ys) (hB : B ≤ w.heap.size) :
    Grid (w.alloc (.cells #[u1, u2] 23)) (w.heap.size + 1) (.slice (some ⟨w.heap.size, 0, none⟩) 2 2) [xs, ys] := by
  have k1 : Nums (w.alloc (.cells #[u1, u2] 23)) (w.heap.size + 1) u1 xs := (h1.keep fun p hp => World.cell?_alloc_lt w _ p (by omega)).more (by omega)
  have k2 : Nums (w.alloc (.cells #[u1, u2] 23)) (w.heap.size + 1) u2 ys := (h2.keep fun p hp => World.cell?_alloc_lt w _ p (by omega)).more (by omega)
  have hb : (w.alloc (.cells #[u1, u2] 23)).heap[w.heap.size]? = some (.cells #[u1, u2] 23 (0, 0)) := heap_alloc_new w _
  refine ⟨_, 2, rfl, Nat.le_refl _, fun _ => ⟨w.heap.size, 0, rfl, by omega, fun j hj => ?_⟩⟩
  match j, hj with
  | 0, _ => exact ⟨u1, by simp, k1⟩
  | 1, _ => exact ⟨u2, by simp, k2⟩
theorem rowMay_rest {a b : List Int} {v : Int} (h1 : rowMay a = true) (h2 : rowMay b = true) : rowMay (restL a b v) = true := by
  rw [rowMay_iff] at *
  intro n hn
  unfold restL at hn
  rw [List.mem_filter, List.mem_append] at hn
  rcases hn.1 with h | h
  · exact h1 n h
  · exact h2 n h
set_option maxHeartbeats 8000000 in
set_option maxRecDepth 100000 in
theorem resolve_vi (A A' : Option Addr) (c c' : Nat) (a b' : List Int) (v : Int) (w : World) (B : Nat) (hs : RSet A A' c c' a b' v w B) (hv : 0 < v) (ha : cleanB a = true) (hbb : cleanB b' = true) (hva : hasB a v = true) (hvb : hasB b' (-v) = true) :
    Calls Tryz.prog 15 #[.slice A a.length c, .slice A' b'.length c', .int .i64 v] w (ResolvePost a b' v w) := by
  have HOK := Lib.hid (show resolveOk a b' v = true by simp [resolveOk, ha, hbb, hva, hvb, hv])
  have HPOS := Lib.hid (show 0 < a.length from List.length_pos_of_mem (hasB_iff.1 hva))
  have HS := Lib.hid hs
  have hd : decide (v ≤ 0) = false := by simp; omega
  have HA := Lib.hid ha
  clear ha
  have HB := Lib.hid hbb
  clear hbb
  have HVA := Lib.hid hva
  have HVB := Lib.hid hvb
  obtain ⟨_, hv2, hv3⟩ := mayB_iff.1 (rowMay_iff.1 hs.ma v (hasB_iff.1 hva))
  have hrisa := (cleanB_iff.1 HA.out).2
  have HRA := Lib.hid hrisa
  clear hvb hva hrisa
  clear hs
  have e51 := enters51
  go_enter Tryz.func15, Tryz.ntmps15
  go_wp2
  have hWb : Below w.heap.size w (w.alloc (.cells #[.int .i64 v] 3)) := (Below.refl _ w).alloc (Nat.le_refl _) _
  have hc0 : (w.alloc (.cells #[.int .i64 v] 3)).cell? ⟨w.heap.size, 0, none⟩ = some (.int .i64 v) := cell_new _ _ _
  have hb : w.heap.size < (w.alloc (.cells #[.int .i64 v] 3)).heap.size := by simp
  have hbB : B ≤ w.heap.size := HS.out.hB
  generalize (w.alloc (.cells #[.int .i64 v] 3)) = W at hc0 hb hWb ⊢
  have HW := Lib.hid hWb
  have NA := Lib.hid (HS.out.na.below hWb hbB)
  have NB := Lib.hid (HS.out.nb.below hWb hbB)
  have HCA : Hid (∀ U, Below W.heap.size W U → Calls Tryz.prog 30 #[.slice A a.length c] U fun e w' => e = .returned (.bool (cleanB a)) ∧ Below W.heap.size W w') := Lib.hid fun U hU =>
    (isClean_any (.slice A a.length c) a U B (NA.out.below hU (by omega)) (by have := HS.out.la; omega) HS.out.ma (by have := hU.size; omega)).mono fun e w' ⟨he, hb2⟩ => ⟨he, hU.trans (hb2.mono hU.size)⟩
  have HCB : Hid (∀ U, Below W.heap.size W U → Calls Tryz.prog 30 #[.slice A' b'.length c'] U fun e w' => e = .returned (.bool (cleanB b')) ∧ Below W.heap.size W w') := Lib.hid fun U hU =>
    (isClean_any (.slice A' b'.length c') b' U B (NB.out.below hU (by omega)) (by have := HS.out.lb; omega) HS.out.mb (by have := hU.size; omega)).mono fun e w' ⟨he, hb2⟩ => ⟨he, hU.trans (hb2.mono hU.size)⟩
  have HHA : Hid (∀ (U : World) (q : Nat), U.cell? ⟨q, 0, none⟩ = some (.slice A a.length c) → Below W.heap.size W U → Calls Tryz.prog 51 #[.int .i64 v, .pointer (some ⟨q, 0, none⟩)] U fun e w' => e = .returned (.bool (hasB a v)) ∧ Below W.heap.size W w') := Lib.hid fun U q hq hU =>
    (among_in q (.slice A a.length c) a v U B hq (NA.out.below hU (by omega)) ((cleanB_iff.1 HA.out).2).le (by have := HS.out.la; omega)).mono fun e w' ⟨he, n, hn⟩ => ⟨he, by rw [hn]; exact below_drewN' hU n⟩
  have HHB : Hid (∀ (U : World) (q : Nat), U.cell? ⟨q, 0, none⟩ = some (.slice A' b'.length c') → Below W.heap.size W U → Calls Tryz.prog 51 #[.int .i64 (-v), .pointer (some ⟨q, 0, none⟩)] U fun e w' => e = .returned (.bool (hasB b' (-v))) ∧ Below W.heap.size W w') := Lib.hid fun U q hq hU =>
    (among_in q (.slice A' b'.length c') b' (-v) U B hq (NB.out.below hU (by omega)) ((cleanB_iff.1 HB.out).2).le (by have := HS.out.lb; omega)).mono fun e w' ⟨he, n, hn⟩ => ⟨he, by rw [hn]; exact below_drewN' hU n⟩
  refine wp_region_T (S := fun w' => Below W.heap.size W w') (tail := fun i => decide (27 ≤ i)) (by kernel_rfl) ?_
  change wpAnyT _ _ _ _ _ _ _ _ _ (World.drew _)
  refine tk 0 8 (.int .i64 v) (Below.refl W.heap.size W).drew ?y0 ?_
  case y0 =>
    intro w' hw'
    have y0 := (hw'.cell (p := ⟨w.heap.size, 0, none⟩) hb).trans hc0
    go_simp
  try simp only [Act.put, List.setIfInBounds_toArray, List.set_cons_zero, List.set_cons_succ]
  refine tk 1 9 (.bool false) (Below.refl W.heap.size W).drew ?y1 ?_
  case y1 =>
    intro w' hw'
    go_simp
  try simp only [Act.put, List.setIfInBounds_toArray, List.set_cons_zero, List.set_cons_succ]
  refine tk 2 10 (.bool false) (Below.refl W.heap.size W).drew ?y2 ?_
  case y2 =>
    intro w' hw'
    go_simp
  try simp only [Act.put, List.setIfInBounds_toArray, List.set_cons_zero, List.set_cons_succ]
  refine tk 3 11 (.slice A a.length c) (Below.refl W.heap.size W).drew ?y3 ?_
  case y3 =>
    intro w' hw'
    go_simp
  try simp only [Act.put, List.setIfInBounds_toArray, List.set_cons_zero, List.set_cons_succ]
  refine on 4 (fun K hK => ?_)
  go_simp
  refine (HCA.out _ (Below.refl W.heap.size W).drew).mono ?_
  rintro e w1 ⟨rfl, hbx⟩
  rw [HA.out]
  have HXw1 := Lib.hid hbx
  refine hK.out _ _ (fun _ => hbx) ?_
  clear hK K
  try simp only [Act.put, List.setIfInBounds_toArray, List.set_cons_zero, List.set_cons_succ]
  clear hbx
  refine tk 5 13 (.bool false) HXw1.out ?y5 ?_
  case y5 =>
    intro w' hw'
    go_simp
  try simp only [Act.put, List.setIfInBounds_toArray, List.set_cons_zero, List.set_cons_succ]
  refine tk 6 14 (.bool false) HXw1.out ?y6 ?_
  case y6 =>
    intro w' hw'
    go_simp
  try simp only [Act.put, List.setIfInBounds_toArray, List.set_cons_zero, List.set_cons_succ]
  refine tk 7 15 (.bool false) HXw1.out ?y7 ?_
  case y7 =>
    intro w' hw'
    go_simp
  try simp only [Act.put, List.setIfInBounds_toArray, List.set_cons_zero, List.set_cons_succ]
  refine tk 8 16 (.slice A' b'.length c') HXw1.out ?y8 ?_
  case y8 =>
    intro w' hw'
    go_simp
  try simp only [Act.put, List.setIfInBounds_toArray, List.set_cons_zero, List.set_cons_succ]
  refine on 9 (fun K hK => ?_)
  go_simp
  refine (HCB.out _ HXw1.out).mono ?_
  rintro e w2 ⟨rfl, hbx⟩
  rw [HB.out]
  have HXw2 := Lib.hid hbx
  refine hK.out _ _ (fun _ => hbx) ?_
  clear hK K
  try simp only [Act.put, List.setIfInBounds_toArray, List.set_cons_zero, List.set_cons_succ]
  clear hbx
  refine tk 10 18 (.bool false) HXw2.out ?y10 ?_
  case y10 =>
    intro w' hw'
    go_simp
  try simp only [Act.put, List.setIfInBounds_toArray, List.set_cons_zero, List.set_cons_succ]
  refine tk 11 19 (.bool false) HXw2.out ?y11 ?_
  case y11 =>
    intro w' hw'
    go_simp
  try simp only [Act.put, List.setIfInBounds_toArray, List.set_cons_zero, List.set_cons_succ]
  refine tk 12 20 (.bool false) HXw2.out ?y12 ?_
  case y12 =>
    intro w' hw'
    go_simp
  try simp only [Act.put, List.setIfInBounds_toArray, List.set_cons_zero, List.set_cons_succ]
  refine tk 13 21 (.slice A a.length c) HXw2.out ?y13 ?_
  case y13 =>
    intro w' hw'
    go_simp
  try simp only [Act.put, List.setIfInBounds_toArray, List.set_cons_zero, List.set_cons_succ]
  refine tk 15 23 (.int .i64 v) HXw2.out ?y15 ?_
  case y15 =>
    intro w' hw'
    have y0 := (hw'.cell (p := ⟨w.heap.size, 0, none⟩) hb).trans hc0
    go_simp
  try simp only [Act.put, List.setIfInBounds_toArray, List.set_cons_zero, List.set_cons_succ]
  refine on 14 (fun K hK => ?_)
  go_simp
  refine (among_any _ _ _ _).mono ?_
  rintro e w3 ⟨rfl, hw3⟩
  have hbx : Below W.heap.size W w3 := by rw [hw3]; exact (HXw2.out).alloc (HXw2.out).size _
  have hcw3 : w3.cell? ⟨w2.heap.size, 0, none⟩ = some (.slice A a.length c) := by rw [hw3]; exact cell_new _ _ _
  have HXw3 := Lib.hid hbx
  have HCw3 := Lib.hid hcw3
  refine hK.out _ _ (fun _ => hbx) ?_
  clear hK K hw3 hcw3
  try simp only [Act.put, List.setIfInBounds_toArray, List.set_cons_zero, List.set_cons_succ]
  clear hbx
  refine on 16 (fun K hK => ?_)
  go_simp
  refine (HHA.out _ _ HCw3.out HXw3.out).mono ?_
  rintro e w4 ⟨rfl, hbx⟩
  rw [HVA.out]
  have HXw4 := Lib.hid hbx
  refine hK.out _ _ (fun _ => hbx) ?_
  clear hK K
  try simp only [Act.put, List.setIfInBounds_toArray, List.set_cons_zero, List.set_cons_succ]
  clear hbx
  refine tk 17 25 (.bool false) HXw4.out ?y17 ?_
  case y17 =>
    intro w' hw'
    go_simp
  try simp only [Act.put, List.setIfInBounds_toArray, List.set_cons_zero, List.set_cons_succ]
  refine tk 18 26 (.bool false) HXw4.out ?y18 ?_
  case y18 =>
    intro w' hw'
    go_simp
  try simp only [Act.put, List.setIfInBounds_toArray, List.set_cons_zero, List.set_cons_succ]
  refine tk 19 27 (.bool false) HXw4.out ?y19 ?_
  case y19 =>
    intro w' hw'
    go_simp
  try simp only [Act.put, List.setIfInBounds_toArray, List.set_cons_zero, List.set_cons_succ]
  refine tk 20 28 (.slice A' b'.length c') HXw4.out ?y20 ?_
  case y20 =>
    intro w' hw'
    go_simp
  try simp only [Act.put, List.setIfInBounds_toArray, List.set_cons_zero, List.set_cons_succ]
  refine tk 22 30 (.int .i64 v) HXw4.out ?y22 ?_
  case y22 =>
    intro w' hw'
    have y0 := (hw'.cell (p := ⟨w.heap.size, 0, none⟩) hb).trans hc0
    go_simp
  try simp only [Act.put, List.setIfInBounds_toArray, List.set_cons_zero, List.set_cons_succ]
  refine tk 23 31 (.int .i64 (-v)) HXw4.out ?y23 ?_
  case y23 =>
    intro w' hw'
    have y1 : IntKind.i64.wrap (-v) = -v := IntWalk.i64_in _ (by omega)
    go_simp
  try simp only [Act.put, List.setIfInBounds_toArray, List.set_cons_zero, List.set_cons_succ]
  refine on 21 (fun K hK => ?_)
  go_simp
  refine (among_any _ _ _ _).mono ?_
  rintro e w5 ⟨rfl, hw5⟩
  have hbx : Below W.heap.size W w5 := by rw [hw5]; exact (HXw4.out).alloc (HXw4.out).size _
  have hcw5 : w5.cell? ⟨w4.heap.size, 0, none⟩ = some (.slice A' b'.length c') := by rw [hw5]; exact cell_new _ _ _
  have HXw5 := Lib.hid hbx
  have HCw5 := Lib.hid hcw5
  refine hK.out _ _ (fun _ => hbx) ?_
  clear hK K hw5 hcw5
  try simp only [Act.put, List.setIfInBounds_toArray, List.set_cons_zero, List.set_cons_succ]
  clear hbx
  refine on 24 (fun K hK => ?_)
  go_simp
  refine (HHB.out _ _ HCw5.out HXw5.out).mono ?_
  rintro e w6 ⟨rfl, hbx⟩
  rw [HVB.out]
  have HXw6 := Lib.hid hbx
  refine hK.out _ _ (fun _ => hbx) ?_
  clear hK K
  try simp only [Act.put, List.setIfInBounds_toArray, List.set_cons_zero, List.set_cons_succ]
  clear hbx
  refine tk 25 33 (.bool false) HXw6.out ?y25 ?_
  case y25 =>
    intro w' hw'
    go_simp
  try simp only [Act.put, List.setIfInBounds_toArray, List.set_cons_zero, List.set_cons_succ]
  refine tk 26 34 (.bool false) HXw6.out ?y26 ?_
  case y26 =>
    intro w' hw'
    go_simp
  try simp only [Act.put, List.setIfInBounds_toArray, List.set_cons_zero, List.set_cons_succ]
  refine dn ?_
  have hU := HXw6.out
  have HG := Lib.hid (Grid.two (NA.out.below hU (by omega)) (NB.out.below hU (by omega)) (by have := hU.size; omega))
  have HU := Lib.hid hU
  clear hU
  go_wp2_with fail
  refine (concat_any _ [a, b'] _ _ HG.out ⟨by simp, fun x hx => by have h1 := HS.out.la; have h2 := HS.out.lb; simp at hx; rcases hx with rfl | rfl <;> assumption⟩ (by simp)).mono ?_
  rintro e w7 ⟨v7, rfl, ho7, hb7⟩
  have HO7 := Lib.hid (show Own w7 (w6.heap.size + 1) v7 (a ++ b') by simpa using ho7)
  have hsz7 : w6.heap.size + 1 ≤ w7.heap.size := by have := hb7.size; simpa using this
  have HB7 := Lib.hid (show Below w6.heap.size w6 w7 from ((Below.refl _ w6).alloc (Nat.le_refl _) _).trans (hb7.mono (by simp)))
  have hw6 := HU.out.size
  have hc7 := Lib.hid ((HB7.out.cell (p := ⟨w.heap.size, 0, none⟩) (by show w.heap.size < _; omega)).trans ((HU.out.cell (p := ⟨w.heap.size, 0, none⟩) hb).trans hc0))
  have hlen := Lib.hid (show (a ++ b').length ≤ 2000 by have h1 := HS.out.la; have h2 := HS.out.lb; simp; omega)
  clear ho7 hb7
  obtain ⟨A7, c7, e7⟩ := HO7.out.form
  obtain ⟨n7, hn7⟩ : ∃ n, (a ++ b').length = n := ⟨_, rfl⟩
  rw [hn7] at e7
  subst e7
  clear hn7
  go_wp2_with fail
  refine (delete_own w.heap.size v _ (a ++ b') w7 (w6.heap.size + 1) HO7.out (by have := HPOS.out; simp; omega) (by have := hlen.out; omega) hv hv3 (by omega) hsz7 hc7.out).mono ?_
  rintro e w8 ⟨v8, rfl, ho8, hg8⟩
  have HO8 := Lib.hid (show Own w8 (w6.heap.size + 1) v8 (restL a b' v) from ho8)
  have HB8 := Lib.hid (show Below w6.heap.size w6 w8 from HB7.out.grown hg8 (by omega) (fun k hk => by have := (HO7.out.lt k hk).1; omega))
  clear ho8 hg8
  go_wp2_with fail
  refine (clean_any v8 (restL a b' v) w8 _ HO8.out.nums (by have h1 := List.length_filter_le (fun y => !delB v y) (a ++ b'); have := hlen.out; unfold restL; omega) (rowMay_rest HS.out.ma HS.out.mb)).mono ?_
  rintro e w9 ⟨hb9, hpost⟩
  have hww : w.heap.size ≤ w8.heap.size := by have := HB8.out.size; omega
  have HBB := Lib.hid (show Below w.heap.size w w9 from (HW.out.trans (HU.out.mono (by omega))).trans ((HB8.out.mono (by omega)).trans (hb9.mono hww)))
  rcases hpost with ⟨hno, v9, rfl, ho9⟩ | ⟨hyes, rfl⟩
  · have HN := Lib.hid hno
    have HO9 := Lib.hid (ho9.mono hww)
    clear hno ho9 hb9
    go_wp2
    go_ret2
    exact ⟨HBB.out, .inl ⟨HOK.out, HN.out, _, rfl, HO9.out⟩⟩
  · have HY := Lib.hid hyes
    clear hyes hb9
    go_wp2
    go_ret2
    exact ⟨HBB.out, .inr ⟨.inr HY.out, rfl⟩⟩
theorem resolve_any (v1 v2 : Value) (a b : List Int) (v : Int) (w : World) (B : Nat) (h1 : Nums w B v1 a) (h2 : Nums w B v2 b) (la : a.length ≤ 1000) (lb : b.length ≤ 1000) (ma : rowMay a = true) (mb : rowMay b = true) (hB : B ≤ w.heap.size) :
    Calls Tryz.prog 15 #[v1, v2, .int .i64 v] w (ResolvePost a b v w) := by
  have h1' := h1
  have h2' := h2
  obtain ⟨A, c, rfl, _⟩ := h1
  obtain ⟨A', c', rfl, _⟩ := h2
  have hs : RSet A A' c c' a b v w B := ⟨h1', h2', la, lb, ma, mb, hB⟩
  by_cases hv : 0 < v
  · cases ha : cleanB a with
    | false => exact resolve_ii A A' c c' a b v w B hs hv ha
    | true =>
      cases hb : cleanB b with
      | false => exact resolve_iii A A' c c' a b v w B hs hv ha hb
      | true =>
        cases hva : hasB a v with
        | false => exact resolve_iv A A' c c' a b v w B hs hv ha hb hva
        | true =>
          cases hvb : hasB b (-v) with
          | false => exact resolve_v A A' c c' a b v w B hs hv ha hb hva hvb
          | true => exact resolve_vi A A' c c' a b v w B hs hv ha hb hva hvb
  · exact resolve_i A A' c c' a b v w B hs (by omega)
end Go.Proofs.YtpfoaaiedfidbaaGreatDoor
