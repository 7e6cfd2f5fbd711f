/- The contract of skuaref01's Cast; the law WordCasts: its walk. -/
import Derived.Test.YtpfdbigdkegncaaDoorZ
namespace Go.Proofs.YtpfdbigdkegncaaDoor
open Go.RowKit

theorem val_take (l : List Bool) (m : Nat) (h : m ≤ l.length) : valL (l.take m) = valL l % 2 ^ m := by
  have e : l = l.take m ++ l.drop m := (List.take_append_drop m l).symm
  have hl : (l.take m).length = m := by simp; omega
  have b := val_bd (l.take m)
  rw [hl] at b
  conv => rhs; rw [e, val_app, hl, Int.add_mul_emod_self_left]
  exact (Int.emod_eq_of_lt b.1 b.2).symm
theorem st_cong {W v : Int} {S : Bool} (hr : rt W S = true) : lowF W (stF W S v) = lowF W v := by
  cases S
  · have e : stF W false v = IntKind.i64.wrap (lowF W v) := (IntWalk.i64_left _).symm
    rw [e, low_i hr, low_low hr]
  · exact low_st
theorem low_w64 {V : Int} {R : Bool} (hr : rt V R = true) (n : Int) : lowF V (RowKit.wrap64 n) = lowF V n := by
  rw [← IntWalk.i64_left, low_i hr]
theorem cast_val {W V : Int} {S R : Bool} {n m : Nat} (hr : rt W S = true) (hr2 : rt V R = true) (hW : W = n) (hV : V = m) (hn : n ≤ 64) (hm : m ≤ 64) (v : Int) (hv : 0 ≤ v) : valL ((wideL S v n).take m) = lowF V (IntKind.u64.wrap (stF W S v)) := by
  rw [low_u hr2, ← wide_int hr hW v hv, low_w64 hr2, val_take _ _ (by rw [wide_len hn]; exact hm), hV]
  rfl

theorem take_cells {w : World} {g n m : Nat} {l : List Bool} (h : ∀ j, j < n → w.cell? ⟨g, j, none⟩ = some (.bool (l.getD j false))) (hm : m ≤ n) : ∀ j, j < m → w.cell? ⟨g, j, none⟩ = some (.bool ((l.take m).getD j false)) := by
  intro j hj
  rw [h j (by omega), List.getD_eq_getElem?_getD, List.getD_eq_getElem?_getD, List.getElem?_take, if_pos hj]
theorem value_atB (g n cap : Nat) (bs : List Bool) (w : World) (hl : bs.length = n) (hn : n ≤ 64) (hc : ∀ j, j < n → w.cell? ⟨g, j, none⟩ = some (.bool (bs.getD j false))) :
    Calls Tryd.prog 33 #[.slice (some ⟨g, 0, none⟩) n cap] w fun e w' => e = .returned (.int .u64 (valL bs)) ∧ Below w.heap.size w w' :=
  (value_at g n cap bs w hl hn hc).mono fun _ _ ⟨he, hw⟩ => ⟨he, hw ▸ Below.refl _ _⟩

set_option maxHeartbeats 2000000 in
theorem rcast_ok (n m : Nat) (S R : Bool) (v : Int) (w : World) (hr : rt n S = true) (hr2 : rt m R = true) (hn1 : 1 ≤ n) (hn : n ≤ 64) (hm1 : 1 ≤ m) (hm : m ≤ 64) (hm2 : ((m : Int) == 1) = false) (hv0 : 0 ≤ v) (hv1 : v < 18446744073709551616) :
    Calls Tryd.prog 30 #[.agg #[.int .i64 n, .bool S], .agg #[.int .i64 m, .bool R], .int .u64 v] w fun e w' => e = .returned (.int .u64 (valL ((wideL S v n).take m))) ∧ Below w.heap.size w w' := by
  have K0 := Lib.hid (two_boxes w n m S R)
  have hwl : ((wideL S v n).take m).length = m := by rw [List.length_take, wide_len hn]; omega
  have HWL := Lib.hid hwl
  clear hwl
  go_enter Tryd.func30, Tryd.ntmps30
  go_wp2_with fail
  refine (rright_any _ _ _).mono ?_
  rintro e w1 ⟨rfl, hq⟩
  obtain ⟨a0, a1, a2, a3, hb1⟩ := keep4 K0.out hq
  clear hq K0
  go_wp2_with fail
  refine (rright_any _ _ _).mono ?_
  rintro e w2 ⟨rfl, hq⟩
  obtain ⟨b0, b1, b2, b3, hb2⟩ := keep4 ⟨a0, a1, a2, a3, hb1⟩ hq
  clear a0 a1 a2 a3 hb1 hq
  have hm0 : (0 : Int) ≤ m := by omega
  go_wp2_with fail
  clear hr hr2
  go_region_held3 (fun w' => w'.cell? ⟨w.heap.size, 0, none⟩ = some (.int .i64 n) ∧ w'.cell? ⟨w.heap.size, 1, none⟩ = some (.bool S) ∧ w'.cell? ⟨w.heap.size + 1, 0, none⟩ = some (.int .i64 m) ∧ w'.cell? ⟨w.heap.size + 1, 1, none⟩ = some (.bool R) ∧ Below w.heap.size w w') (first | exact ⟨b0, b1, b2, b3, hb2.drew⟩ | exact keep4 (by assumption) hq)
    (first | (go_at_call 36; refine (wide_any n S v _ hn1 hn hv0 hv1).mono ?_; rintro e w' ⟨sl, rfl, hown, hq⟩; rw [wide_len hn] at hown; obtain ⟨g, cap, rfl, hg, hnc, hl, hcell⟩ := own_parts hown (by decide); have hmc : m ≤ cap := (by omega); have HC := Lib.hid (take_cells hcell hm); clear hcell hown hl) | (go_at_call 33; refine (value_atB g m cap ((wideL S v n).take m) _ HWL.out hm HC.out).mono ?_; rintro e w' ⟨rfl, hq⟩))
  rename_i hh
  clear b0 b1 b2 b3
  go_wp2
  go_ret
  exact ⟨rfl, hh.2.2.2.2⟩

set_option maxHeartbeats 1000000 in
theorem rcast_bool (W V : Int) (S R : Bool) (v : Int) (w : World) (hr : rt W S = true) (hr2 : rt V R = true) (hV : (V == 1) = true) (hv0 : 0 ≤ v) (hv1 : v < 18446744073709551616) :
    Calls Tryd.prog 30 #[.agg #[.int .i64 W, .bool S], .agg #[.int .i64 V, .bool R], .int .u64 v] w fun e w' => e = .returned (.int .u64 (if lowF W v = 0 then 0 else 1)) ∧ Below w.heap.size w w' := by
  have K0 := Lib.hid (two_boxes w W V S R)
  have hnn : normF W S v = lowF W v := if_pos hr
  have HN := Lib.hid hnn
  clear hnn
  generalize hx : (if lowF W v = 0 then (0 : Int) else 1) = x
  have HX := Lib.hid hx
  clear hx
  go_enter Tryd.func30, Tryd.ntmps30
  go_wp2_with fail
  refine (rright_any _ _ _).mono ?_
  rintro e w1 ⟨rfl, hq⟩
  obtain ⟨a0, a1, a2, a3, hb1⟩ := keep4 K0.out hq
  clear hq K0
  go_wp2_with fail
  refine (rright_any _ _ _).mono ?_
  rintro e w2 ⟨rfl, hq⟩
  obtain ⟨b0, b1, b2, b3, hb2⟩ := keep4 ⟨a0, a1, a2, a3, hb1⟩ hq
  clear a0 a1 a2 a3 hb1 hq
  go_wp2_with fail
  refine (rnorm_any _ _ _ _ hv0 hv1).mono ?_
  rintro e w3 ⟨rfl, hq⟩
  have hb3 := hb2.trans (hq.mono hb2.size)
  rw [HN.out]
  clear b0 b1 b2 b3 hb2 hq
  by_cases hz : lowF W v = 0
  · have hz1 : (lowF W v == 0) = true := by simp [hz]
    have HX2 := Lib.hid ((if_pos hz).symm.trans HX.out : (0 : Int) = x)
    clear hz
    go_wp2
    go_ret
    exact ⟨ret_int HX2.out, hb3⟩
  · have hz1 : (lowF W v == 0) = false := by simpa using hz
    have HX2 := Lib.hid ((if_neg hz).symm.trans HX.out : (1 : Int) = x)
    clear hz
    go_wp2
    go_ret
    exact ⟨ret_int HX2.out, hb3⟩

set_option maxHeartbeats 1000000 in
theorem rcast_no (W V : Int) (S R : Bool) (v : Int) (w : World) (hr : rt W S = false ∨ rt V R = false) :
    Calls Tryd.prog 30 #[.agg #[.int .i64 W, .bool S], .agg #[.int .i64 V, .bool R], .int .u64 v] w fun e w' => e = .returned (.int .u64 0) ∧ Below w.heap.size w w' := by
  have K0 := Lib.hid (two_boxes w W V S R)
  by_cases h1 : rt W S = true
  · have h2 : rt V R = false := by simpa [h1] using hr
    clear hr
    go_enter Tryd.func30, Tryd.ntmps30
    go_wp2_with fail
    refine (rright_any _ _ _).mono ?_
    rintro e w1 ⟨rfl, hq⟩
    obtain ⟨a0, a1, a2, a3, hb1⟩ := keep4 K0.out hq
    clear hq K0
    go_wp2_with fail
    refine (rright_any _ _ _).mono ?_
    rintro e w2 ⟨rfl, hq⟩
    have hb2 := hb1.trans (hq.mono hb1.size)
    clear a0 a1 a2 a3 hb1 hq
    go_wp2
    go_ret
    exact ⟨rfl, hb2⟩
  · have h2 : rt W S = false := by simpa using h1
    clear hr h1
    go_enter Tryd.func30, Tryd.ntmps30
    go_wp2_with fail
    refine (rright_any _ _ _).mono ?_
    rintro e w1 ⟨rfl, hq⟩
    obtain ⟨a0, a1, a2, a3, hb1⟩ := keep4 K0.out hq
    clear hq K0 a0 a1 a2 a3
    go_wp2
    go_ret
    exact ⟨rfl, hb1⟩

theorem rcast_any (W : Int) (S : Bool) (V : Int) (R : Bool) (v : Int) (w : World) (hv0 : 0 ≤ v) (hv1 : v < 18446744073709551616) :
    Calls Tryd.prog 30 #[.agg #[.int .i64 W, .bool S], .agg #[.int .i64 V, .bool R], .int .u64 v] w fun e w' => e = .returned (.int .u64 (castF W S V R v)) ∧ Below w.heap.size w w' := by
  unfold castF
  by_cases hr : rt W S = false ∨ rt V R = false
  · rw [if_pos hr]
    exact rcast_no W V S R v w hr
  rw [if_neg hr]
  simp only [not_or] at hr
  have h1 : rt W S = true := by simpa using hr.1
  have h2 : rt V R = true := by simpa using hr.2
  by_cases hV : V = 1
  · rw [if_pos hV]
    exact rcast_bool W V S R v w h1 h2 (by simpa using hV) hv0 hv1
  · rw [if_neg hV]
    obtain ⟨n, hW, hn1, hn⟩ := rt_nat h1
    obtain ⟨m, hVm, hm1, hm⟩ := rt_nat h2
    rw [← cast_val h1 h2 hW hVm hn hm v hv0]
    subst hW hVm
    exact rcast_ok n m S R v w h1 h2 hn1 hn hm1 hm (by simpa using hV) hv0 hv1

theorem pow_dvd2 {W V : Int} {S R : Bool} (h1 : rt W S = true) (h2 : rt V R = true) (h : W ≤ V) : ((2 : Int) ^ W.toNat) ∣ 2 ^ V.toNat := by
  refine ⟨2 ^ (V.toNat - W.toNat), ?_⟩
  rw [← Int.pow_add]
  congr 1
  have := rt_w h1
  have := rt_w h2
  omega
/-- To a wider type and back a value is itself. -/
theorem cast_back {W V : Int} {S R : Bool} (h1 : rt W S = true) (h2 : rt V R = true) (h : W ≤ V) (hW : 1 < W) (v : Int) : castF V R W S (castF W S V R v) = normF W S v := by
  have e1 : castF W S V R v = lowF V (IntKind.u64.wrap (stF W S v)) := by
    unfold castF
    rw [if_neg (by simp [h1, h2]), if_neg (by omega)]
  have e2 : ∀ x, castF V R W S x = lowF W (IntKind.u64.wrap (stF V R x)) := fun x => by
    unfold castF
    rw [if_neg (by simp [h1, h2]), if_neg (by omega)]
  have e3 : normF W S v = lowF W v := if_pos h1
  have low2 : ∀ x, lowF W (lowF V x) = lowF W x := fun x => Int.emod_emod_of_dvd x (pow_dvd2 h1 h2 h)
  rw [e1, e2, e3, low_u h1]
  rw [← low2 (stF V R _), st_cong h2, low2, low2, low_u h1, st_cong h1]
theorem cast_bd {W V : Int} {S R : Bool} {v : Int} : 0 ≤ castF W S V R v ∧ castF W S V R v < 18446744073709551616 := by
  unfold castF
  by_cases hr : rt W S = false ∨ rt V R = false
  · rw [if_pos hr]; decide
  · rw [if_neg hr]
    simp only [not_or] at hr
    split
    · split <;> decide
    · exact low_lt (S := R) (by simpa using hr.2)

theorem keep4T {w0 w w' : World} {p p' q q' : Addr} {v v' u u' : Value} (h : w.cell? p = some v ∧ w.cell? p' = some v' ∧ w.cell? q = some u ∧ w.cell? q' = some u' ∧ Tab w ∧ Below w0.heap.size w0 w) (hb : Below w.heap.size w w') :
    w'.cell? p = some v ∧ w'.cell? p' = some v' ∧ w'.cell? q = some u ∧ w'.cell? q' = some u' ∧ Tab w' ∧ Below w0.heap.size w0 w' :=
  ⟨(hb.cell (cell_lt h.1)).trans h.1, (hb.cell (cell_lt h.2.1)).trans h.2.1, (hb.cell (cell_lt h.2.2.1)).trans h.2.2.1, (hb.cell (cell_lt h.2.2.2.1)).trans h.2.2.2.1, h.2.2.2.2.1.below hb, h.2.2.2.2.2.trans (hb.mono h.2.2.2.2.2.size)⟩
theorem addT {w0 x : World} {p p' q q' : Addr} {v v' u u' : Value} (h : x.cell? p = some v ∧ x.cell? p' = some v' ∧ x.cell? q = some u ∧ x.cell? q' = some u' ∧ Below w0.heap.size w0 x) (ht : Tab x) :
    x.cell? p = some v ∧ x.cell? p' = some v' ∧ x.cell? q = some u ∧ x.cell? q' = some u' ∧ Tab x ∧ Below w0.heap.size w0 x := ⟨h.1, h.2.1, h.2.2.1, h.2.2.2.1, ht, h.2.2.2.2⟩

set_option maxHeartbeats 2000000 in
theorem casts_law (W : Int) (S : Bool) (V : Int) (R : Bool) (v : Int) (w : World) (ht : Tab w) (hv0 : 0 ≤ v) (hv1 : v < 18446744073709551616) :
    Calls Tryd.prog 8 #[.agg #[.int .i64 W, .bool S], .agg #[.int .i64 V, .bool R], .int .u64 v] w fun e w' => e = .returned (.bool true) ∧ Below w.heap.size w w' := by
  have K0 := Lib.hid (addT (two_boxes w W V S R) ((ht.alloc _).alloc _))
  have hcb := cast_bd (W := W) (S := S) (V := V) (R := R) (v := v)
  obtain ⟨cb0, cb1⟩ := hcb
  go_enter Tryd.func8, Tryd.ntmps8
  go_wp2_with fail
  refine (cast_any _ _ _ _ _ _ K0.out.2.2.2.2.1 hv0 hv1).mono ?_; rintro e w1 ⟨rfl, hq⟩
  have K1 := Lib.hid (keep4T K0.out hq)
  clear K0 hq
  obtain ⟨a0, a1, a2, a3, at1, ao⟩ := K1.out
  go_wp2_with fail
  refine (awake_any _ at1).mono ?_; rintro e w2 ⟨rfl, hq⟩
  have K2 := Lib.hid (keep4T K1.out hq)
  clear K1 hq a0 a1 a2 a3 at1 ao
  obtain ⟨a0, a1, a2, a3, at1, ao⟩ := K2.out
  go_wp2_with fail
  refine (rcast_any _ _ _ _ _ _ hv0 hv1).mono ?_; rintro e w3 ⟨rfl, hq⟩
  have K3 := Lib.hid (keep4T K2.out hq)
  clear K2 hq a0 a1 a2 a3 at1 ao
  obtain ⟨a0, a1, a2, a3, at1, ao⟩ := K3.out
  generalize hc : castF W S V R v = c at *
  have HC := Lib.hid hc
  clear hc
  go_wp2_with fail
  refine (right_any _ _ _ at1).mono ?_; rintro e w4 ⟨rfl, hq⟩
  have K4 := Lib.hid (keep4T K3.out hq)
  clear K3 hq a0 a1 a2 a3 at1 ao
  obtain ⟨a0, a1, a2, a3, at1, ao⟩ := K4.out
  by_cases h1 : rt W S = true
  · have H1 := Lib.hid h1
    go_wp2_with fail
    refine (right_any _ _ _ at1).mono ?_; rintro e w5 ⟨rfl, hq⟩
    have K5 := Lib.hid (keep4T K4.out hq)
    clear K4 hq a0 a1 a2 a3 at1 ao
    obtain ⟨a0, a1, a2, a3, at1, ao⟩ := K5.out
    by_cases h2 : rt V R = true
    · have H2 := Lib.hid h2
      by_cases h3 : W ≤ V
      · by_cases h4 : 1 < W
        · have HB := Lib.hid (cast_back h1 h2 h3 h4 v)
          go_wp2_with fail
          clear h1 h2
          go_region_held3 (fun w' => w'.cell? ⟨w.heap.size, 0, none⟩ = some (.int .i64 W) ∧ w'.cell? ⟨w.heap.size, 1, none⟩ = some (.bool S) ∧ w'.cell? ⟨w.heap.size + 1, 0, none⟩ = some (.int .i64 V) ∧ w'.cell? ⟨w.heap.size + 1, 1, none⟩ = some (.bool R) ∧ Tab w' ∧ Below w.heap.size w w') (first | exact ⟨a0, a1, a2, a3, at1.drew, ao.drew⟩ | exact keep4T (by assumption) hq)
            (first | (go_at_call 29; refine (cast_any _ _ _ _ _ _ (by first | exact at1.drew | exact (And.left (And.right (And.right (And.right (And.right (by assumption))))))) cb0 cb1).mono ?_; rintro e w' ⟨rfl, hq⟩) | (go_at_call 19; refine (norm_any _ _ _ _ (And.left (And.right (And.right (And.right (And.right (by assumption)))))) hv0 hv1).mono ?_; rintro e w' ⟨rfl, hq⟩))
          rename_i hh
          clear a0 a1 a2 a3
          rw [show castF V R W S c = normF W S v by rw [← HC.out]; exact HB.out]
          go_wp2
          go_ret
          exact ⟨ret_bool (beq_self_eq_true _), hh.2.2.2.2.2⟩
        · have h4' : decide ((1 : Int) < W) = false := by simpa using h4
          go_wp2
          go_ret
          exact ⟨rfl, ao⟩
      · have h3' : decide (W ≤ V) = false := by simpa using h3
        go_wp2
        go_ret
        exact ⟨rfl, ao⟩
    · have h2' : rt V R = false := by simpa using h2
      clear h2
      go_wp2
      go_ret
      exact ⟨rfl, ao⟩
  · have h1' : rt W S = false := by simpa using h1
    clear h1
    go_wp2
    go_ret
    exact ⟨rfl, ao⟩
end Go.Proofs.YtpfdbigdkegncaaDoor
