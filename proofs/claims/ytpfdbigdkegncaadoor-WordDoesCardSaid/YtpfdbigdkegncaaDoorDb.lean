/- The contracts of skuaref01's size and divide. -/
import Derived.Test.YtpfdbigdkegncaaDoorDa
namespace Go.Proofs.YtpfdbigdkegncaaDoor
open Go.RowKit

/-- How great a value is, without its sign. -/
def szF (S : Bool) (v : Int) (n : Nat) : Int := if sgn S v n then IntKind.u64.wrap (0 - valL (wideL S v n)) else valL (wideL S v n)
theorem wide_bd {S : Bool} {v : Int} {n : Nat} (hn : n ≤ 64) : 0 ≤ valL (wideL S v n) ∧ valL (wideL S v n) < 18446744073709551616 := by
  have := val_bd (wideL S v n)
  rw [wide_len hn] at this
  exact this
theorem sz_bd {S : Bool} {v : Int} {n : Nat} (hn : n ≤ 64) : 0 ≤ szF S v n ∧ szF S v n < 18446744073709551616 := by
  unfold szF
  split
  · exact u64_bd _
  · exact wide_bd hn

set_option maxHeartbeats 1000000 in
theorem size_any (n : Nat) (S : Bool) (v : Int) (w : World) (hn1 : 1 ≤ n) (hn : n ≤ 64) (hv0 : 0 ≤ v) (hv1 : v < 18446744073709551616) :
    Calls Tryd.prog 47 #[.agg #[.int .i64 n, .bool S], .int .u64 v] w fun e w' => e = .returned (.int .u64 (szF S v n)) ∧ Below w.heap.size w w' := by
  have K0 := Lib.hid (start_box w n S)
  obtain ⟨wb0, wb1⟩ := wide_bd (S := S) (v := v) hn
  generalize hz : szF S v n = z
  have HZ := Lib.hid hz
  clear hz
  go_enter Tryd.func47, Tryd.ntmps47
  go_wp2_with fail
  refine (neg_any n S v _ hn1 hn hv0 hv1).mono ?_
  rintro e w1 ⟨rfl, hq⟩
  have K1 := Lib.hid (keepB K0.out (by simpa using hq))
  obtain ⟨b0, b1, _⟩ := K1.out
  clear K0 hq
  cases hs : sgn S v n
  · have HZ2 := Lib.hid (show valL (wideL S v n) = z by rw [← HZ.out]; unfold szF; rw [hs]; rfl)
    clear hs
    go_wp2_with fail
    refine (wide_any n S v _ hn1 hn hv0 hv1).mono ?_
    rintro e w2 ⟨sl, rfl, hown, hq⟩
    have K2 := Lib.hid (keepB K1.out hq)
    clear b0 b1 K1 hq
    go_wp2_with fail
    refine (value_own _ _ _ _ _ hown (by rw [wide_len hn]; decide) (by rw [wide_len hn]; decide)).mono ?_
    rintro e w3 ⟨rfl, rfl⟩
    go_wp2
    go_ret
    exact ⟨ret_int HZ2.out, below_box K2.out.2.2⟩
  · have HZ2 := Lib.hid (show IntKind.u64.wrap (0 - valL (wideL S v n)) = z by rw [← HZ.out]; unfold szF; rw [hs]; rfl)
    clear hs
    go_wp2_with fail
    refine (wide_any n S v _ hn1 hn hv0 hv1).mono ?_
    rintro e w2 ⟨sl, rfl, hown, hq⟩
    have K2 := Lib.hid (keepB K1.out hq)
    clear b0 b1 K1 hq
    go_wp2_with fail
    refine (value_own _ _ _ _ _ hown (by rw [wide_len hn]; decide) (by rw [wide_len hn]; decide)).mono ?_
    rintro e w3 ⟨rfl, rfl⟩
    generalize valL (wideL S v n) = x at *
    go_wp2
    go_ret
    refine ⟨ret_int ?_, below_box K2.out.2.2⟩
    rw [← HZ2.out]
    simp

theorem two_ints {k k' : IntKind} {a a' b b' : Int} (h : a = a') (h' : b = b') : Ending.returned (.tuple #[.int k a, .int k' b]) = .returned (.tuple #[.int k a', .int k' b']) := by rw [h, h']
def qtF (sa sb : Bool) (x y : Int) : Int := if sa = sb then x / y else IntKind.u64.wrap (0 - x / y)
def rsF (sa : Bool) (x y : Int) : Int := if sa then IntKind.u64.wrap (0 - x % y) else x % y

set_option maxHeartbeats 4000000 in
theorem divide_any (n : Nat) (S : Bool) (a b : Int) (w : World) (hn1 : 1 ≤ n) (hn : n ≤ 64) (ha0 : 0 ≤ a) (ha1 : a < 18446744073709551616) (hb0 : 0 ≤ b) (hb1 : b < 18446744073709551616) (hnz : 1 ≤ szF S b n) :
    Calls Tryd.prog 40 #[.agg #[.int .i64 n, .bool S], .int .u64 a, .int .u64 b] w fun e w' => e = .returned (.tuple #[.int .u64 (qtF (sgn S a n) (sgn S b n) (szF S a n) (szF S b n)), .int .u64 (rsF (sgn S a n) (szF S a n) (szF S b n))]) ∧ Below w.heap.size w w' := by
  obtain ⟨b0, b1, hb⟩ := start_box w n S
  obtain ⟨x0, x1⟩ := sz_bd (S := S) (v := a) hn
  obtain ⟨y0, y1⟩ := sz_bd (S := S) (v := b) hn
  generalize hx : szF S a n = x at *
  generalize hy : szF S b n = y at *
  generalize hsa : sgn S a n = sa at *
  generalize hsb : sgn S b n = sb at *
  have HX := Lib.hid hx
  have HY := Lib.hid hy
  have HSA := Lib.hid hsa
  have HSB := Lib.hid hsb
  clear hx hy hsa hsb
  have xq0 : 0 ≤ x / y := Int.ediv_nonneg x0 y0
  have xq1 : x / y < 18446744073709551616 := Int.lt_of_le_of_lt (Int.ediv_le_self _ x0) x1
  have xr0 : 0 ≤ x % y := Int.emod_nonneg x (by omega)
  have xr1 : x % y < 18446744073709551616 := Int.lt_trans (Int.emod_lt_of_pos x (by omega)) y1
  have hyz : ¬ y = 0 := by omega
  go_enter Tryd.func40, Tryd.ntmps40
  go_wp2_with fail
  go_region_held3 (fun w' => w'.cell? ⟨w.heap.size, 0, none⟩ = some (.int .i64 n) ∧ w'.cell? ⟨w.heap.size, 1, none⟩ = some (.bool S) ∧ Below (w.heap.size + 1) (w.alloc (.cells #[.int .i64 n, .bool S] 23)) w') (first | exact ⟨b0, b1, hb.drew⟩ | exact keepB (by assumption) hq)
    (first | (go_at_call 47; refine (size_any n S _ _ hn1 hn (by assumption) (by assumption)).mono ?_; rintro e w' ⟨rfl, hq⟩; (first | rw [HX.out] | rw [HY.out])))
  rename_i hh
  clear b0 b1 hb
  obtain ⟨b0, b1, hb⟩ := hh
  have etd : IntKind.u64.wrap (x.tdiv y) = x / y := by rw [Int.tdiv_eq_ediv_of_nonneg x0, u64_wrap]; exact Int.emod_eq_of_lt xq0 xq1
  have etm : x.tmod y = x % y := Int.tmod_eq_emod_of_nonneg x0
  rw [etd, etm]
  generalize hqq : x / y = qq at *
  generalize hrr : x % y = rr at *
  have HQ := Lib.hid hqq
  have HRR := Lib.hid hrr
  clear etd etm hqq hrr
  go_wp2_with fail
  go_region_held3 (fun w' => w'.cell? ⟨w.heap.size, 0, none⟩ = some (.int .i64 n) ∧ w'.cell? ⟨w.heap.size, 1, none⟩ = some (.bool S) ∧ Below (w.heap.size + 1) (w.alloc (.cells #[.int .i64 n, .bool S] 23)) w') (first | exact ⟨b0, b1, hb.drew⟩ | exact keepB (by assumption) hq)
    (first | (go_at_call 48; refine (neg_any n S _ _ hn1 hn (by assumption) (by assumption)).mono ?_; rintro e w' ⟨rfl, hq⟩; (first | rw [HSA.out] | rw [HSB.out])))
  rename_i hh
  clear b0 b1 hb
  obtain ⟨b0, b1, hb⟩ := hh
  cases sa <;> cases sb
  all_goals
    go_wp2_with fail
    refine (neg_any n S _ _ hn1 hn ha0 ha1).mono ?_
    rintro e w3 ⟨rfl, hq⟩
    rw [HSA.out]
    obtain ⟨_, _, hb3⟩ := keepB ⟨b0, b1, hb⟩ hq
    clear b0 b1 hb hq
    go_wp2
    go_ret2
    exact ⟨two_ints (by unfold qtF; rw [HQ.out]; simp) (by unfold rsF; rw [HRR.out]; simp), below_box hb3⟩
end Go.Proofs.YtpfdbigdkegncaaDoor
