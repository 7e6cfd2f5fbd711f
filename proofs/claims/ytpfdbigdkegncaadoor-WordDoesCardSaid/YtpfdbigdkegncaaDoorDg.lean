/- The contract of skuaref01's Do, operator by operator. -/
import Derived.Test.YtpfdbigdkegncaaDoorDf
namespace Go.Proofs.YtpfdbigdkegncaaDoor
open Go.RowKit

theorem val64 {l : List Bool} (h : l.length ≤ 64) : 0 ≤ valL l ∧ valL l < 18446744073709551616 := by
  have := val_bd l
  exact ⟨this.1, Int.lt_of_lt_of_le this.2 (two_mono h)⟩
theorem qt_bd {S : Bool} {x y : Int} {n : Nat} (hn : n ≤ 64) (h : 1 ≤ szF S y n) : 0 ≤ qtF (sgn S x n) (sgn S y n) (szF S x n) (szF S y n) ∧ qtF (sgn S x n) (sgn S y n) (szF S x n) (szF S y n) < 18446744073709551616 := by
  unfold qtF
  have hb := sz_bd (S := S) (v := x) hn
  split
  · exact ⟨Int.ediv_nonneg hb.1 (by omega), Int.lt_of_le_of_lt (Int.ediv_le_self _ hb.1) hb.2⟩
  · exact u64_bd _
theorem rs_bd {S : Bool} {x y : Int} {n : Nat} (hn : n ≤ 64) (h : 1 ≤ szF S y n) : 0 ≤ rsF (sgn S x n) (szF S x n) (szF S y n) ∧ rsF (sgn S x n) (szF S x n) (szF S y n) < 18446744073709551616 := by
  unfold rsF
  have hb := sz_bd (S := S) (v := y) hn
  split
  · exact u64_bd _
  · exact ⟨Int.emod_nonneg _ (by omega), Int.lt_trans (Int.emod_lt_of_pos _ (by omega)) hb.2⟩

set_option maxHeartbeats 2000000 in
theorem rdo_and (n : Nat) (S : Bool) (a b x y : Int) (w : World) (hn1 : 1 ≤ n) (hn : n ≤ 64) (hr : rt n S = true) (hx : normF n S a = x) (hy : normF n S b = y) (x0 : 0 ≤ x) (x1 : x < 18446744073709551616) (y0 : 0 ≤ y) (y1 : y < 18446744073709551616) (ha0 : 0 ≤ a) (ha1 : a < 18446744073709551616) (hb0 : 0 ≤ b) (hb1 : b < 18446744073709551616) :
    Calls Tryd.prog 24 #[.agg #[.int .i64 n, .bool S], .string ⟨#[38]⟩, .int .u64 a, .int .u64 b] w fun e w' => e = .returned (.tuple #[.int .u64 (valL (List.zipWith (· && ·) (bitsR x n) (bitsR y n))), .int .i64 0]) ∧ Below w.heap.size w w' := by
  have HX := Lib.hid hx
  have HY := Lib.hid hy
  clear hx hy
  go_enter Tryd.func24, Tryd.ntmps24
  go_wp2_with fail
  refine (rright_any _ _ _).mono ?_
  rintro e w1 ⟨rfl, hb⟩
  have hbx : Below (w.heap.size + 1) (w.alloc (.cells #[.int .i64 n, .bool S] 23)) w1 := by simpa using hb
  obtain ⟨hc0, hc1, hbx⟩ := keepB (start_box w n S) (by simpa using hb)
  clear hb
  go_wp2_with fail
  clear hr
  go_region_held3 (fun w' => w'.cell? ⟨w.heap.size, 0, none⟩ = some (.int .i64 n) ∧ w'.cell? ⟨w.heap.size, 1, none⟩ = some (.bool S) ∧ Below (w.heap.size + 1) (w.alloc (.cells #[.int .i64 n, .bool S] 23)) w') (first | exact ⟨hc0, hc1, hbx.drew⟩ | exact keepB (by assumption) hq)
    (first | (go_at_call 20; refine (rnorm_any _ _ _ _ (by assumption) (by assumption)).mono ?_; rintro e w' ⟨rfl, hq⟩; (first | rw [HX.out] | rw [HY.out])))
  rename_i hh
  clear hc0 hc1 hbx
  obtain ⟨hc0, hc1, hbx⟩ := hh
  go_wp2_with fail
  refine (each_and n S x y _ hn1 hn x0 x1 y0 y1).mono ?_
  rintro e w2 ⟨rfl, hq⟩
  obtain ⟨hc0', hc1', hbx'⟩ := keepB ⟨hc0, hc1, hbx⟩ hq
  clear hc0 hc1 hbx hq
  go_wp2
  go_ret2
  exact ⟨rfl, below_box hbx'⟩

set_option maxHeartbeats 2000000 in
theorem rdo_or (n : Nat) (S : Bool) (a b x y : Int) (w : World) (hn1 : 1 ≤ n) (hn : n ≤ 64) (hr : rt n S = true) (hx : normF n S a = x) (hy : normF n S b = y) (x0 : 0 ≤ x) (x1 : x < 18446744073709551616) (y0 : 0 ≤ y) (y1 : y < 18446744073709551616) (ha0 : 0 ≤ a) (ha1 : a < 18446744073709551616) (hb0 : 0 ≤ b) (hb1 : b < 18446744073709551616) :
    Calls Tryd.prog 24 #[.agg #[.int .i64 n, .bool S], .string ⟨#[124]⟩, .int .u64 a, .int .u64 b] w fun e w' => e = .returned (.tuple #[.int .u64 (valL (List.zipWith (· || ·) (bitsR x n) (bitsR y n))), .int .i64 0]) ∧ Below w.heap.size w w' := by
  have HX := Lib.hid hx
  have HY := Lib.hid hy
  clear hx hy
  go_enter Tryd.func24, Tryd.ntmps24
  go_wp2_with fail
  refine (rright_any _ _ _).mono ?_
  rintro e w1 ⟨rfl, hb⟩
  have hbx : Below (w.heap.size + 1) (w.alloc (.cells #[.int .i64 n, .bool S] 23)) w1 := by simpa using hb
  obtain ⟨hc0, hc1, hbx⟩ := keepB (start_box w n S) (by simpa using hb)
  clear hb
  go_wp2_with fail
  clear hr
  go_region_held3 (fun w' => w'.cell? ⟨w.heap.size, 0, none⟩ = some (.int .i64 n) ∧ w'.cell? ⟨w.heap.size, 1, none⟩ = some (.bool S) ∧ Below (w.heap.size + 1) (w.alloc (.cells #[.int .i64 n, .bool S] 23)) w') (first | exact ⟨hc0, hc1, hbx.drew⟩ | exact keepB (by assumption) hq)
    (first | (go_at_call 20; refine (rnorm_any _ _ _ _ (by assumption) (by assumption)).mono ?_; rintro e w' ⟨rfl, hq⟩; (first | rw [HX.out] | rw [HY.out])))
  rename_i hh
  clear hc0 hc1 hbx
  obtain ⟨hc0, hc1, hbx⟩ := hh
  go_wp2_with fail
  refine (each_or n S x y _ hn1 hn x0 x1 y0 y1).mono ?_
  rintro e w2 ⟨rfl, hq⟩
  obtain ⟨hc0', hc1', hbx'⟩ := keepB ⟨hc0, hc1, hbx⟩ hq
  clear hc0 hc1 hbx hq
  go_wp2
  go_ret2
  exact ⟨rfl, below_box hbx'⟩

set_option maxHeartbeats 2000000 in
theorem rdo_xor (n : Nat) (S : Bool) (a b x y : Int) (w : World) (hn1 : 1 ≤ n) (hn : n ≤ 64) (hr : rt n S = true) (hx : normF n S a = x) (hy : normF n S b = y) (x0 : 0 ≤ x) (x1 : x < 18446744073709551616) (y0 : 0 ≤ y) (y1 : y < 18446744073709551616) (ha0 : 0 ≤ a) (ha1 : a < 18446744073709551616) (hb0 : 0 ≤ b) (hb1 : b < 18446744073709551616) :
    Calls Tryd.prog 24 #[.agg #[.int .i64 n, .bool S], .string ⟨#[94]⟩, .int .u64 a, .int .u64 b] w fun e w' => e = .returned (.tuple #[.int .u64 (valL (List.zipWith (· != ·) (bitsR x n) (bitsR y n))), .int .i64 0]) ∧ Below w.heap.size w w' := by
  have HX := Lib.hid hx
  have HY := Lib.hid hy
  clear hx hy
  go_enter Tryd.func24, Tryd.ntmps24
  go_wp2_with fail
  refine (rright_any _ _ _).mono ?_
  rintro e w1 ⟨rfl, hb⟩
  have hbx : Below (w.heap.size + 1) (w.alloc (.cells #[.int .i64 n, .bool S] 23)) w1 := by simpa using hb
  obtain ⟨hc0, hc1, hbx⟩ := keepB (start_box w n S) (by simpa using hb)
  clear hb
  go_wp2_with fail
  clear hr
  go_region_held3 (fun w' => w'.cell? ⟨w.heap.size, 0, none⟩ = some (.int .i64 n) ∧ w'.cell? ⟨w.heap.size, 1, none⟩ = some (.bool S) ∧ Below (w.heap.size + 1) (w.alloc (.cells #[.int .i64 n, .bool S] 23)) w') (first | exact ⟨hc0, hc1, hbx.drew⟩ | exact keepB (by assumption) hq)
    (first | (go_at_call 20; refine (rnorm_any _ _ _ _ (by assumption) (by assumption)).mono ?_; rintro e w' ⟨rfl, hq⟩; (first | rw [HX.out] | rw [HY.out])))
  rename_i hh
  clear hc0 hc1 hbx
  obtain ⟨hc0, hc1, hbx⟩ := hh
  go_wp2_with fail
  refine (each_xor n S x y _ hn1 hn x0 x1 y0 y1).mono ?_
  rintro e w2 ⟨rfl, hq⟩
  obtain ⟨hc0', hc1', hbx'⟩ := keepB ⟨hc0, hc1, hbx⟩ hq
  clear hc0 hc1 hbx hq
  go_wp2
  go_ret2
  exact ⟨rfl, below_box hbx'⟩

set_option maxHeartbeats 2000000 in
theorem rdo_add (n : Nat) (S : Bool) (a b x y : Int) (w : World) (_hn1 : 1 ≤ n) (_hn : n ≤ 64) (hr : rt n S = true) (hx : normF n S a = x) (hy : normF n S b = y) (_x0 : 0 ≤ x) (_x1 : x < 18446744073709551616) (_y0 : 0 ≤ y) (_y1 : y < 18446744073709551616) (ha0 : 0 ≤ a) (ha1 : a < 18446744073709551616) (hb0 : 0 ≤ b) (hb1 : b < 18446744073709551616) (hW : ((n : Int) == 1) = false) :
    Calls Tryd.prog 24 #[.agg #[.int .i64 n, .bool S], .string ⟨#[43]⟩, .int .u64 a, .int .u64 b] w fun e w' => e = .returned (.tuple #[.int .u64 (normF n S (IntKind.u64.wrap (x + y))), .int .i64 0]) ∧ Below w.heap.size w w' := by
  have HX := Lib.hid hx
  have HY := Lib.hid hy
  clear hx hy
  go_enter Tryd.func24, Tryd.ntmps24
  go_wp2_with fail
  refine (rright_any _ _ _).mono ?_
  rintro e w1 ⟨rfl, hb⟩
  have hbx : Below (w.heap.size + 1) (w.alloc (.cells #[.int .i64 n, .bool S] 23)) w1 := by simpa using hb
  obtain ⟨hc0, hc1, hbx⟩ := keepB (start_box w n S) (by simpa using hb)
  clear hb
  go_wp2_with fail
  clear hr
  go_region_held3 (fun w' => w'.cell? ⟨w.heap.size, 0, none⟩ = some (.int .i64 n) ∧ w'.cell? ⟨w.heap.size, 1, none⟩ = some (.bool S) ∧ Below (w.heap.size + 1) (w.alloc (.cells #[.int .i64 n, .bool S] 23)) w') (first | exact ⟨hc0, hc1, hbx.drew⟩ | exact keepB (by assumption) hq)
    (first | (go_at_call 20; refine (rnorm_any _ _ _ _ (by assumption) (by assumption)).mono ?_; rintro e w' ⟨rfl, hq⟩; (first | rw [HX.out] | rw [HY.out])))
  rename_i hh
  clear hc0 hc1 hbx
  obtain ⟨hc0, hc1, hbx⟩ := hh
  go_wp2_with fail
  refine (rnorm_any _ _ _ _ (u64_bd _).1 (u64_bd _).2).mono ?_
  rintro e w2 ⟨rfl, hq⟩
  obtain ⟨hc0', hc1', hbx'⟩ := keepB ⟨hc0, hc1, hbx⟩ hq
  clear hc0 hc1 hbx hq
  go_wp2
  go_ret2
  exact ⟨rfl, below_box hbx'⟩

set_option maxHeartbeats 2000000 in
theorem rdo_sub (n : Nat) (S : Bool) (a b x y : Int) (w : World) (_hn1 : 1 ≤ n) (_hn : n ≤ 64) (hr : rt n S = true) (hx : normF n S a = x) (hy : normF n S b = y) (_x0 : 0 ≤ x) (_x1 : x < 18446744073709551616) (_y0 : 0 ≤ y) (_y1 : y < 18446744073709551616) (ha0 : 0 ≤ a) (ha1 : a < 18446744073709551616) (hb0 : 0 ≤ b) (hb1 : b < 18446744073709551616) (hW : ((n : Int) == 1) = false) :
    Calls Tryd.prog 24 #[.agg #[.int .i64 n, .bool S], .string ⟨#[45]⟩, .int .u64 a, .int .u64 b] w fun e w' => e = .returned (.tuple #[.int .u64 (normF n S (IntKind.u64.wrap (x - y))), .int .i64 0]) ∧ Below w.heap.size w w' := by
  have HX := Lib.hid hx
  have HY := Lib.hid hy
  clear hx hy
  go_enter Tryd.func24, Tryd.ntmps24
  go_wp2_with fail
  refine (rright_any _ _ _).mono ?_
  rintro e w1 ⟨rfl, hb⟩
  have hbx : Below (w.heap.size + 1) (w.alloc (.cells #[.int .i64 n, .bool S] 23)) w1 := by simpa using hb
  obtain ⟨hc0, hc1, hbx⟩ := keepB (start_box w n S) (by simpa using hb)
  clear hb
  go_wp2_with fail
  clear hr
  go_region_held3 (fun w' => w'.cell? ⟨w.heap.size, 0, none⟩ = some (.int .i64 n) ∧ w'.cell? ⟨w.heap.size, 1, none⟩ = some (.bool S) ∧ Below (w.heap.size + 1) (w.alloc (.cells #[.int .i64 n, .bool S] 23)) w') (first | exact ⟨hc0, hc1, hbx.drew⟩ | exact keepB (by assumption) hq)
    (first | (go_at_call 20; refine (rnorm_any _ _ _ _ (by assumption) (by assumption)).mono ?_; rintro e w' ⟨rfl, hq⟩; (first | rw [HX.out] | rw [HY.out])))
  rename_i hh
  clear hc0 hc1 hbx
  obtain ⟨hc0, hc1, hbx⟩ := hh
  go_wp2_with fail
  refine (rnorm_any _ _ _ _ (u64_bd _).1 (u64_bd _).2).mono ?_
  rintro e w2 ⟨rfl, hq⟩
  obtain ⟨hc0', hc1', hbx'⟩ := keepB ⟨hc0, hc1, hbx⟩ hq
  clear hc0 hc1 hbx hq
  go_wp2
  go_ret2
  exact ⟨rfl, below_box hbx'⟩

set_option maxHeartbeats 2000000 in
theorem rdo_mul (n : Nat) (S : Bool) (a b x y : Int) (w : World) (_hn1 : 1 ≤ n) (_hn : n ≤ 64) (hr : rt n S = true) (hx : normF n S a = x) (hy : normF n S b = y) (_x0 : 0 ≤ x) (_x1 : x < 18446744073709551616) (_y0 : 0 ≤ y) (_y1 : y < 18446744073709551616) (ha0 : 0 ≤ a) (ha1 : a < 18446744073709551616) (hb0 : 0 ≤ b) (hb1 : b < 18446744073709551616) (hW : ((n : Int) == 1) = false) :
    Calls Tryd.prog 24 #[.agg #[.int .i64 n, .bool S], .string ⟨#[42]⟩, .int .u64 a, .int .u64 b] w fun e w' => e = .returned (.tuple #[.int .u64 (normF n S (IntKind.u64.wrap (x * y))), .int .i64 0]) ∧ Below w.heap.size w w' := by
  have HX := Lib.hid hx
  have HY := Lib.hid hy
  clear hx hy
  go_enter Tryd.func24, Tryd.ntmps24
  go_wp2_with fail
  refine (rright_any _ _ _).mono ?_
  rintro e w1 ⟨rfl, hb⟩
  have hbx : Below (w.heap.size + 1) (w.alloc (.cells #[.int .i64 n, .bool S] 23)) w1 := by simpa using hb
  obtain ⟨hc0, hc1, hbx⟩ := keepB (start_box w n S) (by simpa using hb)
  clear hb
  go_wp2_with fail
  clear hr
  go_region_held3 (fun w' => w'.cell? ⟨w.heap.size, 0, none⟩ = some (.int .i64 n) ∧ w'.cell? ⟨w.heap.size, 1, none⟩ = some (.bool S) ∧ Below (w.heap.size + 1) (w.alloc (.cells #[.int .i64 n, .bool S] 23)) w') (first | exact ⟨hc0, hc1, hbx.drew⟩ | exact keepB (by assumption) hq)
    (first | (go_at_call 20; refine (rnorm_any _ _ _ _ (by assumption) (by assumption)).mono ?_; rintro e w' ⟨rfl, hq⟩; (first | rw [HX.out] | rw [HY.out])))
  rename_i hh
  clear hc0 hc1 hbx
  obtain ⟨hc0, hc1, hbx⟩ := hh
  go_wp2_with fail
  refine (rnorm_any _ _ _ _ (u64_bd _).1 (u64_bd _).2).mono ?_
  rintro e w2 ⟨rfl, hq⟩
  obtain ⟨hc0', hc1', hbx'⟩ := keepB ⟨hc0, hc1, hbx⟩ hq
  clear hc0 hc1 hbx hq
  go_wp2
  go_ret2
  exact ⟨rfl, below_box hbx'⟩

set_option maxHeartbeats 2000000 in
theorem rdo_dz (n : Nat) (S : Bool) (a b x y : Int) (w : World) (_hn1 : 1 ≤ n) (_hn : n ≤ 64) (hr : rt n S = true) (hx : normF n S a = x) (hy : normF n S b = y) (_x0 : 0 ≤ x) (_x1 : x < 18446744073709551616) (_y0 : 0 ≤ y) (_y1 : y < 18446744073709551616) (ha0 : 0 ≤ a) (ha1 : a < 18446744073709551616) (hb0 : 0 ≤ b) (hb1 : b < 18446744073709551616) (hW : ((n : Int) == 1) = false) (hz : (y == 0) = true) :
    Calls Tryd.prog 24 #[.agg #[.int .i64 n, .bool S], .string ⟨#[47]⟩, .int .u64 a, .int .u64 b] w fun e w' => e = .returned (.tuple #[.int .u64 (0), .int .i64 11]) ∧ Below w.heap.size w w' := by
  have HX := Lib.hid hx
  have HY := Lib.hid hy
  clear hx hy
  go_enter Tryd.func24, Tryd.ntmps24
  go_wp2_with fail
  refine (rright_any _ _ _).mono ?_
  rintro e w1 ⟨rfl, hb⟩
  have hbx : Below (w.heap.size + 1) (w.alloc (.cells #[.int .i64 n, .bool S] 23)) w1 := by simpa using hb
  obtain ⟨hc0, hc1, hbx⟩ := keepB (start_box w n S) (by simpa using hb)
  clear hb
  go_wp2_with fail
  clear hr
  go_region_held3 (fun w' => w'.cell? ⟨w.heap.size, 0, none⟩ = some (.int .i64 n) ∧ w'.cell? ⟨w.heap.size, 1, none⟩ = some (.bool S) ∧ Below (w.heap.size + 1) (w.alloc (.cells #[.int .i64 n, .bool S] 23)) w') (first | exact ⟨hc0, hc1, hbx.drew⟩ | exact keepB (by assumption) hq)
    (first | (go_at_call 20; refine (rnorm_any _ _ _ _ (by assumption) (by assumption)).mono ?_; rintro e w' ⟨rfl, hq⟩; (first | rw [HX.out] | rw [HY.out])))
  rename_i hh
  clear hc0 hc1 hbx
  obtain ⟨hc0, hc1, hbx⟩ := hh
  go_wp2
  go_ret2
  exact ⟨rfl, below_box hbx⟩

set_option maxHeartbeats 2000000 in
theorem rdo_rz (n : Nat) (S : Bool) (a b x y : Int) (w : World) (_hn1 : 1 ≤ n) (_hn : n ≤ 64) (hr : rt n S = true) (hx : normF n S a = x) (hy : normF n S b = y) (_x0 : 0 ≤ x) (_x1 : x < 18446744073709551616) (_y0 : 0 ≤ y) (_y1 : y < 18446744073709551616) (ha0 : 0 ≤ a) (ha1 : a < 18446744073709551616) (hb0 : 0 ≤ b) (hb1 : b < 18446744073709551616) (hW : ((n : Int) == 1) = false) (hz : (y == 0) = true) :
    Calls Tryd.prog 24 #[.agg #[.int .i64 n, .bool S], .string ⟨#[37]⟩, .int .u64 a, .int .u64 b] w fun e w' => e = .returned (.tuple #[.int .u64 (0), .int .i64 11]) ∧ Below w.heap.size w w' := by
  have HX := Lib.hid hx
  have HY := Lib.hid hy
  clear hx hy
  go_enter Tryd.func24, Tryd.ntmps24
  go_wp2_with fail
  refine (rright_any _ _ _).mono ?_
  rintro e w1 ⟨rfl, hb⟩
  have hbx : Below (w.heap.size + 1) (w.alloc (.cells #[.int .i64 n, .bool S] 23)) w1 := by simpa using hb
  obtain ⟨hc0, hc1, hbx⟩ := keepB (start_box w n S) (by simpa using hb)
  clear hb
  go_wp2_with fail
  clear hr
  go_region_held3 (fun w' => w'.cell? ⟨w.heap.size, 0, none⟩ = some (.int .i64 n) ∧ w'.cell? ⟨w.heap.size, 1, none⟩ = some (.bool S) ∧ Below (w.heap.size + 1) (w.alloc (.cells #[.int .i64 n, .bool S] 23)) w') (first | exact ⟨hc0, hc1, hbx.drew⟩ | exact keepB (by assumption) hq)
    (first | (go_at_call 20; refine (rnorm_any _ _ _ _ (by assumption) (by assumption)).mono ?_; rintro e w' ⟨rfl, hq⟩; (first | rw [HX.out] | rw [HY.out])))
  rename_i hh
  clear hc0 hc1 hbx
  obtain ⟨hc0, hc1, hbx⟩ := hh
  go_wp2
  go_ret2
  exact ⟨rfl, below_box hbx⟩

set_option maxHeartbeats 2000000 in
theorem rdo_div (n : Nat) (S : Bool) (a b x y : Int) (w : World) (hn1 : 1 ≤ n) (hn : n ≤ 64) (hr : rt n S = true) (hx : normF n S a = x) (hy : normF n S b = y) (x0 : 0 ≤ x) (x1 : x < 18446744073709551616) (y0 : 0 ≤ y) (y1 : y < 18446744073709551616) (ha0 : 0 ≤ a) (ha1 : a < 18446744073709551616) (hb0 : 0 ≤ b) (hb1 : b < 18446744073709551616) (hW : ((n : Int) == 1) = false) (hz : (y == 0) = false) (hnz : 1 ≤ szF S y n) :
    Calls Tryd.prog 24 #[.agg #[.int .i64 n, .bool S], .string ⟨#[47]⟩, .int .u64 a, .int .u64 b] w fun e w' => e = .returned (.tuple #[.int .u64 (normF n S (qtF (sgn S x n) (sgn S y n) (szF S x n) (szF S y n))), .int .i64 0]) ∧ Below w.heap.size w w' := by
  have hbd : 0 ≤ qtF (sgn S x n) (sgn S y n) (szF S x n) (szF S y n) ∧ qtF (sgn S x n) (sgn S y n) (szF S x n) (szF S y n) < 18446744073709551616 := qt_bd hn hnz
  have HX := Lib.hid hx
  have HY := Lib.hid hy
  clear hx hy
  go_enter Tryd.func24, Tryd.ntmps24
  go_wp2_with fail
  refine (rright_any _ _ _).mono ?_
  rintro e w1 ⟨rfl, hb⟩
  have hbx : Below (w.heap.size + 1) (w.alloc (.cells #[.int .i64 n, .bool S] 23)) w1 := by simpa using hb
  obtain ⟨hc0, hc1, hbx⟩ := keepB (start_box w n S) (by simpa using hb)
  clear hb
  go_wp2_with fail
  clear hr
  go_region_held3 (fun w' => w'.cell? ⟨w.heap.size, 0, none⟩ = some (.int .i64 n) ∧ w'.cell? ⟨w.heap.size, 1, none⟩ = some (.bool S) ∧ Below (w.heap.size + 1) (w.alloc (.cells #[.int .i64 n, .bool S] 23)) w') (first | exact ⟨hc0, hc1, hbx.drew⟩ | exact keepB (by assumption) hq)
    (first | (go_at_call 20; refine (rnorm_any _ _ _ _ (by assumption) (by assumption)).mono ?_; rintro e w' ⟨rfl, hq⟩; (first | rw [HX.out] | rw [HY.out])))
  rename_i hh
  clear hc0 hc1 hbx
  obtain ⟨hc0, hc1, hbx⟩ := hh
  go_wp2_with fail
  refine (divide_any n S x y _ hn1 hn x0 x1 y0 y1 hnz).mono ?_
  rintro e w2 ⟨rfl, hq⟩
  obtain ⟨hc0', hc1', hbx'⟩ := keepB ⟨hc0, hc1, hbx⟩ hq
  clear hc0 hc1 hbx hq
  go_wp2_with fail
  refine (rnorm_any _ _ _ _ hbd.1 hbd.2).mono ?_
  rintro e w3 ⟨rfl, hq⟩
  obtain ⟨_, _, hb3⟩ := keepB ⟨hc0', hc1', hbx'⟩ hq
  clear hc0' hc1' hbx' hq
  go_wp2
  go_ret2
  exact ⟨rfl, below_box hb3⟩

set_option maxHeartbeats 2000000 in
theorem rdo_rem (n : Nat) (S : Bool) (a b x y : Int) (w : World) (hn1 : 1 ≤ n) (hn : n ≤ 64) (hr : rt n S = true) (hx : normF n S a = x) (hy : normF n S b = y) (x0 : 0 ≤ x) (x1 : x < 18446744073709551616) (y0 : 0 ≤ y) (y1 : y < 18446744073709551616) (ha0 : 0 ≤ a) (ha1 : a < 18446744073709551616) (hb0 : 0 ≤ b) (hb1 : b < 18446744073709551616) (hW : ((n : Int) == 1) = false) (hz : (y == 0) = false) (hnz : 1 ≤ szF S y n) :
    Calls Tryd.prog 24 #[.agg #[.int .i64 n, .bool S], .string ⟨#[37]⟩, .int .u64 a, .int .u64 b] w fun e w' => e = .returned (.tuple #[.int .u64 (normF n S (rsF (sgn S x n) (szF S x n) (szF S y n))), .int .i64 0]) ∧ Below w.heap.size w w' := by
  have hbd : 0 ≤ rsF (sgn S x n) (szF S x n) (szF S y n) ∧ rsF (sgn S x n) (szF S x n) (szF S y n) < 18446744073709551616 := rs_bd hn hnz
  have HX := Lib.hid hx
  have HY := Lib.hid hy
  clear hx hy
  go_enter Tryd.func24, Tryd.ntmps24
  go_wp2_with fail
  refine (rright_any _ _ _).mono ?_
  rintro e w1 ⟨rfl, hb⟩
  have hbx : Below (w.heap.size + 1) (w.alloc (.cells #[.int .i64 n, .bool S] 23)) w1 := by simpa using hb
  obtain ⟨hc0, hc1, hbx⟩ := keepB (start_box w n S) (by simpa using hb)
  clear hb
  go_wp2_with fail
  clear hr
  go_region_held3 (fun w' => w'.cell? ⟨w.heap.size, 0, none⟩ = some (.int .i64 n) ∧ w'.cell? ⟨w.heap.size, 1, none⟩ = some (.bool S) ∧ Below (w.heap.size + 1) (w.alloc (.cells #[.int .i64 n, .bool S] 23)) w') (first | exact ⟨hc0, hc1, hbx.drew⟩ | exact keepB (by assumption) hq)
    (first | (go_at_call 20; refine (rnorm_any _ _ _ _ (by assumption) (by assumption)).mono ?_; rintro e w' ⟨rfl, hq⟩; (first | rw [HX.out] | rw [HY.out])))
  rename_i hh
  clear hc0 hc1 hbx
  obtain ⟨hc0, hc1, hbx⟩ := hh
  go_wp2_with fail
  refine (divide_any n S x y _ hn1 hn x0 x1 y0 y1 hnz).mono ?_
  rintro e w2 ⟨rfl, hq⟩
  obtain ⟨hc0', hc1', hbx'⟩ := keepB ⟨hc0, hc1, hbx⟩ hq
  clear hc0 hc1 hbx hq
  go_wp2_with fail
  refine (rnorm_any _ _ _ _ hbd.1 hbd.2).mono ?_
  rintro e w3 ⟨rfl, hq⟩
  obtain ⟨_, _, hb3⟩ := keepB ⟨hc0', hc1', hbx'⟩ hq
  clear hc0' hc1' hbx' hq
  go_wp2
  go_ret2
  exact ⟨rfl, below_box hb3⟩

set_option maxHeartbeats 2000000 in
theorem rdo_shl (n : Nat) (S : Bool) (a b x y : Int) (w : World) (_hn1 : 1 ≤ n) (hn : n ≤ 64) (hr : rt n S = true) (hx : normF n S a = x) (hy : normF n S b = y) (x0 : 0 ≤ x) (x1 : x < 18446744073709551616) (y0 : 0 ≤ y) (y1 : y < 18446744073709551616) (ha0 : 0 ≤ a) (ha1 : a < 18446744073709551616) (hb0 : 0 ≤ b) (hb1 : b < 18446744073709551616) (hW : ((n : Int) == 1) = false) (hn2 : 1 < n) :
    Calls Tryd.prog 24 #[.agg #[.int .i64 n, .bool S], .string ⟨#[60, 60]⟩, .int .u64 a, .int .u64 b] w fun e w' => e = .returned (.tuple #[.int .u64 (normF n S (valL (SL (bitsR x n) n (min y.toNat 64)))), .int .i64 0]) ∧ Below w.heap.size w w' := by
  have hbd : 0 ≤ valL (SL (bitsR x n) n (min y.toNat 64)) ∧ valL (SL (bitsR x n) n (min y.toNat 64)) < 18446744073709551616 := val64 (by simp [SL_len, bits_len]; omega)
  have HX := Lib.hid hx
  have HY := Lib.hid hy
  clear hx hy
  go_enter Tryd.func24, Tryd.ntmps24
  go_wp2_with fail
  refine (rright_any _ _ _).mono ?_
  rintro e w1 ⟨rfl, hb⟩
  have hbx : Below (w.heap.size + 1) (w.alloc (.cells #[.int .i64 n, .bool S] 23)) w1 := by simpa using hb
  obtain ⟨hc0, hc1, hbx⟩ := keepB (start_box w n S) (by simpa using hb)
  clear hb
  go_wp2_with fail
  clear hr
  go_region_held3 (fun w' => w'.cell? ⟨w.heap.size, 0, none⟩ = some (.int .i64 n) ∧ w'.cell? ⟨w.heap.size, 1, none⟩ = some (.bool S) ∧ Below (w.heap.size + 1) (w.alloc (.cells #[.int .i64 n, .bool S] 23)) w') (first | exact ⟨hc0, hc1, hbx.drew⟩ | exact keepB (by assumption) hq)
    (first | (go_at_call 20; refine (rnorm_any _ _ _ _ (by assumption) (by assumption)).mono ?_; rintro e w' ⟨rfl, hq⟩; (first | rw [HX.out] | rw [HY.out])))
  rename_i hh
  clear hc0 hc1 hbx
  obtain ⟨hc0, hc1, hbx⟩ := hh
  go_wp2_with fail
  refine (shift_left n S x y (min y.toNat 64) _ hn2 hn x0 x1 y0 y1 rfl).mono ?_
  rintro e w2 ⟨rfl, hq⟩
  obtain ⟨hc0', hc1', hbx'⟩ := keepB ⟨hc0, hc1, hbx⟩ hq
  clear hc0 hc1 hbx hq
  go_wp2_with fail
  refine (rnorm_any _ _ _ _ hbd.1 hbd.2).mono ?_
  rintro e w3 ⟨rfl, hq⟩
  obtain ⟨_, _, hb3⟩ := keepB ⟨hc0', hc1', hbx'⟩ hq
  clear hc0' hc1' hbx' hq
  go_wp2
  go_ret2
  exact ⟨rfl, below_box hb3⟩

set_option maxHeartbeats 2000000 in
theorem rdo_shr (n : Nat) (S : Bool) (a b x y : Int) (w : World) (_hn1 : 1 ≤ n) (hn : n ≤ 64) (hr : rt n S = true) (hx : normF n S a = x) (hy : normF n S b = y) (x0 : 0 ≤ x) (x1 : x < 18446744073709551616) (y0 : 0 ≤ y) (y1 : y < 18446744073709551616) (ha0 : 0 ≤ a) (ha1 : a < 18446744073709551616) (hb0 : 0 ≤ b) (hb1 : b < 18446744073709551616) (hW : ((n : Int) == 1) = false) (hn2 : 1 < n) :
    Calls Tryd.prog 24 #[.agg #[.int .i64 n, .bool S], .string ⟨#[62, 62]⟩, .int .u64 a, .int .u64 b] w fun e w' => e = .returned (.tuple #[.int .u64 (normF n S (valL (SR (bitsR x n) (sgn S x n) (min y.toNat 64)))), .int .i64 0]) ∧ Below w.heap.size w w' := by
  have hbd : 0 ≤ valL (SR (bitsR x n) (sgn S x n) (min y.toNat 64)) ∧ valL (SR (bitsR x n) (sgn S x n) (min y.toNat 64)) < 18446744073709551616 := val64 (by simp [SR_len, bits_len]; omega)
  have HX := Lib.hid hx
  have HY := Lib.hid hy
  clear hx hy
  go_enter Tryd.func24, Tryd.ntmps24
  go_wp2_with fail
  refine (rright_any _ _ _).mono ?_
  rintro e w1 ⟨rfl, hb⟩
  have hbx : Below (w.heap.size + 1) (w.alloc (.cells #[.int .i64 n, .bool S] 23)) w1 := by simpa using hb
  obtain ⟨hc0, hc1, hbx⟩ := keepB (start_box w n S) (by simpa using hb)
  clear hb
  go_wp2_with fail
  clear hr
  go_region_held3 (fun w' => w'.cell? ⟨w.heap.size, 0, none⟩ = some (.int .i64 n) ∧ w'.cell? ⟨w.heap.size, 1, none⟩ = some (.bool S) ∧ Below (w.heap.size + 1) (w.alloc (.cells #[.int .i64 n, .bool S] 23)) w') (first | exact ⟨hc0, hc1, hbx.drew⟩ | exact keepB (by assumption) hq)
    (first | (go_at_call 20; refine (rnorm_any _ _ _ _ (by assumption) (by assumption)).mono ?_; rintro e w' ⟨rfl, hq⟩; (first | rw [HX.out] | rw [HY.out])))
  rename_i hh
  clear hc0 hc1 hbx
  obtain ⟨hc0, hc1, hbx⟩ := hh
  go_wp2_with fail
  refine (shift_right n S x y (min y.toNat 64) _ hn2 hn x0 x1 y0 y1 rfl).mono ?_
  rintro e w2 ⟨rfl, hq⟩
  obtain ⟨hc0', hc1', hbx'⟩ := keepB ⟨hc0, hc1, hbx⟩ hq
  clear hc0 hc1 hbx hq
  go_wp2_with fail
  refine (rnorm_any _ _ _ _ hbd.1 hbd.2).mono ?_
  rintro e w3 ⟨rfl, hq⟩
  obtain ⟨_, _, hb3⟩ := keepB ⟨hc0', hc1', hbx'⟩ hq
  clear hc0' hc1' hbx' hq
  go_wp2
  go_ret2
  exact ⟨rfl, below_box hb3⟩

set_option maxHeartbeats 2000000 in
theorem rdo_one (n : Nat) (S : Bool) (s : ByteArray) (a b x y : Int) (w : World) (_hn1 : 1 ≤ n) (_hn : n ≤ 64) (hr : rt n S = true) (hx : normF n S a = x) (hy : normF n S b = y) (_x0 : 0 ≤ x) (_x1 : x < 18446744073709551616) (_y0 : 0 ≤ y) (_y1 : y < 18446744073709551616) (ha0 : 0 ≤ a) (ha1 : a < 18446744073709551616) (hb0 : 0 ≤ b) (hb1 : b < 18446744073709551616) (hW : ((n : Int) == 1) = true) (h0 : s ≠ ⟨#[38]⟩) (h1 : s ≠ ⟨#[124]⟩) (h2 : s ≠ ⟨#[94]⟩) :
    Calls Tryd.prog 24 #[.agg #[.int .i64 n, .bool S], .string s, .int .u64 a, .int .u64 b] w fun e w' => e = .returned (.tuple #[.int .u64 (0), .int .i64 12]) ∧ Below w.heap.size w w' := by
  have m0 := lst_ne (l := [38]) h0
  have m1 := lst_ne (l := [124]) h1
  have m2 := lst_ne (l := [94]) h2
  clear h0 h1 h2
  have HX := Lib.hid hx
  have HY := Lib.hid hy
  clear hx hy
  go_enter Tryd.func24, Tryd.ntmps24
  go_wp2_with fail
  refine (rright_any _ _ _).mono ?_
  rintro e w1 ⟨rfl, hb⟩
  have hbx : Below (w.heap.size + 1) (w.alloc (.cells #[.int .i64 n, .bool S] 23)) w1 := by simpa using hb
  obtain ⟨hc0, hc1, hbx⟩ := keepB (start_box w n S) (by simpa using hb)
  clear hb
  go_wp2_with fail
  clear hr
  go_region_held3 (fun w' => w'.cell? ⟨w.heap.size, 0, none⟩ = some (.int .i64 n) ∧ w'.cell? ⟨w.heap.size, 1, none⟩ = some (.bool S) ∧ Below (w.heap.size + 1) (w.alloc (.cells #[.int .i64 n, .bool S] 23)) w') (first | exact ⟨hc0, hc1, hbx.drew⟩ | exact keepB (by assumption) hq)
    (first | (go_at_call 20; refine (rnorm_any _ _ _ _ (by assumption) (by assumption)).mono ?_; rintro e w' ⟨rfl, hq⟩; (first | rw [HX.out] | rw [HY.out])))
  rename_i hh
  clear hc0 hc1 hbx
  obtain ⟨hc0, hc1, hbx⟩ := hh
  go_wp2
  go_ret2
  exact ⟨rfl, below_box hbx⟩

set_option maxHeartbeats 2000000 in
theorem rdo_other (n : Nat) (S : Bool) (s : ByteArray) (a b x y : Int) (w : World) (_hn1 : 1 ≤ n) (_hn : n ≤ 64) (hr : rt n S = true) (hx : normF n S a = x) (hy : normF n S b = y) (_x0 : 0 ≤ x) (_x1 : x < 18446744073709551616) (_y0 : 0 ≤ y) (_y1 : y < 18446744073709551616) (ha0 : 0 ≤ a) (ha1 : a < 18446744073709551616) (hb0 : 0 ≤ b) (hb1 : b < 18446744073709551616) (hW : ((n : Int) == 1) = false) (h0 : s ≠ ⟨#[38]⟩) (h1 : s ≠ ⟨#[124]⟩) (h2 : s ≠ ⟨#[94]⟩) (h3 : s ≠ ⟨#[43]⟩) (h4 : s ≠ ⟨#[45]⟩) (h5 : s ≠ ⟨#[42]⟩) (h6 : s ≠ ⟨#[47]⟩) (h7 : s ≠ ⟨#[37]⟩) (h8 : s ≠ ⟨#[60, 60]⟩) (h9 : s ≠ ⟨#[62, 62]⟩) :
    Calls Tryd.prog 24 #[.agg #[.int .i64 n, .bool S], .string s, .int .u64 a, .int .u64 b] w fun e w' => e = .returned (.tuple #[.int .u64 (0), .int .i64 12]) ∧ Below w.heap.size w w' := by
  have m0 := lst_ne (l := [38]) h0
  have m1 := lst_ne (l := [124]) h1
  have m2 := lst_ne (l := [94]) h2
  have m3 := lst_ne (l := [43]) h3
  have m4 := lst_ne (l := [45]) h4
  have m5 := lst_ne (l := [42]) h5
  have m6 := lst_ne (l := [47]) h6
  have m7 := lst_ne (l := [37]) h7
  have m8 := lst_ne (l := [60, 60]) h8
  have m9 := lst_ne (l := [62, 62]) h9
  clear h0 h1 h2 h3 h4 h5 h6 h7 h8 h9
  have HX := Lib.hid hx
  have HY := Lib.hid hy
  clear hx hy
  go_enter Tryd.func24, Tryd.ntmps24
  go_wp2_with fail
  refine (rright_any _ _ _).mono ?_
  rintro e w1 ⟨rfl, hb⟩
  have hbx : Below (w.heap.size + 1) (w.alloc (.cells #[.int .i64 n, .bool S] 23)) w1 := by simpa using hb
  obtain ⟨hc0, hc1, hbx⟩ := keepB (start_box w n S) (by simpa using hb)
  clear hb
  go_wp2_with fail
  clear hr
  go_region_held3 (fun w' => w'.cell? ⟨w.heap.size, 0, none⟩ = some (.int .i64 n) ∧ w'.cell? ⟨w.heap.size, 1, none⟩ = some (.bool S) ∧ Below (w.heap.size + 1) (w.alloc (.cells #[.int .i64 n, .bool S] 23)) w') (first | exact ⟨hc0, hc1, hbx.drew⟩ | exact keepB (by assumption) hq)
    (first | (go_at_call 20; refine (rnorm_any _ _ _ _ (by assumption) (by assumption)).mono ?_; rintro e w' ⟨rfl, hq⟩; (first | rw [HX.out] | rw [HY.out])))
  rename_i hh
  clear hc0 hc1 hbx
  obtain ⟨hc0, hc1, hbx⟩ := hh
  go_wp2
  go_ret2
  exact ⟨rfl, below_box hbx⟩

set_option maxHeartbeats 400000 in
theorem rdo_type (W : Int) (S : Bool) (s : ByteArray) (a b : Int) (w : World) (hr : rt W S = false) :
    Calls Tryd.prog 24 #[.agg #[.int .i64 W, .bool S], .string s, .int .u64 a, .int .u64 b] w fun e w' => e = .returned (.tuple #[.int .u64 0, .int .i64 10]) ∧ Below w.heap.size w w' := by
  go_enter Tryd.func24, Tryd.ntmps24
  go_wp2_with fail
  refine (rright_any _ _ _).mono ?_
  rintro e w1 ⟨rfl, hb⟩
  have hb' := below_box (by simpa using hb)
  clear hb
  go_wp2
  go_ret2
  exact ⟨rfl, hb'⟩
end Go.Proofs.YtpfdbigdkegncaaDoor
