/- The contracts of word's Right, low, stands, Norm, Int, Cast. -/
import Derived.Test.YtpfdbigdkegncaaDoorA
namespace Go.Proofs.YtpfdbigdkegncaaDoor
open Go.RowKit

def rt (W : Int) (S : Bool) : Bool := (W == 1 && !S) || W == 8 || W == 16 || W == 32 || W == 64
theorem rt_cases {W : Int} {S : Bool} (h : rt W S = true) : (W = 1 ∧ S = false) ∨ W = 8 ∨ W = 16 ∨ W = 32 ∨ W = 64 := by
  simp [rt] at h
  cases S <;> simp_all <;> omega
theorem name_rt (W : Int) (S : Bool) : (!(nameOf W S).toList.isEmpty) = rt W S := by
  by_cases h1 : W = 1
  · subst h1; cases S <;> decide +kernel
  by_cases h2 : W = 8
  · subst h2; cases S <;> decide +kernel
  by_cases h3 : W = 16
  · subst h3; cases S <;> decide +kernel
  by_cases h4 : W = 32
  · subst h4; cases S <;> decide +kernel
  by_cases h5 : W = 64
  · subst h5; cases S <;> decide +kernel
  have e : nameOf W S = ⟨#[]⟩ := by
    simp [nameOf, nameFrom, tabL, Ne.symm h1, Ne.symm h2, Ne.symm h3, Ne.symm h4, Ne.symm h5]
  have e2 : rt W S = false := by simp [rt, h1, h2, h3, h4, h5]
  rw [e, e2]
  decide +kernel
theorem ret_bool {a b : Bool} (h : a = b) : Ending.returned (.bool a) = .returned (.bool b) := by rw [h]
theorem ret_int {k : IntKind} {a b : Int} (h : a = b) : Ending.returned (.int k a) = .returned (.int k b) := by rw [h]

set_option maxHeartbeats 400000 in
theorem right_any (W : Int) (S : Bool) (w : World) (ht : Tab w) :
    Calls Tryd.prog 17 #[.agg #[.int .i64 W, .bool S]] w fun e w' => e = .returned (.bool (rt W S)) ∧ Below w.heap.size w w' := by
  have ht1 := ht.alloc (.cells #[.int .i64 W, .bool S] 23)
  go_enter Tryd.func17, Tryd.ntmps17
  go_wp2_with fail
  refine (name_any _ _ _ ht1).mono ?_
  rintro e w1 ⟨rfl, hb⟩
  have hb' := below_box (by simpa using hb)
  generalize hx : nameOf W S = x at *
  have Hx := Lib.hid hx
  clear hx hb ht1
  go_wp2
  go_ret
  exact ⟨ret_bool (by rw [← Hx.out]; exact name_rt W S), hb'⟩

def lowF (W v : Int) : Int := v % 2 ^ W.toNat
theorem u64_wrap (n : Int) : IntKind.u64.wrap n = n % 18446744073709551616 := by
  simp [IntKind.wrap, IntKind.signed, IntKind.bits]
theorem wrap64_val (n : Int) : RowKit.wrap64 n = (n + 9223372036854775808) % 18446744073709551616 - 9223372036854775808 := by
  unfold RowKit.wrap64
  first | rfl | omega
theorem low_eq {W v : Int} (h : W = 1 ∨ W = 8 ∨ W = 16 ∨ W = 32 ∨ W = 64) (_hv : 0 ≤ v) (_hv1 : v < 18446744073709551616) : IntKind.u64.wrap (v * 2 ^ (64 - W).toNat) / 2 ^ (64 - W).toNat = lowF W v := by
  rw [u64_wrap]
  unfold lowF
  rcases h with rfl | rfl | rfl | rfl | rfl
  · show v * 2 ^ 63 % 18446744073709551616 / 2 ^ 63 = v % 2 ^ 1
    omega
  · show v * 2 ^ 56 % 18446744073709551616 / 2 ^ 56 = v % 2 ^ 8
    omega
  · show v * 2 ^ 48 % 18446744073709551616 / 2 ^ 48 = v % 2 ^ 16
    omega
  · show v * 2 ^ 32 % 18446744073709551616 / 2 ^ 32 = v % 2 ^ 32
    omega
  · show v * 2 ^ 0 % 18446744073709551616 / 2 ^ 0 = v % 2 ^ 64
    omega
/-- What a value stands for: two's complement; without a sign as 64 bits with a sign. -/
def stF (W : Int) (S : Bool) (v : Int) : Int := if S then (v + 2 ^ (W.toNat - 1)) % 2 ^ W.toNat - 2 ^ (W.toNat - 1) else RowKit.wrap64 (lowF W v)
theorem st_eq {W v : Int} (h : W = 1 ∨ W = 8 ∨ W = 16 ∨ W = 32 ∨ W = 64) (_hv : 0 ≤ v) (_hv1 : v < 18446744073709551616) : RowKit.wrap64 (IntKind.u64.wrap (v * 2 ^ (64 - W).toNat)) / 2 ^ (64 - W).toNat = stF W true v := by
  rw [u64_wrap, wrap64_val]
  unfold stF
  rw [if_pos rfl]
  rcases h with rfl | rfl | rfl | rfl | rfl
  · show ((v * 2 ^ 63 % 18446744073709551616 + 9223372036854775808) % 18446744073709551616 - 9223372036854775808) / 2 ^ 63 = (v + 2 ^ 0) % 2 ^ 1 - 2 ^ 0
    omega
  · show ((v * 2 ^ 56 % 18446744073709551616 + 9223372036854775808) % 18446744073709551616 - 9223372036854775808) / 2 ^ 56 = (v + 2 ^ 7) % 2 ^ 8 - 2 ^ 7
    omega
  · show ((v * 2 ^ 48 % 18446744073709551616 + 9223372036854775808) % 18446744073709551616 - 9223372036854775808) / 2 ^ 48 = (v + 2 ^ 15) % 2 ^ 16 - 2 ^ 15
    omega
  · show ((v * 2 ^ 32 % 18446744073709551616 + 9223372036854775808) % 18446744073709551616 - 9223372036854775808) / 2 ^ 32 = (v + 2 ^ 31) % 2 ^ 32 - 2 ^ 31
    omega
  · show ((v * 2 ^ 0 % 18446744073709551616 + 9223372036854775808) % 18446744073709551616 - 9223372036854775808) / 2 ^ 0 = (v + 2 ^ 63) % 2 ^ 64 - 2 ^ 63
    omega
theorem rt_w {W : Int} {S : Bool} (h : rt W S = true) : W = 1 ∨ W = 8 ∨ W = 16 ∨ W = 32 ∨ W = 64 := by have := rt_cases h; omega

set_option maxHeartbeats 400000 in
theorem low_any (W : Int) (S : Bool) (v : Int) (w : World) (h : rt W S = true) (hv0 : 0 ≤ v) (hv1 : v < 18446744073709551616) :
    Calls Tryd.prog 32 #[.agg #[.int .i64 W, .bool S], .int .u64 v] w fun e w' => e = .returned (.int .u64 (lowF W v)) ∧ Below w.heap.size w w' := by
  have h0 : 1 ≤ W := by have := rt_cases h; omega
  have h1 : W ≤ 64 := by have := rt_cases h; omega
  have H := Lib.hid h
  clear h
  go_enter Tryd.func32, Tryd.ntmps32
  go_wp2
  go_ret
  exact ⟨ret_int (low_eq (rt_w H.out) hv0 hv1), (Below.refl _ _).alloc (Nat.le_refl _) _⟩

set_option maxHeartbeats 400000 in
theorem stands_any (W : Int) (S : Bool) (v : Int) (w : World) (h : rt W S = true) (hv0 : 0 ≤ v) (hv1 : v < 18446744073709551616) :
    Calls Tryd.prog 35 #[.agg #[.int .i64 W, .bool S], .int .u64 v] w fun e w' => e = .returned (.int .i64 (stF W S v)) ∧ Below w.heap.size w w' := by
  have h0 : 1 ≤ W := by have := rt_cases h; omega
  have h1 : W ≤ 64 := by have := rt_cases h; omega
  have H := Lib.hid h
  clear h
  cases S
  · go_enter Tryd.func35, Tryd.ntmps35
    go_wp2_with fail
    refine (low_any _ _ _ _ H.out hv0 hv1).mono ?_
    rintro e w1 ⟨rfl, hb⟩
    have hb' := below_box (by simpa using hb)
    clear hb
    go_wp2
    go_ret
    exact ⟨rfl, hb'⟩
  · go_enter Tryd.func35, Tryd.ntmps35
    go_wp2
    go_ret
    exact ⟨ret_int (st_eq (rt_w H.out) hv0 hv1), (Below.refl _ _).alloc (Nat.le_refl _) _⟩

theorem low_lt {W v : Int} {S : Bool} (h : rt W S = true) : 0 ≤ lowF W v ∧ lowF W v < 18446744073709551616 := by
  unfold lowF
  rcases rt_w h with rfl | rfl | rfl | rfl | rfl
  · show 0 ≤ v % 2 ^ 1 ∧ v % 2 ^ 1 < _
    omega
  · show 0 ≤ v % 2 ^ 8 ∧ v % 2 ^ 8 < _
    omega
  · show 0 ≤ v % 2 ^ 16 ∧ v % 2 ^ 16 < _
    omega
  · show 0 ≤ v % 2 ^ 32 ∧ v % 2 ^ 32 < _
    omega
  · show 0 ≤ v % 2 ^ 64 ∧ v % 2 ^ 64 < _
    omega

def normF (W : Int) (S : Bool) (v : Int) : Int := if rt W S then lowF W v else 0
def intF (W : Int) (S : Bool) (v : Int) : Int := if rt W S then stF W S v else 0

set_option maxHeartbeats 400000 in
theorem norm_any (W : Int) (S : Bool) (v : Int) (w : World) (ht : Tab w) (hv0 : 0 ≤ v) (hv1 : v < 18446744073709551616) :
    Calls Tryd.prog 19 #[.agg #[.int .i64 W, .bool S], .int .u64 v] w fun e w' => e = .returned (.int .u64 (normF W S v)) ∧ Below w.heap.size w w' := by
  have ht1 := ht.alloc (.cells #[.int .i64 W, .bool S] 23)
  go_enter Tryd.func19, Tryd.ntmps19
  go_wp2_with fail
  refine (right_any _ _ _ ht1).mono ?_
  rintro e w1 ⟨rfl, hb⟩
  have hc0 : w1.cell? ⟨w.heap.size, 0, none⟩ = some (.int .i64 W) := (hb.cell (p := ⟨w.heap.size, 0, none⟩) (by simp)).trans (by simp [go_sem])
  have hc1 : w1.cell? ⟨w.heap.size, 1, none⟩ = some (.bool S) := (hb.cell (p := ⟨w.heap.size, 1, none⟩) (by simp)).trans (by simp [go_sem])
  have hb' := below_box (by simpa using hb)
  clear hb ht1
  by_cases hr : rt W S = true
  · have e1 : normF W S v = lowF W v := if_pos hr
    have E1 := Lib.hid e1
    have HR := Lib.hid hr
    clear e1
    go_wp2_with fail
    refine (low_any _ _ _ _ HR.out hv0 hv1).mono ?_
    rintro e w2 ⟨rfl, hb2⟩
    clear hc0 hc1
    go_wp2
    go_ret
    exact ⟨ret_int E1.out.symm, hb'.trans (hb2.mono hb'.size)⟩
  · have hr' : rt W S = false := by simpa using hr
    have e1 : normF W S v = 0 := if_neg hr
    have E1 := Lib.hid e1
    clear e1 hr
    go_wp2
    go_ret
    exact ⟨ret_int E1.out.symm, hb'⟩

set_option maxHeartbeats 400000 in
theorem int_any (W : Int) (S : Bool) (v : Int) (w : World) (ht : Tab w) (hv0 : 0 ≤ v) (hv1 : v < 18446744073709551616) :
    Calls Tryd.prog 21 #[.agg #[.int .i64 W, .bool S], .int .u64 v] w fun e w' => e = .returned (.int .i64 (intF W S v)) ∧ Below w.heap.size w w' := by
  have ht1 := ht.alloc (.cells #[.int .i64 W, .bool S] 23)
  go_enter Tryd.func21, Tryd.ntmps21
  go_wp2_with fail
  refine (right_any _ _ _ ht1).mono ?_
  rintro e w1 ⟨rfl, hb⟩
  have hc0 : w1.cell? ⟨w.heap.size, 0, none⟩ = some (.int .i64 W) := (hb.cell (p := ⟨w.heap.size, 0, none⟩) (by simp)).trans (by simp [go_sem])
  have hc1 : w1.cell? ⟨w.heap.size, 1, none⟩ = some (.bool S) := (hb.cell (p := ⟨w.heap.size, 1, none⟩) (by simp)).trans (by simp [go_sem])
  have hb' := below_box (by simpa using hb)
  clear hb ht1
  by_cases hr : rt W S = true
  · have e1 : intF W S v = stF W S v := if_pos hr
    have E1 := Lib.hid e1
    have HR := Lib.hid hr
    clear e1
    go_wp2_with fail
    refine (stands_any _ _ _ _ HR.out hv0 hv1).mono ?_
    rintro e w2 ⟨rfl, hb2⟩
    clear hc0 hc1
    go_wp2
    go_ret
    exact ⟨ret_int E1.out.symm, hb'.trans (hb2.mono hb'.size)⟩
  · have hr' : rt W S = false := by simpa using hr
    have e1 : intF W S v = 0 := if_neg hr
    have E1 := Lib.hid e1
    clear e1 hr
    go_wp2
    go_ret
    exact ⟨ret_int E1.out.symm, hb'⟩
end Go.Proofs.YtpfdbigdkegncaaDoor
