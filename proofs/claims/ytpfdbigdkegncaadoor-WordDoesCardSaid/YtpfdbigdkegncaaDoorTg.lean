/- The contract of skuaref01's Test, whole; the law WordTests: its walk. -/
import Derived.Test.YtpfdbigdkegncaaDoorTf
import Derived.Test.YtpfdbigdkegncaaDoorS
namespace Go.Proofs.YtpfdbigdkegncaaDoor
open Go.RowKit

/-- Bit by bit, without a sign. -/
theorem lessL_u (n : Nat) (xs ys : List Bool) (hx : xs.length = n) (hy : ys.length = n) : ∀ k, k ≤ n → lessL false n xs ys k = decide (valL (xs.take k) < valL (ys.take k))
  | 0, _ => by simp [lessL, valL]
  | k + 1, hk => by
    have ih := lessL_u n xs ys hx hy k (by omega)
    have kx : k < xs.length := by omega
    have ky : k < ys.length := by omega
    rw [lessL, ih, List.take_succ_eq_append_getElem kx, List.take_succ_eq_append_getElem ky, val_app, val_app, List.length_take, List.length_take, Nat.min_eq_left (by omega), Nat.min_eq_left (by omega)]
    have bx := val_bd (xs.take k)
    have by_ := val_bd (ys.take k)
    rw [List.length_take, Nat.min_eq_left (by omega)] at bx by_
    rw [List.getD_eq_getElem?_getD, List.getD_eq_getElem?_getD, List.getElem?_eq_getElem kx, List.getElem?_eq_getElem ky]
    simp only [Option.getD_some, valL]
    generalize (2 : Int) ^ k = P at *
    generalize valL (xs.take k) = X at *
    generalize valL (ys.take k) = Y at *
    cases xs[k] <;> cases ys[k] <;> simp <;> omega
/-- Below the sign's bit the sign doesn't matter. -/
theorem lessL_s (n : Nat) (xs ys : List Bool) : ∀ k, k < n → lessL true n xs ys k = lessL false n xs ys k
  | 0, _ => rfl
  | k + 1, hk => by
    have ih := lessL_s n xs ys k (by omega)
    rw [lessL, lessL, ih]
    have : (k == n - 1) = false := by rw [beq_eq_false_iff_ne]; omega
    simp [this]
theorem lessL_val {W : Int} {S : Bool} {n : Nat} (hr : rt W S = true) (hW : W = n) (hn : 1 < n) (a b : Int) : lessL S n (bitsR a n) (bitsR b n) n = lessF W S (lowF W a) (lowF W b) := by
  have la : (bitsR a n).length = n := bits_len a n
  have lb : (bitsR b n).length = n := bits_len b n
  have ha : valL (bitsR a n) = lowF W a := by rw [val_bits, hW]; rfl
  have hb : valL (bitsR b n) = lowF W b := by rw [val_bits, hW]; rfl
  cases S
  · rw [lessL_u n _ _ la lb n (Nat.le_refl _), List.take_of_length_le (by omega), List.take_of_length_le (by omega), ha, hb]
    rfl
  · obtain ⟨m, rfl⟩ : ∃ m, n = m + 1 := ⟨n - 1, by omega⟩
    rw [lessL, lessL_s (m + 1) _ _ m (by omega), lessL_u (m + 1) _ _ la lb m (by omega)]
    have ta : (bitsR a (m + 1)).take m = bitsR a m := by rw [bits_snoc, List.take_left' (bits_len a m)]
    have tb : (bitsR b (m + 1)).take m = bitsR b m := by rw [bits_snoc, List.take_left' (bits_len b m)]
    have da : (bitsR a (m + 1)).getD m false = (a / 2 ^ m % 2 == 1) := by rw [bits_snoc]; simp [List.getD_eq_getElem?_getD, bits_len]
    have db : (bitsR b (m + 1)).getD m false = (b / 2 ^ m % 2 == 1) := by rw [bits_snoc]; simp [List.getD_eq_getElem?_getD, bits_len]
    rw [ta, tb, da, db, val_bits, val_bits]
    have e1 : (m == m + 1 - 1) = true := by simp
    rw [e1]
    have e2 : lessF W true (lowF W a) (lowF W b) = decide (stF W true (lowF W a) < stF W true (lowF W b)) := rfl
    rw [e2]
    unfold stF lowF
    rw [if_pos rfl, if_pos rfl]
    have hm : m = 7 ∨ m = 15 ∨ m = 31 ∨ m = 63 := by
      rcases rt_cases hr with ⟨_, h⟩ | h
      · cases h
      · omega
    subst hW
    rcases hm with rfl | rfl | rfl | rfl
    · show (if (a / 2 ^ 7 % 2 == 1) = (b / 2 ^ 7 % 2 == 1) then decide (a % 2 ^ 7 < b % 2 ^ 7) else ((b / 2 ^ 7 % 2 == 1) != true)) = decide ((a % 2 ^ 8 + 2 ^ 7) % 2 ^ 8 - 2 ^ 7 < (b % 2 ^ 8 + 2 ^ 7) % 2 ^ 8 - 2 ^ 7)
      by_cases h1 : a / 2 ^ 7 % 2 = 1
      · have e3 : (a / 2 ^ 7 % 2 == 1) = true := by simpa using h1
        by_cases h2 : b / 2 ^ 7 % 2 = 1
        · have e4 : (b / 2 ^ 7 % 2 == 1) = true := by simpa using h2
          rw [e3, e4, if_pos rfl, decide_eq_decide]
          omega
        · have e4 : (b / 2 ^ 7 % 2 == 1) = false := by simpa using h2
          rw [e3, e4, if_neg (by decide)]
          refine Eq.symm (decide_eq_true ?_)
          omega
      · have e3 : (a / 2 ^ 7 % 2 == 1) = false := by simpa using h1
        by_cases h2 : b / 2 ^ 7 % 2 = 1
        · have e4 : (b / 2 ^ 7 % 2 == 1) = true := by simpa using h2
          rw [e3, e4, if_neg (by decide)]
          refine Eq.symm (decide_eq_false ?_)
          omega
        · have e4 : (b / 2 ^ 7 % 2 == 1) = false := by simpa using h2
          rw [e3, e4, if_pos rfl, decide_eq_decide]
          omega
    · show (if (a / 2 ^ 15 % 2 == 1) = (b / 2 ^ 15 % 2 == 1) then decide (a % 2 ^ 15 < b % 2 ^ 15) else ((b / 2 ^ 15 % 2 == 1) != true)) = decide ((a % 2 ^ 16 + 2 ^ 15) % 2 ^ 16 - 2 ^ 15 < (b % 2 ^ 16 + 2 ^ 15) % 2 ^ 16 - 2 ^ 15)
      by_cases h1 : a / 2 ^ 15 % 2 = 1
      · have e3 : (a / 2 ^ 15 % 2 == 1) = true := by simpa using h1
        by_cases h2 : b / 2 ^ 15 % 2 = 1
        · have e4 : (b / 2 ^ 15 % 2 == 1) = true := by simpa using h2
          rw [e3, e4, if_pos rfl, decide_eq_decide]
          omega
        · have e4 : (b / 2 ^ 15 % 2 == 1) = false := by simpa using h2
          rw [e3, e4, if_neg (by decide)]
          refine Eq.symm (decide_eq_true ?_)
          omega
      · have e3 : (a / 2 ^ 15 % 2 == 1) = false := by simpa using h1
        by_cases h2 : b / 2 ^ 15 % 2 = 1
        · have e4 : (b / 2 ^ 15 % 2 == 1) = true := by simpa using h2
          rw [e3, e4, if_neg (by decide)]
          refine Eq.symm (decide_eq_false ?_)
          omega
        · have e4 : (b / 2 ^ 15 % 2 == 1) = false := by simpa using h2
          rw [e3, e4, if_pos rfl, decide_eq_decide]
          omega
    · show (if (a / 2 ^ 31 % 2 == 1) = (b / 2 ^ 31 % 2 == 1) then decide (a % 2 ^ 31 < b % 2 ^ 31) else ((b / 2 ^ 31 % 2 == 1) != true)) = decide ((a % 2 ^ 32 + 2 ^ 31) % 2 ^ 32 - 2 ^ 31 < (b % 2 ^ 32 + 2 ^ 31) % 2 ^ 32 - 2 ^ 31)
      by_cases h1 : a / 2 ^ 31 % 2 = 1
      · have e3 : (a / 2 ^ 31 % 2 == 1) = true := by simpa using h1
        by_cases h2 : b / 2 ^ 31 % 2 = 1
        · have e4 : (b / 2 ^ 31 % 2 == 1) = true := by simpa using h2
          rw [e3, e4, if_pos rfl, decide_eq_decide]
          omega
        · have e4 : (b / 2 ^ 31 % 2 == 1) = false := by simpa using h2
          rw [e3, e4, if_neg (by decide)]
          refine Eq.symm (decide_eq_true ?_)
          omega
      · have e3 : (a / 2 ^ 31 % 2 == 1) = false := by simpa using h1
        by_cases h2 : b / 2 ^ 31 % 2 = 1
        · have e4 : (b / 2 ^ 31 % 2 == 1) = true := by simpa using h2
          rw [e3, e4, if_neg (by decide)]
          refine Eq.symm (decide_eq_false ?_)
          omega
        · have e4 : (b / 2 ^ 31 % 2 == 1) = false := by simpa using h2
          rw [e3, e4, if_pos rfl, decide_eq_decide]
          omega
    · show (if (a / 2 ^ 63 % 2 == 1) = (b / 2 ^ 63 % 2 == 1) then decide (a % 2 ^ 63 < b % 2 ^ 63) else ((b / 2 ^ 63 % 2 == 1) != true)) = decide ((a % 2 ^ 64 + 2 ^ 63) % 2 ^ 64 - 2 ^ 63 < (b % 2 ^ 64 + 2 ^ 63) % 2 ^ 64 - 2 ^ 63)
      by_cases h1 : a / 2 ^ 63 % 2 = 1
      · have e3 : (a / 2 ^ 63 % 2 == 1) = true := by simpa using h1
        by_cases h2 : b / 2 ^ 63 % 2 = 1
        · have e4 : (b / 2 ^ 63 % 2 == 1) = true := by simpa using h2
          rw [e3, e4, if_pos rfl, decide_eq_decide]
          omega
        · have e4 : (b / 2 ^ 63 % 2 == 1) = false := by simpa using h2
          rw [e3, e4, if_neg (by decide)]
          refine Eq.symm (decide_eq_true ?_)
          omega
      · have e3 : (a / 2 ^ 63 % 2 == 1) = false := by simpa using h1
        by_cases h2 : b / 2 ^ 63 % 2 = 1
        · have e4 : (b / 2 ^ 63 % 2 == 1) = true := by simpa using h2
          rw [e3, e4, if_neg (by decide)]
          refine Eq.symm (decide_eq_false ?_)
          omega
        · have e4 : (b / 2 ^ 63 % 2 == 1) = false := by simpa using h2
          rw [e3, e4, if_pos rfl, decide_eq_decide]
          omega
/-- The document's comparison is the program's. -/
theorem cmp_val {W : Int} {S : Bool} {n : Nat} (hr : rt W S = true) (hW : W = n) (hn : 1 < n) (a b : Int) (s : ByteArray) (hs : s = ⟨#[60]⟩ ∨ s = ⟨#[60, 61]⟩ ∨ s = ⟨#[62]⟩ ∨ s = ⟨#[62, 61]⟩) :
    cmpR s (lessL S n (bitsR a n) (bitsR b n) n) (normF W S a == normF W S b) = tsF W S s (lowF W a) (lowF W b) := by
  have ea : normF W S a = lowF W a := if_pos hr
  have eb : normF W S b = lowF W b := if_pos hr
  rw [lessL_val hr hW hn, ea, eb]
  have ht := less_tri W S (lowF W a) (lowF W b) hr (low_low hr) (low_low hr)
  rcases hs with rfl | rfl | rfl | rfl
  · rfl
  · show (lessF W S (lowF W a) (lowF W b) || (lowF W a == lowF W b)) = !lessF W S (lowF W b) (lowF W a)
    rcases ht with ⟨h1, h2, h3⟩ | ⟨h1, h2, h3⟩ | ⟨h1, h2, h3⟩ <;> rw [h1, h2, h3] <;> rfl
  · show (!lessF W S (lowF W a) (lowF W b) && !(lowF W a == lowF W b)) = lessF W S (lowF W b) (lowF W a)
    rcases ht with ⟨h1, h2, h3⟩ | ⟨h1, h2, h3⟩ | ⟨h1, h2, h3⟩ <;> rw [h1, h2, h3] <;> rfl
  · rfl

set_option maxHeartbeats 1000000 in
theorem rtest_eq (W : Int) (S : Bool) (a b : Int) (w : World) (hr : rt W S = true) (ha0 : 0 ≤ a) (ha1 : a < 18446744073709551616) (hb0 : 0 ≤ b) (hb1 : b < 18446744073709551616) :
    Calls Tryd.prog 26 #[.agg #[.int .i64 W, .bool S], .string ⟨#[61, 61]⟩, .int .u64 a, .int .u64 b] w fun e w' => e = .returned (.tuple #[.bool (normF W S a == normF W S b), .int .i64 0]) ∧ Below w.heap.size w w' := by
  generalize hsm : (normF W S a == normF W S b) = same
  have HSM := Lib.hid hsm
  clear hsm
  go_enter Tryd.func26, Tryd.ntmps26
  go_wp2_with fail
  refine (rright_any _ _ _).mono ?_
  rintro e w1 ⟨rfl, hb⟩
  have hbx : Below (w.heap.size + 1) (w.alloc (.cells #[.int .i64 W, .bool S] 23)) w1 := by simpa using hb
  have hc0 : w1.cell? ⟨w.heap.size, 0, none⟩ = some (.int .i64 W) := (hbx.cell (p := ⟨w.heap.size, 0, none⟩) (by simp)).trans (by simp [go_sem])
  have hc1 : w1.cell? ⟨w.heap.size, 1, none⟩ = some (.bool S) := (hbx.cell (p := ⟨w.heap.size, 1, none⟩) (by simp)).trans (by simp [go_sem])
  clear hb
  go_wp2_with fail
  clear hr
  go_region_held3 (fun w' => w'.cell? ⟨w.heap.size, 0, none⟩ = some (.int .i64 W) ∧ w'.cell? ⟨w.heap.size, 1, none⟩ = some (.bool S) ∧ Below (w.heap.size + 1) (w.alloc (.cells #[.int .i64 W, .bool S] 23)) w') (first | exact ⟨hc0, hc1, hbx.drew⟩ | exact keepX (by assumption) hq)
    (first | (go_at_call 20; refine (rnorm_any _ _ _ _ (by assumption) (by assumption)).mono ?_; rintro e w' ⟨rfl, hq⟩))
  rename_i hh
  clear hc0 hc1 hbx
  obtain ⟨hc0, hc1, hbx⟩ := hh
  rw [HSM.out]
  cases same
  all_goals
    go_wp2
    go_ret2
    exact ⟨rfl, below_box hbx⟩

set_option maxHeartbeats 1000000 in
theorem rtest_ne (W : Int) (S : Bool) (a b : Int) (w : World) (hr : rt W S = true) (ha0 : 0 ≤ a) (ha1 : a < 18446744073709551616) (hb0 : 0 ≤ b) (hb1 : b < 18446744073709551616) :
    Calls Tryd.prog 26 #[.agg #[.int .i64 W, .bool S], .string ⟨#[33, 61]⟩, .int .u64 a, .int .u64 b] w fun e w' => e = .returned (.tuple #[.bool (!(normF W S a == normF W S b)), .int .i64 0]) ∧ Below w.heap.size w w' := by
  generalize hsm : (normF W S a == normF W S b) = same
  have HSM := Lib.hid hsm
  clear hsm
  go_enter Tryd.func26, Tryd.ntmps26
  go_wp2_with fail
  refine (rright_any _ _ _).mono ?_
  rintro e w1 ⟨rfl, hb⟩
  have hbx : Below (w.heap.size + 1) (w.alloc (.cells #[.int .i64 W, .bool S] 23)) w1 := by simpa using hb
  have hc0 : w1.cell? ⟨w.heap.size, 0, none⟩ = some (.int .i64 W) := (hbx.cell (p := ⟨w.heap.size, 0, none⟩) (by simp)).trans (by simp [go_sem])
  have hc1 : w1.cell? ⟨w.heap.size, 1, none⟩ = some (.bool S) := (hbx.cell (p := ⟨w.heap.size, 1, none⟩) (by simp)).trans (by simp [go_sem])
  clear hb
  go_wp2_with fail
  clear hr
  go_region_held3 (fun w' => w'.cell? ⟨w.heap.size, 0, none⟩ = some (.int .i64 W) ∧ w'.cell? ⟨w.heap.size, 1, none⟩ = some (.bool S) ∧ Below (w.heap.size + 1) (w.alloc (.cells #[.int .i64 W, .bool S] 23)) w') (first | exact ⟨hc0, hc1, hbx.drew⟩ | exact keepX (by assumption) hq)
    (first | (go_at_call 20; refine (rnorm_any _ _ _ _ (by assumption) (by assumption)).mono ?_; rintro e w' ⟨rfl, hq⟩))
  rename_i hh
  clear hc0 hc1 hbx
  obtain ⟨hc0, hc1, hbx⟩ := hh
  rw [HSM.out]
  cases same
  all_goals
    go_wp2
    go_ret2
    exact ⟨rfl, below_box hbx⟩

set_option maxHeartbeats 1000000 in
theorem rtest_one (W : Int) (S : Bool) (s : ByteArray) (a b : Int) (w : World) (hr : rt W S = true) (hW : (W == 1) = true) (h1 : s ≠ ⟨#[61, 61]⟩) (h2 : s ≠ ⟨#[33, 61]⟩) (ha0 : 0 ≤ a) (ha1 : a < 18446744073709551616) (hb0 : 0 ≤ b) (hb1 : b < 18446744073709551616) :
    Calls Tryd.prog 26 #[.agg #[.int .i64 W, .bool S], .string s, .int .u64 a, .int .u64 b] w fun e w' => e = .returned (.tuple #[.bool false, .int .i64 12]) ∧ Below w.heap.size w w' := by
  have n1 := lst_ne (l := [61, 61]) h1
  have n2 := lst_ne (l := [33, 61]) h2
  clear h1 h2
  go_enter Tryd.func26, Tryd.ntmps26
  go_wp2_with fail
  refine (rright_any _ _ _).mono ?_
  rintro e w1 ⟨rfl, hb⟩
  have hbx : Below (w.heap.size + 1) (w.alloc (.cells #[.int .i64 W, .bool S] 23)) w1 := by simpa using hb
  have hc0 : w1.cell? ⟨w.heap.size, 0, none⟩ = some (.int .i64 W) := (hbx.cell (p := ⟨w.heap.size, 0, none⟩) (by simp)).trans (by simp [go_sem])
  have hc1 : w1.cell? ⟨w.heap.size, 1, none⟩ = some (.bool S) := (hbx.cell (p := ⟨w.heap.size, 1, none⟩) (by simp)).trans (by simp [go_sem])
  clear hb
  go_wp2_with fail
  clear hr
  go_region_held3 (fun w' => w'.cell? ⟨w.heap.size, 0, none⟩ = some (.int .i64 W) ∧ w'.cell? ⟨w.heap.size, 1, none⟩ = some (.bool S) ∧ Below (w.heap.size + 1) (w.alloc (.cells #[.int .i64 W, .bool S] 23)) w') (first | exact ⟨hc0, hc1, hbx.drew⟩ | exact keepX (by assumption) hq)
    (first | (go_at_call 20; refine (rnorm_any _ _ _ _ (by assumption) (by assumption)).mono ?_; rintro e w' ⟨rfl, hq⟩))
  rename_i hh
  clear hc0 hc1 hbx
  obtain ⟨hc0, hc1, hbx⟩ := hh
  go_wp2
  go_ret2
  exact ⟨rfl, below_box hbx⟩

set_option maxHeartbeats 1000000 in
theorem rtest_other (W : Int) (S : Bool) (s : ByteArray) (a b : Int) (w : World) (hr : rt W S = true) (hW : (W == 1) = false) (h1 : s ≠ ⟨#[61, 61]⟩) (h2 : s ≠ ⟨#[33, 61]⟩) (h3 : s ≠ ⟨#[60]⟩) (h4 : s ≠ ⟨#[60, 61]⟩) (h5 : s ≠ ⟨#[62]⟩) (h6 : s ≠ ⟨#[62, 61]⟩) (ha0 : 0 ≤ a) (ha1 : a < 18446744073709551616) (hb0 : 0 ≤ b) (hb1 : b < 18446744073709551616) :
    Calls Tryd.prog 26 #[.agg #[.int .i64 W, .bool S], .string s, .int .u64 a, .int .u64 b] w fun e w' => e = .returned (.tuple #[.bool false, .int .i64 12]) ∧ Below w.heap.size w w' := by
  have n1 := lst_ne (l := [61, 61]) h1
  have n2 := lst_ne (l := [33, 61]) h2
  have n3 := lst_ne (l := [60]) h3
  have n4 := lst_ne (l := [60, 61]) h4
  have n5 := lst_ne (l := [62]) h5
  have n6 := lst_ne (l := [62, 61]) h6
  clear h1 h2 h3 h4 h5 h6
  go_enter Tryd.func26, Tryd.ntmps26
  go_wp2_with fail
  refine (rright_any _ _ _).mono ?_
  rintro e w1 ⟨rfl, hb⟩
  have hbx : Below (w.heap.size + 1) (w.alloc (.cells #[.int .i64 W, .bool S] 23)) w1 := by simpa using hb
  have hc0 : w1.cell? ⟨w.heap.size, 0, none⟩ = some (.int .i64 W) := (hbx.cell (p := ⟨w.heap.size, 0, none⟩) (by simp)).trans (by simp [go_sem])
  have hc1 : w1.cell? ⟨w.heap.size, 1, none⟩ = some (.bool S) := (hbx.cell (p := ⟨w.heap.size, 1, none⟩) (by simp)).trans (by simp [go_sem])
  clear hb
  go_wp2_with fail
  clear hr
  go_region_held3 (fun w' => w'.cell? ⟨w.heap.size, 0, none⟩ = some (.int .i64 W) ∧ w'.cell? ⟨w.heap.size, 1, none⟩ = some (.bool S) ∧ Below (w.heap.size + 1) (w.alloc (.cells #[.int .i64 W, .bool S] 23)) w') (first | exact ⟨hc0, hc1, hbx.drew⟩ | exact keepX (by assumption) hq)
    (first | (go_at_call 20; refine (rnorm_any _ _ _ _ (by assumption) (by assumption)).mono ?_; rintro e w' ⟨rfl, hq⟩))
  rename_i hh
  clear hc0 hc1 hbx
  obtain ⟨hc0, hc1, hbx⟩ := hh
  go_wp2
  go_ret2
  exact ⟨rfl, below_box hbx⟩

set_option maxHeartbeats 400000 in
theorem rtest_type (W : Int) (S : Bool) (s : ByteArray) (a b : Int) (w : World) (hr : rt W S = false) :
    Calls Tryd.prog 26 #[.agg #[.int .i64 W, .bool S], .string s, .int .u64 a, .int .u64 b] w fun e w' => e = .returned (.tuple #[.bool false, .int .i64 10]) ∧ Below w.heap.size w w' := by
  go_enter Tryd.func26, Tryd.ntmps26
  go_wp2_with fail
  refine (rright_any _ _ _).mono ?_
  rintro e w1 ⟨rfl, hb⟩
  have hb' := below_box (by simpa using hb)
  clear hb
  go_wp2
  go_ret2
  exact ⟨rfl, hb'⟩

theorem rtest_any (W : Int) (S : Bool) (s : ByteArray) (a b : Int) (w : World) (ha0 : 0 ≤ a) (ha1 : a < 18446744073709551616) (hb0 : 0 ≤ b) (hb1 : b < 18446744073709551616) :
    Calls Tryd.prog 26 #[.agg #[.int .i64 W, .bool S], .string s, .int .u64 a, .int .u64 b] w fun e w' => e = .returned (.tuple #[.bool (testF W S s a b).1, .int .i64 (testF W S s a b).2]) ∧ Below w.heap.size w w' := by
  unfold testF
  by_cases hr : rt W S = false
  · rw [if_pos hr]
    exact rtest_type W S s a b w hr
  rw [if_neg hr]
  have hr' : rt W S = true := by simpa using hr
  have ea : normF W S a = lowF W a := if_pos hr'
  have eb : normF W S b = lowF W b := if_pos hr'
  by_cases h1 : s = ⟨#[61, 61]⟩
  · subst h1
    rw [if_neg (by simp [tsB])]
    have := rtest_eq W S a b w hr' ha0 ha1 hb0 hb1
    rw [ea, eb] at this
    exact this
  by_cases h2 : s = ⟨#[33, 61]⟩
  · subst h2
    rw [if_neg (by simp [tsB])]
    have := rtest_ne W S a b w hr' ha0 ha1 hb0 hb1
    rw [ea, eb] at this
    exact this
  by_cases hW1 : W = 1
  · rw [if_pos (by simp [tsB, h1, h2, hW1])]
    exact rtest_one W S s a b w hr' (by simpa using hW1) h1 h2 ha0 ha1 hb0 hb1
  have hW : (W == 1) = false := by simpa using hW1
  have hW2 : 1 < W := by have := rt_w hr'; omega
  by_cases hs : s = ⟨#[60]⟩ ∨ s = ⟨#[60, 61]⟩ ∨ s = ⟨#[62]⟩ ∨ s = ⟨#[62, 61]⟩
  · rw [if_neg (by simp [tsB, hW2, hs])]
    obtain ⟨n, hn, hn1, hn64⟩ := rt_nat hr'
    rw [← cmp_val hr' hn (by omega) a b s hs]
    subst hn
    cases S
    · rcases hs with rfl | rfl | rfl | rfl
      · exact rtest_lt_u n a b w hn1 hn64 hr' hW ha0 ha1 hb0 hb1
      · exact rtest_le_u n a b w hn1 hn64 hr' hW ha0 ha1 hb0 hb1
      · exact rtest_gt_u n a b w hn1 hn64 hr' hW ha0 ha1 hb0 hb1
      · exact rtest_ge_u n a b w hn1 hn64 hr' hW ha0 ha1 hb0 hb1
    · rcases hs with rfl | rfl | rfl | rfl
      · exact rtest_lt_s n a b w hn1 hn64 hr' hW ha0 ha1 hb0 hb1
      · exact rtest_le_s n a b w hn1 hn64 hr' hW ha0 ha1 hb0 hb1
      · exact rtest_gt_s n a b w hn1 hn64 hr' hW ha0 ha1 hb0 hb1
      · exact rtest_ge_s n a b w hn1 hn64 hr' hW ha0 ha1 hb0 hb1
  · rw [if_pos (by simp only [tsB, h1, h2, hs, and_false, or_false, decide_false])]
    simp only [not_or] at hs
    exact rtest_other W S s a b w hr' hW h1 h2 hs.1 hs.2.1 hs.2.2.1 hs.2.2.2 ha0 ha1 hb0 hb1

/-- A law's world on the way: the boxed type and the boxed pair read as they were handed in, the table lies, old memory is as it was. -/
structure On2 (w0 : World) (W : Int) (S : Bool) (a b : Int) (w : World) : Prop where
  c0 : w.cell? ⟨w0.heap.size, 0, none⟩ = some (.int .i64 W)
  c1 : w.cell? ⟨w0.heap.size, 1, none⟩ = some (.bool S)
  q0 : w.cell? ⟨w0.heap.size + 1, 0, none⟩ = some (.int .u64 a)
  q1 : w.cell? ⟨w0.heap.size + 1, 1, none⟩ = some (.int .u64 b)
  tab : Tab w
  old : Below w0.heap.size w0 w
theorem On2.start {w0 : World} (ht : Tab w0) (W : Int) (S : Bool) (a b : Int) : On2 w0 W S a b ((w0.alloc (.cells #[.int .i64 W, .bool S] 23)).alloc (.cells #[.int .u64 a, .int .u64 b] 34)) := by
  have s1 := World.size_alloc w0 (.cells #[.int .i64 W, .bool S] 23)
  refine ⟨cell_old (cell_new _ _ _ 0) _, cell_old (cell_new _ _ _ 1) _, ?_, ?_, (ht.alloc _).alloc _, ((Below.refl _ _).alloc (Nat.le_refl _) _).alloc (by simp) _⟩
  · rw [← s1]; exact cell_new _ _ _ 0
  · rw [← s1]; exact cell_new _ _ _ 1
theorem On2.step {w0 w w' : World} {W : Int} {S : Bool} {a b : Int} (h : On2 w0 W S a b w) (hq : Below w.heap.size w w') : On2 w0 W S a b w' :=
  ⟨(hq.cell (cell_lt h.c0)).trans h.c0, (hq.cell (cell_lt h.c1)).trans h.c1, (hq.cell (cell_lt h.q0)).trans h.q0, (hq.cell (cell_lt h.q1)).trans h.q1, h.tab.below hq, h.old.trans (hq.mono h.old.size)⟩
end Go.Proofs.YtpfdbigdkegncaaDoor
