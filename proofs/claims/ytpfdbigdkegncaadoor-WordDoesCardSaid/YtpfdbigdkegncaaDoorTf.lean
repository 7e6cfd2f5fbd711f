/- The contract of skuaref01's Test: comparing bit by bit, with a sign. -/
import Derived.Test.YtpfdbigdkegncaaDoorTd
namespace Go.Proofs.YtpfdbigdkegncaaDoor
open Go.RowKit

set_option maxHeartbeats 8000000 in
theorem rtest_lt_s (n : Nat) (a b : Int) (w : World) (hn1 : 1 ≤ n) (hn : n ≤ 64) (hr : rt n true = true) (hW : ((n : Int) == 1) = false) (ha0 : 0 ≤ a) (ha1 : a < 18446744073709551616) (hb0 : 0 ≤ b) (hb1 : b < 18446744073709551616) :
    Calls Tryd.prog 26 #[.agg #[.int .i64 n, .bool true], .string ⟨#[60]⟩, .int .u64 a, .int .u64 b] w fun e w' =>
      e = .returned (.tuple #[.bool (cmpR ⟨#[60]⟩ (lessL true n (bitsR a n) (bitsR b n) n) (normF n true a == normF n true b)), .int .i64 0]) ∧ Below w.heap.size w w' := by
  generalize hln : lessL true n (bitsR a n) (bitsR b n) n = less
  have HLN := Lib.hid hln
  clear hln
  generalize hsm : (normF n true a == normF n true b) = same
  have HSM := Lib.hid hsm
  clear hsm
  go_enter Tryd.func26, Tryd.ntmps26
  go_wp2_with fail
  refine (rright_any _ _ _).mono ?_
  rintro e w1 ⟨rfl, hb⟩
  have hbx : Below (w.heap.size + 1) (w.alloc (.cells #[.int .i64 n, .bool true] 23)) w1 := by simpa using hb
  have hc0 : w1.cell? ⟨w.heap.size, 0, none⟩ = some (.int .i64 n) := (hbx.cell (p := ⟨w.heap.size, 0, none⟩) (by simp)).trans (by simp [go_sem])
  have hc1 : w1.cell? ⟨w.heap.size, 1, none⟩ = some (.bool true) := (hbx.cell (p := ⟨w.heap.size, 1, none⟩) (by simp)).trans (by simp [go_sem])
  clear hb
  go_wp2_with fail
  clear hr
  go_region_held3 (fun w' => w'.cell? ⟨w.heap.size, 0, none⟩ = some (.int .i64 n) ∧ w'.cell? ⟨w.heap.size, 1, none⟩ = some (.bool true) ∧ Below (w.heap.size + 1) (w.alloc (.cells #[.int .i64 n, .bool true] 23)) w') (first | exact ⟨hc0, hc1, hbx.drew⟩ | exact keepX (by assumption) hq)
    (first | (go_at_call 20; refine (rnorm_any _ _ _ _ (by assumption) (by assumption)).mono ?_; rintro e w' ⟨rfl, hq⟩))
  rename_i hh
  clear hc0 hc1 hbx
  obtain ⟨hc0, hc1, hbx⟩ := hh
  rw [HSM.out]
  go_wp2_with fail
  go_region_held3 (fun w' => w'.cell? ⟨w.heap.size, 0, none⟩ = some (.int .i64 n) ∧ w'.cell? ⟨w.heap.size, 1, none⟩ = some (.bool true) ∧ Below (w.heap.size + 1) (w.alloc (.cells #[.int .i64 n, .bool true] 23)) w') (first | exact ⟨hc0, hc1, hbx.drew⟩ | exact keepX (by assumption) hq)
    (first | (go_at_call 34; have HX1 := HX; refine (bits_any _ n _ hn (by assumption) (by assumption)).mono ?_; rintro e w' ⟨sl2, rfl, hown2, hq⟩; rw [bits_len] at hown2; obtain ⟨g2, cap2, rfl, hg2, hnc2, hl2, hy⟩ := own_parts hown2 hn1; have HY := Lib.hid hy; have HX2 := Lib.hid (cells_on HX1.out hq); clear hy hown2 hl2 HX HX1) | (go_at_call 34; refine (bits_any _ n _ hn (by assumption) (by assumption)).mono ?_; rintro e w' ⟨sl, rfl, hown, hq⟩; rw [bits_len] at hown; obtain ⟨g, cap, rfl, hg, hnc, hl, hx⟩ := own_parts hown hn1; have HX := Lib.hid hx; clear hx hown hl))
  rename_i hh
  clear hc0 hc1 hbx
  obtain ⟨hc0, hc1, hbx⟩ := hh
  go_wp2_with fail
  go_loopw [11, 14] (fun l i wr => ∃ k : Nat, k ≤ n ∧ i = .int .i64 k ∧ l = .bool (lessL true n (bitsR a n) (bitsR b n) k) ∧ ∃ m, wr = w'.drewN m) (fun _ i _ => n - (intOf i).toNat)
  case atStart => exact ⟨0, Nat.zero_le _, rfl, rfl, 0, rfl⟩
  case round =>
    obtain ⟨k, hk, rfl, rfl, m, rfl⟩ := hrel
    by_cases hlt : k < n
    · have cx := HX2.out k hlt
      have cy := HY.out k hlt
      have hlt' : (k : Int) < (n : Int) := by omega
      have hk0 : (0 : Int) ≤ (k : Int) := by omega
      generalize hxk : (bitsR a n).getD k false = xk at *
      generalize hyk : (bitsR b n).getD k false = yk at *
      cases xk <;> cases yk
      · have HL1 : Hid (lessL true n (bitsR a n) (bitsR b n) (k + 1) = lessL true n (bitsR a n) (bitsR b n) k) := Lib.hid (by rw [lessL, hxk, hyk]; rfl)
        clear hxk hyk
        go_wp2_with fail
        go_quiet (fail)
        go_wp2
        go_roundw
        case rel => exact ⟨k + 1, by omega, by go_num, by rw [HL1.out], _, rfl⟩
        case measure => simp [intOf]; omega
      · by_cases hkn : k = n - 1
        · have HL1 : Hid (lessL true n (bitsR a n) (bitsR b n) (k + 1) = false) := Lib.hid (by rw [lessL, hxk, hyk, show (k == n - 1) = true by simpa using hkn]; rfl)
          have hki : ((k : Int) == (n : Int) - 1) = true := by simp; omega
          clear hxk hyk hkn
          go_wp2_with fail
          go_quiet (fail)
          go_wp2
          go_quiet (fail)
          go_wp2
          go_roundw
          case rel => exact ⟨k + 1, by omega, by go_num, by rw [HL1.out], _, rfl⟩
          case measure => simp [intOf]; omega
        · have HL1 : Hid (lessL true n (bitsR a n) (bitsR b n) (k + 1) = true) := Lib.hid (by rw [lessL, hxk, hyk, show (k == n - 1) = false by simpa using hkn]; rfl)
          have hki : ((k : Int) == (n : Int) - 1) = false := by rw [beq_eq_false_iff_ne]; omega
          clear hxk hyk hkn
          go_wp2_with fail
          go_quiet (fail)
          go_wp2
          go_quiet (fail)
          go_wp2
          go_roundw
          case rel => exact ⟨k + 1, by omega, by go_num, by rw [HL1.out], _, rfl⟩
          case measure => simp [intOf]; omega
      · by_cases hkn : k = n - 1
        · have HL1 : Hid (lessL true n (bitsR a n) (bitsR b n) (k + 1) = true) := Lib.hid (by rw [lessL, hxk, hyk, show (k == n - 1) = true by simpa using hkn]; rfl)
          have hki : ((k : Int) == (n : Int) - 1) = true := by simp; omega
          clear hxk hyk hkn
          go_wp2_with fail
          go_quiet (fail)
          go_wp2
          go_quiet (fail)
          go_wp2
          go_roundw
          case rel => exact ⟨k + 1, by omega, by go_num, by rw [HL1.out], _, rfl⟩
          case measure => simp [intOf]; omega
        · have HL1 : Hid (lessL true n (bitsR a n) (bitsR b n) (k + 1) = false) := Lib.hid (by rw [lessL, hxk, hyk, show (k == n - 1) = false by simpa using hkn]; rfl)
          have hki : ((k : Int) == (n : Int) - 1) = false := by rw [beq_eq_false_iff_ne]; omega
          clear hxk hyk hkn
          go_wp2_with fail
          go_quiet (fail)
          go_wp2
          go_quiet (fail)
          go_wp2
          go_roundw
          case rel => exact ⟨k + 1, by omega, by go_num, by rw [HL1.out], _, rfl⟩
          case measure => simp [intOf]; omega
      · have HL1 : Hid (lessL true n (bitsR a n) (bitsR b n) (k + 1) = lessL true n (bitsR a n) (bitsR b n) k) := Lib.hid (by rw [lessL, hxk, hyk]; rfl)
        clear hxk hyk
        go_wp2_with fail
        go_quiet (fail)
        go_wp2
        go_roundw
        case rel => exact ⟨k + 1, by omega, by go_num, by rw [HL1.out], _, rfl⟩
        case measure => simp [intOf]; omega
    · obtain rfl : n = k := by omega
      rw [HLN.out]
      have hnl : ¬ ((n : Int) < (n : Int)) := by omega
      clear hlt
      cases less <;> cases same
      all_goals
        go_wp2
        go_ret2
        exact ⟨rfl, below_box (below_drewN' hbx m)⟩

set_option maxHeartbeats 8000000 in
theorem rtest_le_s (n : Nat) (a b : Int) (w : World) (hn1 : 1 ≤ n) (hn : n ≤ 64) (hr : rt n true = true) (hW : ((n : Int) == 1) = false) (ha0 : 0 ≤ a) (ha1 : a < 18446744073709551616) (hb0 : 0 ≤ b) (hb1 : b < 18446744073709551616) :
    Calls Tryd.prog 26 #[.agg #[.int .i64 n, .bool true], .string ⟨#[60, 61]⟩, .int .u64 a, .int .u64 b] w fun e w' =>
      e = .returned (.tuple #[.bool (cmpR ⟨#[60, 61]⟩ (lessL true n (bitsR a n) (bitsR b n) n) (normF n true a == normF n true b)), .int .i64 0]) ∧ Below w.heap.size w w' := by
  generalize hln : lessL true n (bitsR a n) (bitsR b n) n = less
  have HLN := Lib.hid hln
  clear hln
  generalize hsm : (normF n true a == normF n true b) = same
  have HSM := Lib.hid hsm
  clear hsm
  go_enter Tryd.func26, Tryd.ntmps26
  go_wp2_with fail
  refine (rright_any _ _ _).mono ?_
  rintro e w1 ⟨rfl, hb⟩
  have hbx : Below (w.heap.size + 1) (w.alloc (.cells #[.int .i64 n, .bool true] 23)) w1 := by simpa using hb
  have hc0 : w1.cell? ⟨w.heap.size, 0, none⟩ = some (.int .i64 n) := (hbx.cell (p := ⟨w.heap.size, 0, none⟩) (by simp)).trans (by simp [go_sem])
  have hc1 : w1.cell? ⟨w.heap.size, 1, none⟩ = some (.bool true) := (hbx.cell (p := ⟨w.heap.size, 1, none⟩) (by simp)).trans (by simp [go_sem])
  clear hb
  go_wp2_with fail
  clear hr
  go_region_held3 (fun w' => w'.cell? ⟨w.heap.size, 0, none⟩ = some (.int .i64 n) ∧ w'.cell? ⟨w.heap.size, 1, none⟩ = some (.bool true) ∧ Below (w.heap.size + 1) (w.alloc (.cells #[.int .i64 n, .bool true] 23)) w') (first | exact ⟨hc0, hc1, hbx.drew⟩ | exact keepX (by assumption) hq)
    (first | (go_at_call 20; refine (rnorm_any _ _ _ _ (by assumption) (by assumption)).mono ?_; rintro e w' ⟨rfl, hq⟩))
  rename_i hh
  clear hc0 hc1 hbx
  obtain ⟨hc0, hc1, hbx⟩ := hh
  rw [HSM.out]
  go_wp2_with fail
  go_region_held3 (fun w' => w'.cell? ⟨w.heap.size, 0, none⟩ = some (.int .i64 n) ∧ w'.cell? ⟨w.heap.size, 1, none⟩ = some (.bool true) ∧ Below (w.heap.size + 1) (w.alloc (.cells #[.int .i64 n, .bool true] 23)) w') (first | exact ⟨hc0, hc1, hbx.drew⟩ | exact keepX (by assumption) hq)
    (first | (go_at_call 34; have HX1 := HX; refine (bits_any _ n _ hn (by assumption) (by assumption)).mono ?_; rintro e w' ⟨sl2, rfl, hown2, hq⟩; rw [bits_len] at hown2; obtain ⟨g2, cap2, rfl, hg2, hnc2, hl2, hy⟩ := own_parts hown2 hn1; have HY := Lib.hid hy; have HX2 := Lib.hid (cells_on HX1.out hq); clear hy hown2 hl2 HX HX1) | (go_at_call 34; refine (bits_any _ n _ hn (by assumption) (by assumption)).mono ?_; rintro e w' ⟨sl, rfl, hown, hq⟩; rw [bits_len] at hown; obtain ⟨g, cap, rfl, hg, hnc, hl, hx⟩ := own_parts hown hn1; have HX := Lib.hid hx; clear hx hown hl))
  rename_i hh
  clear hc0 hc1 hbx
  obtain ⟨hc0, hc1, hbx⟩ := hh
  go_wp2_with fail
  go_loopw [11, 14] (fun l i wr => ∃ k : Nat, k ≤ n ∧ i = .int .i64 k ∧ l = .bool (lessL true n (bitsR a n) (bitsR b n) k) ∧ ∃ m, wr = w'.drewN m) (fun _ i _ => n - (intOf i).toNat)
  case atStart => exact ⟨0, Nat.zero_le _, rfl, rfl, 0, rfl⟩
  case round =>
    obtain ⟨k, hk, rfl, rfl, m, rfl⟩ := hrel
    by_cases hlt : k < n
    · have cx := HX2.out k hlt
      have cy := HY.out k hlt
      have hlt' : (k : Int) < (n : Int) := by omega
      have hk0 : (0 : Int) ≤ (k : Int) := by omega
      generalize hxk : (bitsR a n).getD k false = xk at *
      generalize hyk : (bitsR b n).getD k false = yk at *
      cases xk <;> cases yk
      · have HL1 : Hid (lessL true n (bitsR a n) (bitsR b n) (k + 1) = lessL true n (bitsR a n) (bitsR b n) k) := Lib.hid (by rw [lessL, hxk, hyk]; rfl)
        clear hxk hyk
        go_wp2_with fail
        go_quiet (fail)
        go_wp2
        go_roundw
        case rel => exact ⟨k + 1, by omega, by go_num, by rw [HL1.out], _, rfl⟩
        case measure => simp [intOf]; omega
      · by_cases hkn : k = n - 1
        · have HL1 : Hid (lessL true n (bitsR a n) (bitsR b n) (k + 1) = false) := Lib.hid (by rw [lessL, hxk, hyk, show (k == n - 1) = true by simpa using hkn]; rfl)
          have hki : ((k : Int) == (n : Int) - 1) = true := by simp; omega
          clear hxk hyk hkn
          go_wp2_with fail
          go_quiet (fail)
          go_wp2
          go_quiet (fail)
          go_wp2
          go_roundw
          case rel => exact ⟨k + 1, by omega, by go_num, by rw [HL1.out], _, rfl⟩
          case measure => simp [intOf]; omega
        · have HL1 : Hid (lessL true n (bitsR a n) (bitsR b n) (k + 1) = true) := Lib.hid (by rw [lessL, hxk, hyk, show (k == n - 1) = false by simpa using hkn]; rfl)
          have hki : ((k : Int) == (n : Int) - 1) = false := by rw [beq_eq_false_iff_ne]; omega
          clear hxk hyk hkn
          go_wp2_with fail
          go_quiet (fail)
          go_wp2
          go_quiet (fail)
          go_wp2
          go_roundw
          case rel => exact ⟨k + 1, by omega, by go_num, by rw [HL1.out], _, rfl⟩
          case measure => simp [intOf]; omega
      · by_cases hkn : k = n - 1
        · have HL1 : Hid (lessL true n (bitsR a n) (bitsR b n) (k + 1) = true) := Lib.hid (by rw [lessL, hxk, hyk, show (k == n - 1) = true by simpa using hkn]; rfl)
          have hki : ((k : Int) == (n : Int) - 1) = true := by simp; omega
          clear hxk hyk hkn
          go_wp2_with fail
          go_quiet (fail)
          go_wp2
          go_quiet (fail)
          go_wp2
          go_roundw
          case rel => exact ⟨k + 1, by omega, by go_num, by rw [HL1.out], _, rfl⟩
          case measure => simp [intOf]; omega
        · have HL1 : Hid (lessL true n (bitsR a n) (bitsR b n) (k + 1) = false) := Lib.hid (by rw [lessL, hxk, hyk, show (k == n - 1) = false by simpa using hkn]; rfl)
          have hki : ((k : Int) == (n : Int) - 1) = false := by rw [beq_eq_false_iff_ne]; omega
          clear hxk hyk hkn
          go_wp2_with fail
          go_quiet (fail)
          go_wp2
          go_quiet (fail)
          go_wp2
          go_roundw
          case rel => exact ⟨k + 1, by omega, by go_num, by rw [HL1.out], _, rfl⟩
          case measure => simp [intOf]; omega
      · have HL1 : Hid (lessL true n (bitsR a n) (bitsR b n) (k + 1) = lessL true n (bitsR a n) (bitsR b n) k) := Lib.hid (by rw [lessL, hxk, hyk]; rfl)
        clear hxk hyk
        go_wp2_with fail
        go_quiet (fail)
        go_wp2
        go_roundw
        case rel => exact ⟨k + 1, by omega, by go_num, by rw [HL1.out], _, rfl⟩
        case measure => simp [intOf]; omega
    · obtain rfl : n = k := by omega
      rw [HLN.out]
      have hnl : ¬ ((n : Int) < (n : Int)) := by omega
      clear hlt
      cases less <;> cases same
      all_goals
        go_wp2
        go_ret2
        exact ⟨rfl, below_box (below_drewN' hbx m)⟩

set_option maxHeartbeats 8000000 in
theorem rtest_gt_s (n : Nat) (a b : Int) (w : World) (hn1 : 1 ≤ n) (hn : n ≤ 64) (hr : rt n true = true) (hW : ((n : Int) == 1) = false) (ha0 : 0 ≤ a) (ha1 : a < 18446744073709551616) (hb0 : 0 ≤ b) (hb1 : b < 18446744073709551616) :
    Calls Tryd.prog 26 #[.agg #[.int .i64 n, .bool true], .string ⟨#[62]⟩, .int .u64 a, .int .u64 b] w fun e w' =>
      e = .returned (.tuple #[.bool (cmpR ⟨#[62]⟩ (lessL true n (bitsR a n) (bitsR b n) n) (normF n true a == normF n true b)), .int .i64 0]) ∧ Below w.heap.size w w' := by
  generalize hln : lessL true n (bitsR a n) (bitsR b n) n = less
  have HLN := Lib.hid hln
  clear hln
  generalize hsm : (normF n true a == normF n true b) = same
  have HSM := Lib.hid hsm
  clear hsm
  go_enter Tryd.func26, Tryd.ntmps26
  go_wp2_with fail
  refine (rright_any _ _ _).mono ?_
  rintro e w1 ⟨rfl, hb⟩
  have hbx : Below (w.heap.size + 1) (w.alloc (.cells #[.int .i64 n, .bool true] 23)) w1 := by simpa using hb
  have hc0 : w1.cell? ⟨w.heap.size, 0, none⟩ = some (.int .i64 n) := (hbx.cell (p := ⟨w.heap.size, 0, none⟩) (by simp)).trans (by simp [go_sem])
  have hc1 : w1.cell? ⟨w.heap.size, 1, none⟩ = some (.bool true) := (hbx.cell (p := ⟨w.heap.size, 1, none⟩) (by simp)).trans (by simp [go_sem])
  clear hb
  go_wp2_with fail
  clear hr
  go_region_held3 (fun w' => w'.cell? ⟨w.heap.size, 0, none⟩ = some (.int .i64 n) ∧ w'.cell? ⟨w.heap.size, 1, none⟩ = some (.bool true) ∧ Below (w.heap.size + 1) (w.alloc (.cells #[.int .i64 n, .bool true] 23)) w') (first | exact ⟨hc0, hc1, hbx.drew⟩ | exact keepX (by assumption) hq)
    (first | (go_at_call 20; refine (rnorm_any _ _ _ _ (by assumption) (by assumption)).mono ?_; rintro e w' ⟨rfl, hq⟩))
  rename_i hh
  clear hc0 hc1 hbx
  obtain ⟨hc0, hc1, hbx⟩ := hh
  rw [HSM.out]
  go_wp2_with fail
  go_region_held3 (fun w' => w'.cell? ⟨w.heap.size, 0, none⟩ = some (.int .i64 n) ∧ w'.cell? ⟨w.heap.size, 1, none⟩ = some (.bool true) ∧ Below (w.heap.size + 1) (w.alloc (.cells #[.int .i64 n, .bool true] 23)) w') (first | exact ⟨hc0, hc1, hbx.drew⟩ | exact keepX (by assumption) hq)
    (first | (go_at_call 34; have HX1 := HX; refine (bits_any _ n _ hn (by assumption) (by assumption)).mono ?_; rintro e w' ⟨sl2, rfl, hown2, hq⟩; rw [bits_len] at hown2; obtain ⟨g2, cap2, rfl, hg2, hnc2, hl2, hy⟩ := own_parts hown2 hn1; have HY := Lib.hid hy; have HX2 := Lib.hid (cells_on HX1.out hq); clear hy hown2 hl2 HX HX1) | (go_at_call 34; refine (bits_any _ n _ hn (by assumption) (by assumption)).mono ?_; rintro e w' ⟨sl, rfl, hown, hq⟩; rw [bits_len] at hown; obtain ⟨g, cap, rfl, hg, hnc, hl, hx⟩ := own_parts hown hn1; have HX := Lib.hid hx; clear hx hown hl))
  rename_i hh
  clear hc0 hc1 hbx
  obtain ⟨hc0, hc1, hbx⟩ := hh
  go_wp2_with fail
  go_loopw [11, 14] (fun l i wr => ∃ k : Nat, k ≤ n ∧ i = .int .i64 k ∧ l = .bool (lessL true n (bitsR a n) (bitsR b n) k) ∧ ∃ m, wr = w'.drewN m) (fun _ i _ => n - (intOf i).toNat)
  case atStart => exact ⟨0, Nat.zero_le _, rfl, rfl, 0, rfl⟩
  case round =>
    obtain ⟨k, hk, rfl, rfl, m, rfl⟩ := hrel
    by_cases hlt : k < n
    · have cx := HX2.out k hlt
      have cy := HY.out k hlt
      have hlt' : (k : Int) < (n : Int) := by omega
      have hk0 : (0 : Int) ≤ (k : Int) := by omega
      generalize hxk : (bitsR a n).getD k false = xk at *
      generalize hyk : (bitsR b n).getD k false = yk at *
      cases xk <;> cases yk
      · have HL1 : Hid (lessL true n (bitsR a n) (bitsR b n) (k + 1) = lessL true n (bitsR a n) (bitsR b n) k) := Lib.hid (by rw [lessL, hxk, hyk]; rfl)
        clear hxk hyk
        go_wp2_with fail
        go_quiet (fail)
        go_wp2
        go_roundw
        case rel => exact ⟨k + 1, by omega, by go_num, by rw [HL1.out], _, rfl⟩
        case measure => simp [intOf]; omega
      · by_cases hkn : k = n - 1
        · have HL1 : Hid (lessL true n (bitsR a n) (bitsR b n) (k + 1) = false) := Lib.hid (by rw [lessL, hxk, hyk, show (k == n - 1) = true by simpa using hkn]; rfl)
          have hki : ((k : Int) == (n : Int) - 1) = true := by simp; omega
          clear hxk hyk hkn
          go_wp2_with fail
          go_quiet (fail)
          go_wp2
          go_quiet (fail)
          go_wp2
          go_roundw
          case rel => exact ⟨k + 1, by omega, by go_num, by rw [HL1.out], _, rfl⟩
          case measure => simp [intOf]; omega
        · have HL1 : Hid (lessL true n (bitsR a n) (bitsR b n) (k + 1) = true) := Lib.hid (by rw [lessL, hxk, hyk, show (k == n - 1) = false by simpa using hkn]; rfl)
          have hki : ((k : Int) == (n : Int) - 1) = false := by rw [beq_eq_false_iff_ne]; omega
          clear hxk hyk hkn
          go_wp2_with fail
          go_quiet (fail)
          go_wp2
          go_quiet (fail)
          go_wp2
          go_roundw
          case rel => exact ⟨k + 1, by omega, by go_num, by rw [HL1.out], _, rfl⟩
          case measure => simp [intOf]; omega
      · by_cases hkn : k = n - 1
        · have HL1 : Hid (lessL true n (bitsR a n) (bitsR b n) (k + 1) = true) := Lib.hid (by rw [lessL, hxk, hyk, show (k == n - 1) = true by simpa using hkn]; rfl)
          have hki : ((k : Int) == (n : Int) - 1) = true := by simp; omega
          clear hxk hyk hkn
          go_wp2_with fail
          go_quiet (fail)
          go_wp2
          go_quiet (fail)
          go_wp2
          go_roundw
          case rel => exact ⟨k + 1, by omega, by go_num, by rw [HL1.out], _, rfl⟩
          case measure => simp [intOf]; omega
        · have HL1 : Hid (lessL true n (bitsR a n) (bitsR b n) (k + 1) = false) := Lib.hid (by rw [lessL, hxk, hyk, show (k == n - 1) = false by simpa using hkn]; rfl)
          have hki : ((k : Int) == (n : Int) - 1) = false := by rw [beq_eq_false_iff_ne]; omega
          clear hxk hyk hkn
          go_wp2_with fail
          go_quiet (fail)
          go_wp2
          go_quiet (fail)
          go_wp2
          go_roundw
          case rel => exact ⟨k + 1, by omega, by go_num, by rw [HL1.out], _, rfl⟩
          case measure => simp [intOf]; omega
      · have HL1 : Hid (lessL true n (bitsR a n) (bitsR b n) (k + 1) = lessL true n (bitsR a n) (bitsR b n) k) := Lib.hid (by rw [lessL, hxk, hyk]; rfl)
        clear hxk hyk
        go_wp2_with fail
        go_quiet (fail)
        go_wp2
        go_roundw
        case rel => exact ⟨k + 1, by omega, by go_num, by rw [HL1.out], _, rfl⟩
        case measure => simp [intOf]; omega
    · obtain rfl : n = k := by omega
      rw [HLN.out]
      have hnl : ¬ ((n : Int) < (n : Int)) := by omega
      clear hlt
      cases less <;> cases same
      all_goals
        go_wp2
        go_ret2
        exact ⟨rfl, below_box (below_drewN' hbx m)⟩

set_option maxHeartbeats 8000000 in
theorem rtest_ge_s (n : Nat) (a b : Int) (w : World) (hn1 : 1 ≤ n) (hn : n ≤ 64) (hr : rt n true = true) (hW : ((n : Int) == 1) = false) (ha0 : 0 ≤ a) (ha1 : a < 18446744073709551616) (hb0 : 0 ≤ b) (hb1 : b < 18446744073709551616) :
    Calls Tryd.prog 26 #[.agg #[.int .i64 n, .bool true], .string ⟨#[62, 61]⟩, .int .u64 a, .int .u64 b] w fun e w' =>
      e = .returned (.tuple #[.bool (cmpR ⟨#[62, 61]⟩ (lessL true n (bitsR a n) (bitsR b n) n) (normF n true a == normF n true b)), .int .i64 0]) ∧ Below w.heap.size w w' := by
  generalize hln : lessL true n (bitsR a n) (bitsR b n) n = less
  have HLN := Lib.hid hln
  clear hln
  generalize hsm : (normF n true a == normF n true b) = same
  have HSM := Lib.hid hsm
  clear hsm
  go_enter Tryd.func26, Tryd.ntmps26
  go_wp2_with fail
  refine (rright_any _ _ _).mono ?_
  rintro e w1 ⟨rfl, hb⟩
  have hbx : Below (w.heap.size + 1) (w.alloc (.cells #[.int .i64 n, .bool true] 23)) w1 := by simpa using hb
  have hc0 : w1.cell? ⟨w.heap.size, 0, none⟩ = some (.int .i64 n) := (hbx.cell (p := ⟨w.heap.size, 0, none⟩) (by simp)).trans (by simp [go_sem])
  have hc1 : w1.cell? ⟨w.heap.size, 1, none⟩ = some (.bool true) := (hbx.cell (p := ⟨w.heap.size, 1, none⟩) (by simp)).trans (by simp [go_sem])
  clear hb
  go_wp2_with fail
  clear hr
  go_region_held3 (fun w' => w'.cell? ⟨w.heap.size, 0, none⟩ = some (.int .i64 n) ∧ w'.cell? ⟨w.heap.size, 1, none⟩ = some (.bool true) ∧ Below (w.heap.size + 1) (w.alloc (.cells #[.int .i64 n, .bool true] 23)) w') (first | exact ⟨hc0, hc1, hbx.drew⟩ | exact keepX (by assumption) hq)
    (first | (go_at_call 20; refine (rnorm_any _ _ _ _ (by assumption) (by assumption)).mono ?_; rintro e w' ⟨rfl, hq⟩))
  rename_i hh
  clear hc0 hc1 hbx
  obtain ⟨hc0, hc1, hbx⟩ := hh
  rw [HSM.out]
  go_wp2_with fail
  go_region_held3 (fun w' => w'.cell? ⟨w.heap.size, 0, none⟩ = some (.int .i64 n) ∧ w'.cell? ⟨w.heap.size, 1, none⟩ = some (.bool true) ∧ Below (w.heap.size + 1) (w.alloc (.cells #[.int .i64 n, .bool true] 23)) w') (first | exact ⟨hc0, hc1, hbx.drew⟩ | exact keepX (by assumption) hq)
    (first | (go_at_call 34; have HX1 := HX; refine (bits_any _ n _ hn (by assumption) (by assumption)).mono ?_; rintro e w' ⟨sl2, rfl, hown2, hq⟩; rw [bits_len] at hown2; obtain ⟨g2, cap2, rfl, hg2, hnc2, hl2, hy⟩ := own_parts hown2 hn1; have HY := Lib.hid hy; have HX2 := Lib.hid (cells_on HX1.out hq); clear hy hown2 hl2 HX HX1) | (go_at_call 34; refine (bits_any _ n _ hn (by assumption) (by assumption)).mono ?_; rintro e w' ⟨sl, rfl, hown, hq⟩; rw [bits_len] at hown; obtain ⟨g, cap, rfl, hg, hnc, hl, hx⟩ := own_parts hown hn1; have HX := Lib.hid hx; clear hx hown hl))
  rename_i hh
  clear hc0 hc1 hbx
  obtain ⟨hc0, hc1, hbx⟩ := hh
  go_wp2_with fail
  go_loopw [11, 14] (fun l i wr => ∃ k : Nat, k ≤ n ∧ i = .int .i64 k ∧ l = .bool (lessL true n (bitsR a n) (bitsR b n) k) ∧ ∃ m, wr = w'.drewN m) (fun _ i _ => n - (intOf i).toNat)
  case atStart => exact ⟨0, Nat.zero_le _, rfl, rfl, 0, rfl⟩
  case round =>
    obtain ⟨k, hk, rfl, rfl, m, rfl⟩ := hrel
    by_cases hlt : k < n
    · have cx := HX2.out k hlt
      have cy := HY.out k hlt
      have hlt' : (k : Int) < (n : Int) := by omega
      have hk0 : (0 : Int) ≤ (k : Int) := by omega
      generalize hxk : (bitsR a n).getD k false = xk at *
      generalize hyk : (bitsR b n).getD k false = yk at *
      cases xk <;> cases yk
      · have HL1 : Hid (lessL true n (bitsR a n) (bitsR b n) (k + 1) = lessL true n (bitsR a n) (bitsR b n) k) := Lib.hid (by rw [lessL, hxk, hyk]; rfl)
        clear hxk hyk
        go_wp2_with fail
        go_quiet (fail)
        go_wp2
        go_roundw
        case rel => exact ⟨k + 1, by omega, by go_num, by rw [HL1.out], _, rfl⟩
        case measure => simp [intOf]; omega
      · by_cases hkn : k = n - 1
        · have HL1 : Hid (lessL true n (bitsR a n) (bitsR b n) (k + 1) = false) := Lib.hid (by rw [lessL, hxk, hyk, show (k == n - 1) = true by simpa using hkn]; rfl)
          have hki : ((k : Int) == (n : Int) - 1) = true := by simp; omega
          clear hxk hyk hkn
          go_wp2_with fail
          go_quiet (fail)
          go_wp2
          go_quiet (fail)
          go_wp2
          go_roundw
          case rel => exact ⟨k + 1, by omega, by go_num, by rw [HL1.out], _, rfl⟩
          case measure => simp [intOf]; omega
        · have HL1 : Hid (lessL true n (bitsR a n) (bitsR b n) (k + 1) = true) := Lib.hid (by rw [lessL, hxk, hyk, show (k == n - 1) = false by simpa using hkn]; rfl)
          have hki : ((k : Int) == (n : Int) - 1) = false := by rw [beq_eq_false_iff_ne]; omega
          clear hxk hyk hkn
          go_wp2_with fail
          go_quiet (fail)
          go_wp2
          go_quiet (fail)
          go_wp2
          go_roundw
          case rel => exact ⟨k + 1, by omega, by go_num, by rw [HL1.out], _, rfl⟩
          case measure => simp [intOf]; omega
      · by_cases hkn : k = n - 1
        · have HL1 : Hid (lessL true n (bitsR a n) (bitsR b n) (k + 1) = true) := Lib.hid (by rw [lessL, hxk, hyk, show (k == n - 1) = true by simpa using hkn]; rfl)
          have hki : ((k : Int) == (n : Int) - 1) = true := by simp; omega
          clear hxk hyk hkn
          go_wp2_with fail
          go_quiet (fail)
          go_wp2
          go_quiet (fail)
          go_wp2
          go_roundw
          case rel => exact ⟨k + 1, by omega, by go_num, by rw [HL1.out], _, rfl⟩
          case measure => simp [intOf]; omega
        · have HL1 : Hid (lessL true n (bitsR a n) (bitsR b n) (k + 1) = false) := Lib.hid (by rw [lessL, hxk, hyk, show (k == n - 1) = false by simpa using hkn]; rfl)
          have hki : ((k : Int) == (n : Int) - 1) = false := by rw [beq_eq_false_iff_ne]; omega
          clear hxk hyk hkn
          go_wp2_with fail
          go_quiet (fail)
          go_wp2
          go_quiet (fail)
          go_wp2
          go_roundw
          case rel => exact ⟨k + 1, by omega, by go_num, by rw [HL1.out], _, rfl⟩
          case measure => simp [intOf]; omega
      · have HL1 : Hid (lessL true n (bitsR a n) (bitsR b n) (k + 1) = lessL true n (bitsR a n) (bitsR b n) k) := Lib.hid (by rw [lessL, hxk, hyk]; rfl)
        clear hxk hyk
        go_wp2_with fail
        go_quiet (fail)
        go_wp2
        go_roundw
        case rel => exact ⟨k + 1, by omega, by go_num, by rw [HL1.out], _, rfl⟩
        case measure => simp [intOf]; omega
    · obtain rfl : n = k := by omega
      rw [HLN.out]
      have hnl : ¬ ((n : Int) < (n : Int)) := by omega
      clear hlt
      cases less <;> cases same
      all_goals
        go_wp2
        go_ret2
        exact ⟨rfl, below_box (below_drewN' hbx m)⟩

end Go.Proofs.YtpfdbigdkegncaaDoor
