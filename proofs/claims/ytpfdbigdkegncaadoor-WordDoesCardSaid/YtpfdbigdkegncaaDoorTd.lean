/- The contract of skuaref01's Test: comparing bit by bit. -/
import Derived.Test.YtpfdbigdkegncaaDoorY
import Derived.Test.YtpfdbigdkegncaaDoorR
import Derived.Deep.QuietTactic
import Derived.BigQuiet
namespace Go.Proofs.YtpfdbigdkegncaaDoor
open Go.RowKit

/-- Whether it is less, by the first k bits: the highest one that differs tells; the sign's the other way round. -/
def lessL (S : Bool) (n : Nat) (xs ys : List Bool) : Nat → Bool
  | 0 => false
  | k + 1 => if xs.getD k false = ys.getD k false then lessL S n xs ys k else (ys.getD k false != (S && k == n - 1))

theorem keepX {w x x' : World} {o : Obj} {p p' : Addr} {v v' : Value} (h : x.cell? p = some v ∧ x.cell? p' = some v' ∧ Below (w.heap.size + 1) (w.alloc o) x) (hb : Below x.heap.size x x') :
    x'.cell? p = some v ∧ x'.cell? p' = some v' ∧ Below (w.heap.size + 1) (w.alloc o) x' :=
  ⟨(hb.cell (cell_lt h.1)).trans h.1, (hb.cell (cell_lt h.2.1)).trans h.2.1, h.2.2.trans (hb.mono (by have := h.2.2.size; simpa using this))⟩
theorem cells_on {w w' : World} {g n : Nat} {l : List Bool} (h : ∀ j, j < n → w.cell? ⟨g, j, none⟩ = some (.bool (l.getD j false))) (hq : Below w.heap.size w w') : ∀ j, j < n → w'.cell? ⟨g, j, none⟩ = some (.bool (l.getD j false)) :=
  fun j hj => (hq.cell (cell_lt (h j hj))).trans (h j hj)
theorem below_drewN' {B : Nat} {w0 w : World} (h : Below B w0 w) (m : Nat) : Below B w0 (w.drewN m) := ⟨h.os, h.tape, h.output, h.size, h.block⟩
/-- What the operators say, of less and the same. -/
def cmpR (s : ByteArray) (less same : Bool) : Bool := if s = ⟨#[60]⟩ then less else if s = ⟨#[60, 61]⟩ then less || same else if s = ⟨#[62]⟩ then !less && !same else !less

set_option maxHeartbeats 8000000 in
theorem rtest_lt_u (n : Nat) (a b : Int) (w : World) (hn1 : 1 ≤ n) (hn : n ≤ 64) (hr : rt n false = true) (hW : ((n : Int) == 1) = false) (ha0 : 0 ≤ a) (ha1 : a < 18446744073709551616) (hb0 : 0 ≤ b) (hb1 : b < 18446744073709551616) :
    Calls Tryd.prog 26 #[.agg #[.int .i64 n, .bool false], .string ⟨#[60]⟩, .int .u64 a, .int .u64 b] w fun e w' =>
      e = .returned (.tuple #[.bool (cmpR ⟨#[60]⟩ (lessL false n (bitsR a n) (bitsR b n) n) (normF n false a == normF n false b)), .int .i64 0]) ∧ Below w.heap.size w w' := by
  generalize hln : lessL false n (bitsR a n) (bitsR b n) n = less
  have HLN := Lib.hid hln
  clear hln
  generalize hsm : (normF n false a == normF n false b) = same
  have HSM := Lib.hid hsm
  clear hsm
  go_enter Tryd.func26, Tryd.ntmps26
  go_wp2_with fail
  refine (rright_any _ _ _).mono ?_
  rintro e w1 ⟨rfl, hb⟩
  have hbx : Below (w.heap.size + 1) (w.alloc (.cells #[.int .i64 n, .bool false] 23)) w1 := by simpa using hb
  have hc0 : w1.cell? ⟨w.heap.size, 0, none⟩ = some (.int .i64 n) := (hbx.cell (p := ⟨w.heap.size, 0, none⟩) (by simp)).trans (by simp [go_sem])
  have hc1 : w1.cell? ⟨w.heap.size, 1, none⟩ = some (.bool false) := (hbx.cell (p := ⟨w.heap.size, 1, none⟩) (by simp)).trans (by simp [go_sem])
  clear hb
  go_wp2_with fail
  clear hr
  go_region_held3 (fun w' => w'.cell? ⟨w.heap.size, 0, none⟩ = some (.int .i64 n) ∧ w'.cell? ⟨w.heap.size, 1, none⟩ = some (.bool false) ∧ Below (w.heap.size + 1) (w.alloc (.cells #[.int .i64 n, .bool false] 23)) w') (first | exact ⟨hc0, hc1, hbx.drew⟩ | exact keepX (by assumption) hq)
    (first | (go_at_call 20; refine (rnorm_any _ _ _ _ (by assumption) (by assumption)).mono ?_; rintro e w' ⟨rfl, hq⟩))
  rename_i hh
  clear hc0 hc1 hbx
  obtain ⟨hc0, hc1, hbx⟩ := hh
  rw [HSM.out]
  go_wp2_with fail
  go_region_held3 (fun w' => w'.cell? ⟨w.heap.size, 0, none⟩ = some (.int .i64 n) ∧ w'.cell? ⟨w.heap.size, 1, none⟩ = some (.bool false) ∧ Below (w.heap.size + 1) (w.alloc (.cells #[.int .i64 n, .bool false] 23)) w') (first | exact ⟨hc0, hc1, hbx.drew⟩ | exact keepX (by assumption) hq)
    (first | (go_at_call 34; have HX1 := HX; refine (bits_any _ n _ hn (by assumption) (by assumption)).mono ?_; rintro e w' ⟨sl2, rfl, hown2, hq⟩; rw [bits_len] at hown2; obtain ⟨g2, cap2, rfl, hg2, hnc2, hl2, hy⟩ := own_parts hown2 hn1; have HY := Lib.hid hy; have HX2 := Lib.hid (cells_on HX1.out hq); clear hy hown2 hl2 HX HX1) | (go_at_call 34; refine (bits_any _ n _ hn (by assumption) (by assumption)).mono ?_; rintro e w' ⟨sl, rfl, hown, hq⟩; rw [bits_len] at hown; obtain ⟨g, cap, rfl, hg, hnc, hl, hx⟩ := own_parts hown hn1; have HX := Lib.hid hx; clear hx hown hl))
  rename_i hh
  clear hc0 hc1 hbx
  obtain ⟨hc0, hc1, hbx⟩ := hh
  go_wp2_with fail
  go_loopw [11, 14] (fun l i wr => ∃ k : Nat, k ≤ n ∧ i = .int .i64 k ∧ l = .bool (lessL false n (bitsR a n) (bitsR b n) k) ∧ ∃ m, wr = w'.drewN m) (fun _ i _ => n - (intOf i).toNat)
  case atStart => exact ⟨0, Nat.zero_le _, rfl, rfl, 0, rfl⟩
  case round =>
    obtain ⟨k, hk, rfl, rfl, m, rfl⟩ := hrel
    by_cases hlt : k < n
    · have cx := HX2.out k hlt
      have cy := HY.out k hlt
      have hlt' : (k : Int) < (n : Int) := by omega
      have hk0 : (0 : Int) ≤ (k : Int) := by omega
      generalize hxk : (bitsR a n).getD k false = xk at *
      generalize hyk : (bitsR b n).getD k false = yk at *
      cases xk <;> cases yk
      · have HL1 : Hid (lessL false n (bitsR a n) (bitsR b n) (k + 1) = lessL false n (bitsR a n) (bitsR b n) k) := Lib.hid (by rw [lessL, hxk, hyk]; rfl)
        clear hxk hyk
        go_wp2_with fail
        go_quiet (fail)
        go_wp2
        go_roundw
        case rel => exact ⟨k + 1, by omega, by go_num, by rw [HL1.out], _, rfl⟩
        case measure => simp [intOf]; omega
      · have HL1 : Hid (lessL false n (bitsR a n) (bitsR b n) (k + 1) = true) := Lib.hid (by rw [lessL, hxk, hyk]; rfl)
        clear hxk hyk
        go_wp2_with fail
        go_quiet (fail)
        go_wp2
        go_quiet (fail)
        go_wp2
        go_roundw
        case rel => exact ⟨k + 1, by omega, by go_num, by rw [HL1.out], _, rfl⟩
        case measure => simp [intOf]; omega
      · have HL1 : Hid (lessL false n (bitsR a n) (bitsR b n) (k + 1) = false) := Lib.hid (by rw [lessL, hxk, hyk]; rfl)
        clear hxk hyk
        go_wp2_with fail
        go_quiet (fail)
        go_wp2
        go_quiet (fail)
        go_wp2
        go_roundw
        case rel => exact ⟨k + 1, by omega, by go_num, by rw [HL1.out], _, rfl⟩
        case measure => simp [intOf]; omega
      · have HL1 : Hid (lessL false n (bitsR a n) (bitsR b n) (k + 1) = lessL false n (bitsR a n) (bitsR b n) k) := Lib.hid (by rw [lessL, hxk, hyk]; rfl)
        clear hxk hyk
        go_wp2_with fail
        go_quiet (fail)
        go_wp2
        go_roundw
        case rel => exact ⟨k + 1, by omega, by go_num, by rw [HL1.out], _, rfl⟩
        case measure => simp [intOf]; omega
    · obtain rfl : n = k := by omega
      rw [HLN.out]
      have hnl : ¬ ((n : Int) < (n : Int)) := by omega
      clear hlt
      cases less <;> cases same
      all_goals
        go_wp2
        go_ret2
        exact ⟨rfl, below_box (below_drewN' hbx m)⟩

set_option maxHeartbeats 8000000 in
theorem rtest_le_u (n : Nat) (a b : Int) (w : World) (hn1 : 1 ≤ n) (hn : n ≤ 64) (hr : rt n false = true) (hW : ((n : Int) == 1) = false) (ha0 : 0 ≤ a) (ha1 : a < 18446744073709551616) (hb0 : 0 ≤ b) (hb1 : b < 18446744073709551616) :
    Calls Tryd.prog 26 #[.agg #[.int .i64 n, .bool false], .string ⟨#[60, 61]⟩, .int .u64 a, .int .u64 b] w fun e w' =>
      e = .returned (.tuple #[.bool (cmpR ⟨#[60, 61]⟩ (lessL false n (bitsR a n) (bitsR b n) n) (normF n false a == normF n false b)), .int .i64 0]) ∧ Below w.heap.size w w' := by
  generalize hln : lessL false n (bitsR a n) (bitsR b n) n = less
  have HLN := Lib.hid hln
  clear hln
  generalize hsm : (normF n false a == normF n false b) = same
  have HSM := Lib.hid hsm
  clear hsm
  go_enter Tryd.func26, Tryd.ntmps26
  go_wp2_with fail
  refine (rright_any _ _ _).mono ?_
  rintro e w1 ⟨rfl, hb⟩
  have hbx : Below (w.heap.size + 1) (w.alloc (.cells #[.int .i64 n, .bool false] 23)) w1 := by simpa using hb
  have hc0 : w1.cell? ⟨w.heap.size, 0, none⟩ = some (.int .i64 n) := (hbx.cell (p := ⟨w.heap.size, 0, none⟩) (by simp)).trans (by simp [go_sem])
  have hc1 : w1.cell? ⟨w.heap.size, 1, none⟩ = some (.bool false) := (hbx.cell (p := ⟨w.heap.size, 1, none⟩) (by simp)).trans (by simp [go_sem])
  clear hb
  go_wp2_with fail
  clear hr
  go_region_held3 (fun w' => w'.cell? ⟨w.heap.size, 0, none⟩ = some (.int .i64 n) ∧ w'.cell? ⟨w.heap.size, 1, none⟩ = some (.bool false) ∧ Below (w.heap.size + 1) (w.alloc (.cells #[.int .i64 n, .bool false] 23)) w') (first | exact ⟨hc0, hc1, hbx.drew⟩ | exact keepX (by assumption) hq)
    (first | (go_at_call 20; refine (rnorm_any _ _ _ _ (by assumption) (by assumption)).mono ?_; rintro e w' ⟨rfl, hq⟩))
  rename_i hh
  clear hc0 hc1 hbx
  obtain ⟨hc0, hc1, hbx⟩ := hh
  rw [HSM.out]
  go_wp2_with fail
  go_region_held3 (fun w' => w'.cell? ⟨w.heap.size, 0, none⟩ = some (.int .i64 n) ∧ w'.cell? ⟨w.heap.size, 1, none⟩ = some (.bool false) ∧ Below (w.heap.size + 1) (w.alloc (.cells #[.int .i64 n, .bool false] 23)) w') (first | exact ⟨hc0, hc1, hbx.drew⟩ | exact keepX (by assumption) hq)
    (first | (go_at_call 34; have HX1 := HX; refine (bits_any _ n _ hn (by assumption) (by assumption)).mono ?_; rintro e w' ⟨sl2, rfl, hown2, hq⟩; rw [bits_len] at hown2; obtain ⟨g2, cap2, rfl, hg2, hnc2, hl2, hy⟩ := own_parts hown2 hn1; have HY := Lib.hid hy; have HX2 := Lib.hid (cells_on HX1.out hq); clear hy hown2 hl2 HX HX1) | (go_at_call 34; refine (bits_any _ n _ hn (by assumption) (by assumption)).mono ?_; rintro e w' ⟨sl, rfl, hown, hq⟩; rw [bits_len] at hown; obtain ⟨g, cap, rfl, hg, hnc, hl, hx⟩ := own_parts hown hn1; have HX := Lib.hid hx; clear hx hown hl))
  rename_i hh
  clear hc0 hc1 hbx
  obtain ⟨hc0, hc1, hbx⟩ := hh
  go_wp2_with fail
  go_loopw [11, 14] (fun l i wr => ∃ k : Nat, k ≤ n ∧ i = .int .i64 k ∧ l = .bool (lessL false n (bitsR a n) (bitsR b n) k) ∧ ∃ m, wr = w'.drewN m) (fun _ i _ => n - (intOf i).toNat)
  case atStart => exact ⟨0, Nat.zero_le _, rfl, rfl, 0, rfl⟩
  case round =>
    obtain ⟨k, hk, rfl, rfl, m, rfl⟩ := hrel
    by_cases hlt : k < n
    · have cx := HX2.out k hlt
      have cy := HY.out k hlt
      have hlt' : (k : Int) < (n : Int) := by omega
      have hk0 : (0 : Int) ≤ (k : Int) := by omega
      generalize hxk : (bitsR a n).getD k false = xk at *
      generalize hyk : (bitsR b n).getD k false = yk at *
      cases xk <;> cases yk
      · have HL1 : Hid (lessL false n (bitsR a n) (bitsR b n) (k + 1) = lessL false n (bitsR a n) (bitsR b n) k) := Lib.hid (by rw [lessL, hxk, hyk]; rfl)
        clear hxk hyk
        go_wp2_with fail
        go_quiet (fail)
        go_wp2
        go_roundw
        case rel => exact ⟨k + 1, by omega, by go_num, by rw [HL1.out], _, rfl⟩
        case measure => simp [intOf]; omega
      · have HL1 : Hid (lessL false n (bitsR a n) (bitsR b n) (k + 1) = true) := Lib.hid (by rw [lessL, hxk, hyk]; rfl)
        clear hxk hyk
        go_wp2_with fail
        go_quiet (fail)
        go_wp2
        go_quiet (fail)
        go_wp2
        go_roundw
        case rel => exact ⟨k + 1, by omega, by go_num, by rw [HL1.out], _, rfl⟩
        case measure => simp [intOf]; omega
      · have HL1 : Hid (lessL false n (bitsR a n) (bitsR b n) (k + 1) = false) := Lib.hid (by rw [lessL, hxk, hyk]; rfl)
        clear hxk hyk
        go_wp2_with fail
        go_quiet (fail)
        go_wp2
        go_quiet (fail)
        go_wp2
        go_roundw
        case rel => exact ⟨k + 1, by omega, by go_num, by rw [HL1.out], _, rfl⟩
        case measure => simp [intOf]; omega
      · have HL1 : Hid (lessL false n (bitsR a n) (bitsR b n) (k + 1) = lessL false n (bitsR a n) (bitsR b n) k) := Lib.hid (by rw [lessL, hxk, hyk]; rfl)
        clear hxk hyk
        go_wp2_with fail
        go_quiet (fail)
        go_wp2
        go_roundw
        case rel => exact ⟨k + 1, by omega, by go_num, by rw [HL1.out], _, rfl⟩
        case measure => simp [intOf]; omega
    · obtain rfl : n = k := by omega
      rw [HLN.out]
      have hnl : ¬ ((n : Int) < (n : Int)) := by omega
      clear hlt
      cases less <;> cases same
      all_goals
        go_wp2
        go_ret2
        exact ⟨rfl, below_box (below_drewN' hbx m)⟩

set_option maxHeartbeats 8000000 in
theorem rtest_gt_u (n : Nat) (a b : Int) (w : World) (hn1 : 1 ≤ n) (hn : n ≤ 64) (hr : rt n false = true) (hW : ((n : Int) == 1) = false) (ha0 : 0 ≤ a) (ha1 : a < 18446744073709551616) (hb0 : 0 ≤ b) (hb1 : b < 18446744073709551616) :
    Calls Tryd.prog 26 #[.agg #[.int .i64 n, .bool false], .string ⟨#[62]⟩, .int .u64 a, .int .u64 b] w fun e w' =>
      e = .returned (.tuple #[.bool (cmpR ⟨#[62]⟩ (lessL false n (bitsR a n) (bitsR b n) n) (normF n false a == normF n false b)), .int .i64 0]) ∧ Below w.heap.size w w' := by
  generalize hln : lessL false n (bitsR a n) (bitsR b n) n = less
  have HLN := Lib.hid hln
  clear hln
  generalize hsm : (normF n false a == normF n false b) = same
  have HSM := Lib.hid hsm
  clear hsm
  go_enter Tryd.func26, Tryd.ntmps26
  go_wp2_with fail
  refine (rright_any _ _ _).mono ?_
  rintro e w1 ⟨rfl, hb⟩
  have hbx : Below (w.heap.size + 1) (w.alloc (.cells #[.int .i64 n, .bool false] 23)) w1 := by simpa using hb
  have hc0 : w1.cell? ⟨w.heap.size, 0, none⟩ = some (.int .i64 n) := (hbx.cell (p := ⟨w.heap.size, 0, none⟩) (by simp)).trans (by simp [go_sem])
  have hc1 : w1.cell? ⟨w.heap.size, 1, none⟩ = some (.bool false) := (hbx.cell (p := ⟨w.heap.size, 1, none⟩) (by simp)).trans (by simp [go_sem])
  clear hb
  go_wp2_with fail
  clear hr
  go_region_held3 (fun w' => w'.cell? ⟨w.heap.size, 0, none⟩ = some (.int .i64 n) ∧ w'.cell? ⟨w.heap.size, 1, none⟩ = some (.bool false) ∧ Below (w.heap.size + 1) (w.alloc (.cells #[.int .i64 n, .bool false] 23)) w') (first | exact ⟨hc0, hc1, hbx.drew⟩ | exact keepX (by assumption) hq)
    (first | (go_at_call 20; refine (rnorm_any _ _ _ _ (by assumption) (by assumption)).mono ?_; rintro e w' ⟨rfl, hq⟩))
  rename_i hh
  clear hc0 hc1 hbx
  obtain ⟨hc0, hc1, hbx⟩ := hh
  rw [HSM.out]
  go_wp2_with fail
  go_region_held3 (fun w' => w'.cell? ⟨w.heap.size, 0, none⟩ = some (.int .i64 n) ∧ w'.cell? ⟨w.heap.size, 1, none⟩ = some (.bool false) ∧ Below (w.heap.size + 1) (w.alloc (.cells #[.int .i64 n, .bool false] 23)) w') (first | exact ⟨hc0, hc1, hbx.drew⟩ | exact keepX (by assumption) hq)
    (first | (go_at_call 34; have HX1 := HX; refine (bits_any _ n _ hn (by assumption) (by assumption)).mono ?_; rintro e w' ⟨sl2, rfl, hown2, hq⟩; rw [bits_len] at hown2; obtain ⟨g2, cap2, rfl, hg2, hnc2, hl2, hy⟩ := own_parts hown2 hn1; have HY := Lib.hid hy; have HX2 := Lib.hid (cells_on HX1.out hq); clear hy hown2 hl2 HX HX1) | (go_at_call 34; refine (bits_any _ n _ hn (by assumption) (by assumption)).mono ?_; rintro e w' ⟨sl, rfl, hown, hq⟩; rw [bits_len] at hown; obtain ⟨g, cap, rfl, hg, hnc, hl, hx⟩ := own_parts hown hn1; have HX := Lib.hid hx; clear hx hown hl))
  rename_i hh
  clear hc0 hc1 hbx
  obtain ⟨hc0, hc1, hbx⟩ := hh
  go_wp2_with fail
  go_loopw [11, 14] (fun l i wr => ∃ k : Nat, k ≤ n ∧ i = .int .i64 k ∧ l = .bool (lessL false n (bitsR a n) (bitsR b n) k) ∧ ∃ m, wr = w'.drewN m) (fun _ i _ => n - (intOf i).toNat)
  case atStart => exact ⟨0, Nat.zero_le _, rfl, rfl, 0, rfl⟩
  case round =>
    obtain ⟨k, hk, rfl, rfl, m, rfl⟩ := hrel
    by_cases hlt : k < n
    · have cx := HX2.out k hlt
      have cy := HY.out k hlt
      have hlt' : (k : Int) < (n : Int) := by omega
      have hk0 : (0 : Int) ≤ (k : Int) := by omega
      generalize hxk : (bitsR a n).getD k false = xk at *
      generalize hyk : (bitsR b n).getD k false = yk at *
      cases xk <;> cases yk
      · have HL1 : Hid (lessL false n (bitsR a n) (bitsR b n) (k + 1) = lessL false n (bitsR a n) (bitsR b n) k) := Lib.hid (by rw [lessL, hxk, hyk]; rfl)
        clear hxk hyk
        go_wp2_with fail
        go_quiet (fail)
        go_wp2
        go_roundw
        case rel => exact ⟨k + 1, by omega, by go_num, by rw [HL1.out], _, rfl⟩
        case measure => simp [intOf]; omega
      · have HL1 : Hid (lessL false n (bitsR a n) (bitsR b n) (k + 1) = true) := Lib.hid (by rw [lessL, hxk, hyk]; rfl)
        clear hxk hyk
        go_wp2_with fail
        go_quiet (fail)
        go_wp2
        go_quiet (fail)
        go_wp2
        go_roundw
        case rel => exact ⟨k + 1, by omega, by go_num, by rw [HL1.out], _, rfl⟩
        case measure => simp [intOf]; omega
      · have HL1 : Hid (lessL false n (bitsR a n) (bitsR b n) (k + 1) = false) := Lib.hid (by rw [lessL, hxk, hyk]; rfl)
        clear hxk hyk
        go_wp2_with fail
        go_quiet (fail)
        go_wp2
        go_quiet (fail)
        go_wp2
        go_roundw
        case rel => exact ⟨k + 1, by omega, by go_num, by rw [HL1.out], _, rfl⟩
        case measure => simp [intOf]; omega
      · have HL1 : Hid (lessL false n (bitsR a n) (bitsR b n) (k + 1) = lessL false n (bitsR a n) (bitsR b n) k) := Lib.hid (by rw [lessL, hxk, hyk]; rfl)
        clear hxk hyk
        go_wp2_with fail
        go_quiet (fail)
        go_wp2
        go_roundw
        case rel => exact ⟨k + 1, by omega, by go_num, by rw [HL1.out], _, rfl⟩
        case measure => simp [intOf]; omega
    · obtain rfl : n = k := by omega
      rw [HLN.out]
      have hnl : ¬ ((n : Int) < (n : Int)) := by omega
      clear hlt
      cases less <;> cases same
      all_goals
        go_wp2
        go_ret2
        exact ⟨rfl, below_box (below_drewN' hbx m)⟩

set_option maxHeartbeats 8000000 in
theorem rtest_ge_u (n : Nat) (a b : Int) (w : World) (hn1 : 1 ≤ n) (hn : n ≤ 64) (hr : rt n false = true) (hW : ((n : Int) == 1) = false) (ha0 : 0 ≤ a) (ha1 : a < 18446744073709551616) (hb0 : 0 ≤ b) (hb1 : b < 18446744073709551616) :
    Calls Tryd.prog 26 #[.agg #[.int .i64 n, .bool false], .string ⟨#[62, 61]⟩, .int .u64 a, .int .u64 b] w fun e w' =>
      e = .returned (.tuple #[.bool (cmpR ⟨#[62, 61]⟩ (lessL false n (bitsR a n) (bitsR b n) n) (normF n false a == normF n false b)), .int .i64 0]) ∧ Below w.heap.size w w' := by
  generalize hln : lessL false n (bitsR a n) (bitsR b n) n = less
  have HLN := Lib.hid hln
  clear hln
  generalize hsm : (normF n false a == normF n false b) = same
  have HSM := Lib.hid hsm
  clear hsm
  go_enter Tryd.func26, Tryd.ntmps26
  go_wp2_with fail
  refine (rright_any _ _ _).mono ?_
  rintro e w1 ⟨rfl, hb⟩
  have hbx : Below (w.heap.size + 1) (w.alloc (.cells #[.int .i64 n, .bool false] 23)) w1 := by simpa using hb
  have hc0 : w1.cell? ⟨w.heap.size, 0, none⟩ = some (.int .i64 n) := (hbx.cell (p := ⟨w.heap.size, 0, none⟩) (by simp)).trans (by simp [go_sem])
  have hc1 : w1.cell? ⟨w.heap.size, 1, none⟩ = some (.bool false) := (hbx.cell (p := ⟨w.heap.size, 1, none⟩) (by simp)).trans (by simp [go_sem])
  clear hb
  go_wp2_with fail
  clear hr
  go_region_held3 (fun w' => w'.cell? ⟨w.heap.size, 0, none⟩ = some (.int .i64 n) ∧ w'.cell? ⟨w.heap.size, 1, none⟩ = some (.bool false) ∧ Below (w.heap.size + 1) (w.alloc (.cells #[.int .i64 n, .bool false] 23)) w') (first | exact ⟨hc0, hc1, hbx.drew⟩ | exact keepX (by assumption) hq)
    (first | (go_at_call 20; refine (rnorm_any _ _ _ _ (by assumption) (by assumption)).mono ?_; rintro e w' ⟨rfl, hq⟩))
  rename_i hh
  clear hc0 hc1 hbx
  obtain ⟨hc0, hc1, hbx⟩ := hh
  rw [HSM.out]
  go_wp2_with fail
  go_region_held3 (fun w' => w'.cell? ⟨w.heap.size, 0, none⟩ = some (.int .i64 n) ∧ w'.cell? ⟨w.heap.size, 1, none⟩ = some (.bool false) ∧ Below (w.heap.size + 1) (w.alloc (.cells #[.int .i64 n, .bool false] 23)) w') (first | exact ⟨hc0, hc1, hbx.drew⟩ | exact keepX (by assumption) hq)
    (first | (go_at_call 34; have HX1 := HX; refine (bits_any _ n _ hn (by assumption) (by assumption)).mono ?_; rintro e w' ⟨sl2, rfl, hown2, hq⟩; rw [bits_len] at hown2; obtain ⟨g2, cap2, rfl, hg2, hnc2, hl2, hy⟩ := own_parts hown2 hn1; have HY := Lib.hid hy; have HX2 := Lib.hid (cells_on HX1.out hq); clear hy hown2 hl2 HX HX1) | (go_at_call 34; refine (bits_any _ n _ hn (by assumption) (by assumption)).mono ?_; rintro e w' ⟨sl, rfl, hown, hq⟩; rw [bits_len] at hown; obtain ⟨g, cap, rfl, hg, hnc, hl, hx⟩ := own_parts hown hn1; have HX := Lib.hid hx; clear hx hown hl))
  rename_i hh
  clear hc0 hc1 hbx
  obtain ⟨hc0, hc1, hbx⟩ := hh
  go_wp2_with fail
  go_loopw [11, 14] (fun l i wr => ∃ k : Nat, k ≤ n ∧ i = .int .i64 k ∧ l = .bool (lessL false n (bitsR a n) (bitsR b n) k) ∧ ∃ m, wr = w'.drewN m) (fun _ i _ => n - (intOf i).toNat)
  case atStart => exact ⟨0, Nat.zero_le _, rfl, rfl, 0, rfl⟩
  case round =>
    obtain ⟨k, hk, rfl, rfl, m, rfl⟩ := hrel
    by_cases hlt : k < n
    · have cx := HX2.out k hlt
      have cy := HY.out k hlt
      have hlt' : (k : Int) < (n : Int) := by omega
      have hk0 : (0 : Int) ≤ (k : Int) := by omega
      generalize hxk : (bitsR a n).getD k false = xk at *
      generalize hyk : (bitsR b n).getD k false = yk at *
      cases xk <;> cases yk
      · have HL1 : Hid (lessL false n (bitsR a n) (bitsR b n) (k + 1) = lessL false n (bitsR a n) (bitsR b n) k) := Lib.hid (by rw [lessL, hxk, hyk]; rfl)
        clear hxk hyk
        go_wp2_with fail
        go_quiet (fail)
        go_wp2
        go_roundw
        case rel => exact ⟨k + 1, by omega, by go_num, by rw [HL1.out], _, rfl⟩
        case measure => simp [intOf]; omega
      · have HL1 : Hid (lessL false n (bitsR a n) (bitsR b n) (k + 1) = true) := Lib.hid (by rw [lessL, hxk, hyk]; rfl)
        clear hxk hyk
        go_wp2_with fail
        go_quiet (fail)
        go_wp2
        go_quiet (fail)
        go_wp2
        go_roundw
        case rel => exact ⟨k + 1, by omega, by go_num, by rw [HL1.out], _, rfl⟩
        case measure => simp [intOf]; omega
      · have HL1 : Hid (lessL false n (bitsR a n) (bitsR b n) (k + 1) = false) := Lib.hid (by rw [lessL, hxk, hyk]; rfl)
        clear hxk hyk
        go_wp2_with fail
        go_quiet (fail)
        go_wp2
        go_quiet (fail)
        go_wp2
        go_roundw
        case rel => exact ⟨k + 1, by omega, by go_num, by rw [HL1.out], _, rfl⟩
        case measure => simp [intOf]; omega
      · have HL1 : Hid (lessL false n (bitsR a n) (bitsR b n) (k + 1) = lessL false n (bitsR a n) (bitsR b n) k) := Lib.hid (by rw [lessL, hxk, hyk]; rfl)
        clear hxk hyk
        go_wp2_with fail
        go_quiet (fail)
        go_wp2
        go_roundw
        case rel => exact ⟨k + 1, by omega, by go_num, by rw [HL1.out], _, rfl⟩
        case measure => simp [intOf]; omega
    · obtain rfl : n = k := by omega
      rw [HLN.out]
      have hnl : ¬ ((n : Int) < (n : Int)) := by omega
      clear hlt
      cases less <;> cases same
      all_goals
        go_wp2
        go_ret2
        exact ⟨rfl, below_box (below_drewN' hbx m)⟩

end Go.Proofs.YtpfdbigdkegncaaDoor
