/- The law WordShifts: its walk. -/
import Derived.Test.YtpfdbigdkegncaaDoorN
namespace Go.Proofs.YtpfdbigdkegncaaDoor
open Go.RowKit

def shx (W a : Int) (k : Nat) : Int := lowF W (lowF W a * 2 ^ k)
def shy (W a : Int) (k : Nat) : Int := lowF W a / 2 ^ k

theorem small_low {W n : Int} {S : Bool} (hr : rt W S = true) (hW : 1 < W) (h0 : 0 ≤ n) (h1 : n < 256) : lowF W n = n := by
  unfold lowF
  rcases rt_w hr with rfl | rfl | rfl | rfl | rfl
  · omega
  · show n % 2 ^ 8 = n
    omega
  · show n % 2 ^ 16 = n
    omega
  · show n % 2 ^ 32 = n
    omega
  · show n % 2 ^ 64 = n
    omega
theorem pow_split (k : Nat) (h : 64 ≤ k) : (2 : Int) ^ k = 18446744073709551616 * 2 ^ (k - 64) := by
  have : (2 : Int) ^ k = 2 ^ (64 + (k - 64)) := by rw [Nat.add_sub_cancel' h]
  rw [this, Int.pow_add]
  rfl
theorem shx_cap {W a : Int} {S : Bool} (hr : rt W S = true) (k : Nat) : lowF W (lowF W a * 2 ^ min k 64) = shx W a k := by
  by_cases h : k ≤ 64
  · rw [Nat.min_eq_left h]
    rfl
  · have h' : 64 ≤ k := by omega
    rw [Nat.min_eq_right h']
    unfold shx
    have z : ∀ x : Int, lowF W (lowF W a * (18446744073709551616 * x)) = 0 := by
      intro x
      obtain ⟨m, hm⟩ := pow_dvd hr
      unfold lowF
      rw [hm]
      have : (a % 2 ^ W.toNat) * (2 ^ W.toNat * m * x) = 2 ^ W.toNat * (m * x * (a % 2 ^ W.toNat)) := by
        rw [Int.mul_comm, Int.mul_assoc, Int.mul_assoc, Int.mul_assoc]
      rw [this, Int.mul_emod_right]
    rw [pow_split k h', z]
    have := z 1
    rw [Int.mul_one] at this
    exact this
theorem shy_cap {W a : Int} {S : Bool} (hr : rt W S = true) (k : Nat) : lowF W a / 2 ^ min k 64 = shy W a k := by
  by_cases h : k ≤ 64
  · rw [Nat.min_eq_left h]
    rfl
  · have h' : 64 ≤ k := by omega
    rw [Nat.min_eq_right h']
    unfold shy
    obtain ⟨l0, l1⟩ := low_lt (v := a) hr
    have e1 : lowF W a / 2 ^ 64 = 0 := Int.ediv_eq_zero_of_lt l0 l1
    have e2 : lowF W a / 2 ^ k = 0 := Int.ediv_eq_zero_of_lt l0 (by
      rw [pow_split k h']
      have : (1 : Int) ≤ 2 ^ (k - 64) := Int.pow_pos (by decide)
      omega)
    rw [e1, e2]
theorem shl_math {W a n : Int} {S : Bool} (hr : rt W S = true) (hW : 1 < W) (h0 : 0 ≤ n) (h1 : n < 256) : doF W S ⟨#[60, 60]⟩ a n = (shx W a n.toNat, 0) := by
  rw [doF_ok hr (opB_r hW (by simp)) (fun h => by cases h), small_low hr hW h0 h1]
  have e : opF W S ⟨#[60, 60]⟩ (lowF W a) n = IntKind.u64.wrap (lowF W a * 2 ^ min n.toNat 64) := rfl
  rw [e, low_u hr, shx_cap hr]
theorem shy_low {W a : Int} {S : Bool} (hr : rt W S = true) (k : Nat) : lowF W (shy W a k) = shy W a k := by
  unfold shy
  have hp : (0 : Int) ≤ 2 ^ k := Int.le_of_lt (Int.pow_pos (by decide))
  have h0 : 0 ≤ lowF W a / 2 ^ k := Int.ediv_nonneg (low_lt hr).1 hp
  have h1 : lowF W a / 2 ^ k ≤ lowF W a := Int.ediv_le_self _ (low_lt hr).1
  have h2 : lowF W a < 2 ^ W.toNat := Int.emod_lt_of_pos _ (Int.pow_pos (by decide))
  exact Int.emod_eq_of_lt h0 (by omega)
theorem shy_bd {W a : Int} {S : Bool} (hr : rt W S = true) (k : Nat) : 0 ≤ shy W a k ∧ shy W a k < 18446744073709551616 := by
  rw [← shy_low hr]
  exact low_lt hr
theorem shr_math {W a n : Int} (hr : rt W false = true) (hW : 1 < W) (h0 : 0 ≤ n) (h1 : n < 256) : doF W false ⟨#[62, 62]⟩ a n = (shy W a n.toNat, 0) := by
  rw [doF_ok hr (opB_r hW (by simp)) (fun h => by cases h), small_low hr hW h0 h1]
  have e : opF W false ⟨#[62, 62]⟩ (lowF W a) n = lowF W a / 2 ^ min n.toNat 64 := rfl
  rw [e, shy_cap hr, shy_low hr]
theorem dbl_math {W a : Int} {S : Bool} (hr : rt W S = true) (hW : 1 < W) (k : Nat) : doF W S ⟨#[42]⟩ (shx W a k) 2 = (shx W a (k + 1), 0) := by
  have e2 : lowF W 2 = 2 := small_low hr hW (by decide) (by decide)
  rw [doF_ok hr (opB_r hW (by simp)) (fun h => by cases h), e2]
  have e : opF W S ⟨#[42]⟩ (lowF W (shx W a k)) 2 = IntKind.u64.wrap (lowF W (shx W a k) * 2) := rfl
  rw [e, low_u hr]
  unfold shx
  rw [low_low hr, Int.pow_succ, ← Int.mul_assoc]
  exact congrArg (fun x => (x, (0 : Int))) (low_cong_mul (low_low hr) rfl)
theorem hlv_math {W a : Int} (hr : rt W false = true) (hW : 1 < W) (k : Nat) : doF W false ⟨#[47]⟩ (shy W a k) 2 = (shy W a (k + 1), 0) := by
  have e2 : lowF W 2 = 2 := small_low hr hW (by decide) (by decide)
  rw [doF_ok hr (opB_r hW (by simp)) (fun _ => by rw [e2]; decide), e2, shy_low hr]
  have e : opF W false ⟨#[47]⟩ (shy W a k) 2 = shy W a k / 2 := rfl
  have e3 : shy W a k / 2 = shy W a (k + 1) := by
    unfold shy
    rw [Int.ediv_ediv_of_nonneg (Int.le_of_lt (Int.pow_pos (by decide))), ← Int.pow_succ]
  rw [e, e3, shy_low hr]
theorem shx_bd {W a : Int} {S : Bool} (hr : rt W S = true) (k : Nat) : 0 ≤ shx W a k ∧ shx W a k < 18446744073709551616 := low_lt hr
theorem shx_zero {W a : Int} {S : Bool} (hr : rt W S = true) : shx W a 0 = lowF W a := by
  unfold shx
  rw [Int.pow_zero, Int.mul_one, low_low hr]
theorem shy_zero {W a : Int} : shy W a 0 = lowF W a := by
  unfold shy
  rw [Int.pow_zero, Int.ediv_one]
theorem shifts_err (W : Int) (S : Bool) (a n : Int) (h : ¬ (rt W S = true ∧ 1 < W)) : ∃ e : Int, (e = 10 ∨ e = 12) ∧ doF W S ⟨#[60, 60]⟩ a n = (0, e) ∧ doF W S ⟨#[62, 62]⟩ a n = (0, e) := by
  by_cases hr : rt W S = false
  · exact ⟨10, .inl rfl, by simp [doF, hr], by simp [doF, hr]⟩
  have hr' : rt W S = true := by simpa using hr
  have hW : ¬ 1 < W := fun hW => h ⟨hr', hW⟩
  exact ⟨12, .inr rfl, by simp [doF, hr', opB_n (s := ⟨#[60, 60]⟩) hW (by simp)], by simp [doF, hr', opB_n (s := ⟨#[62, 62]⟩) hW (by simp)]⟩

set_option maxHeartbeats 1000000 in
theorem shifts_no (W : Int) (S : Bool) (a n : Int) (w : World) (ht : Tab w) (ha0 : 0 ≤ a) (ha1 : a < 18446744073709551616) (hn0 : 0 ≤ n) (hn1 : n < 256) (h : ¬ (rt W S = true ∧ 1 < W)) :
    Calls Tryd.prog 11 #[.agg #[.int .i64 W, .bool S], .int .u64 a, .int .u8 n] w fun e w' => e = .returned (.bool true) ∧ Below w.heap.size w w' := by
  obtain ⟨e, he, h1, h2⟩ := shifts_err W S a (n % 70) h
  have H0 := On.start ht W S
  have H1 := Lib.hid h1
  have H2 := Lib.hid h2
  have m0 : 0 ≤ n % 70 := by omega
  have m1 : n % 70 < 70 := by omega
  clear h1 h2 ht h
  rcases he with rfl | rfl
  all_goals
    go_enter Tryd.func11, Tryd.ntmps11
    go_wp2_with fail
    refine (do_c H1.out _ H0.tab ha0 ha1 m0 (by omega)).mono ?_; rintro e w1 ⟨rfl, hq⟩
    obtain ⟨c0, c1, ht, ho⟩ := H0.step hq
    clear H0 hq
    go_wp2_with fail
    refine (do_c H2.out _ ht ha0 ha1 m0 (by omega)).mono ?_; rintro e w2 ⟨rfl, hq⟩
    obtain ⟨_, _, ht2, ho2⟩ := On.step ⟨c0, c1, ht, ho⟩ hq
    clear c0 c1 hq
    go_wp2_with fail
    refine (awake_any _ ht2).mono ?_; rintro e w3 ⟨rfl, hq⟩
    have ho' := ho2.trans (hq.mono ho2.size)
    go_wp2
    go_ret
    exact ⟨rfl, ho'⟩

theorem keepT {w0 w w' : World} {p p' : Addr} {v v' : Value} (h : w.cell? p = some v ∧ w.cell? p' = some v' ∧ Tab w ∧ Below w0.heap.size w0 w) (hb : Below w.heap.size w w') :
    w'.cell? p = some v ∧ w'.cell? p' = some v' ∧ Tab w' ∧ Below w0.heap.size w0 w' :=
  ⟨(hb.cell (cell_lt h.1)).trans h.1, (hb.cell (cell_lt h.2.1)).trans h.2.1, h.2.2.1.below hb, h.2.2.2.trans (hb.mono h.2.2.2.size)⟩

set_option maxHeartbeats 4000000 in
theorem shifts_u (W : Int) (a n : Int) (w : World) (ht : Tab w) (ha0 : 0 ≤ a) (ha1 : a < 18446744073709551616) (hn0 : 0 ≤ n) (hn1 : n < 256) (hr : rt W false = true) (hW : 1 < W) :
    Calls Tryd.prog 11 #[.agg #[.int .i64 W, .bool false], .int .u64 a, .int .u8 n] w fun e w' => e = .returned (.bool true) ∧ Below w.heap.size w w' := by
  have m0 : 0 ≤ n % 70 := by omega
  have m1 : n % 70 < 70 := by omega
  obtain ⟨m, hm⟩ := Int.eq_ofNat_of_zero_le m0
  have hm70 : m < 70 := by omega
  have h1 : doF W false ⟨#[60, 60]⟩ a (m : Int) = (shx W a m, 0) := shl_math (n := (m : Int)) hr hW (by omega) (by omega)
  have h2 : doF W false ⟨#[62, 62]⟩ a (m : Int) = (shy W a m, 0) := shr_math (n := (m : Int)) hr hW (by omega) (by omega)
  have hnm : normF W false a = lowF W a := if_pos hr
  have H0 := On.start ht W false
  have H1 := Lib.hid h1
  have H2 := Lib.hid h2
  have HR := Lib.hid hr
  have HN := Lib.hid hnm
  have HX := Lib.hid (shx_zero (a := a) hr)
  have HY := Lib.hid (shy_zero (W := W) (a := a))
  clear h1 h2 ht hr hnm
  go_enter Tryd.func11, Tryd.ntmps11
  go_wp2_with fail
  clear hm m0 m1
  refine (do_c H1.out _ H0.tab ha0 ha1 (by omega) (by omega)).mono ?_; rintro e w1 ⟨rfl, hq⟩
  obtain ⟨c0, c1, ht, ho⟩ := H0.step hq
  clear H0 hq
  go_wp2_with fail
  refine (do_c H2.out _ ht ha0 ha1 (by omega) (by omega)).mono ?_; rintro e w2 ⟨rfl, hq⟩
  obtain ⟨d0, d1, ht2, ho2⟩ := On.step ⟨c0, c1, ht, ho⟩ hq
  clear c0 c1 hq ht ho
  go_wp2_with fail
  go_region_held3 (fun w' => w'.cell? ⟨w.heap.size, 0, none⟩ = some (.int .i64 W) ∧ w'.cell? ⟨w.heap.size, 1, none⟩ = some (.bool false) ∧ Tab w' ∧ Below w.heap.size w w') (first | exact ⟨d0, d1, ht2.drew, ho2.drew⟩ | exact keepT (by assumption) hq)
      (first | (go_at_call 19; refine (norm_any _ _ _ _ (by first | exact ht2.drew | exact (And.left (And.right (And.right (by assumption))))) ha0 ha1).mono ?_; rintro e w' ⟨rfl, hq⟩))
  rename_i hh
  clear d0 d1 ht2 ho2
  obtain ⟨d0, d1, ht2, ho2⟩ := hh
  rw [HN.out]
  go_wp2_with fail
  go_loopw [12, 13, 14] (fun x y i wr => ∃ k : Nat, k ≤ m ∧ i = .int .u64 k ∧ x = .int .u64 (shx W a k) ∧ y = .int .u64 (shy W a k) ∧ On w W false wr) (fun _ _ i _ => m - (intOf i).toNat)
  case atStart => exact ⟨0, Nat.zero_le _, rfl, by rw [HX.out], by rw [HY.out], ⟨d0, d1, ht2, ho2⟩⟩
  case round =>
    obtain ⟨k, hk, rfl, rfl, rfl, a0, a1, at1, ao⟩ := hrel
    clear d0 d1 ht2 ho2
    by_cases hlt : k < m
    · have hlt' : (k : Int) < m := by omega
      have hk1 : (k : Int) + 1 < 18446744073709551616 := by omega
      go_wp2_with fail
      refine (do_c (dbl_math HR.out hW k) _ at1 (shx_bd HR.out k).1 (shx_bd HR.out k).2 (by decide) (by decide)).mono ?_; rintro e wa ⟨rfl, hq⟩
      have OA := On.step ⟨a0, a1, at1, ao⟩ hq
      clear a0 a1 at1 ao hq
      obtain ⟨a0, a1, at1, ao⟩ := OA
      go_wp2_with fail
      refine (do_c (hlv_math HR.out hW k) _ (by assumption) (shy_bd HR.out k).1 (shy_bd HR.out k).2 (by decide) (by decide)).mono ?_; rintro e wb ⟨rfl, hq⟩
      have OB := On.step ⟨a0, a1, at1, ao⟩ hq
      clear a0 a1 at1 ao hq
      go_wp2
      go_roundw
      case rel => exact ⟨k + 1, by omega, by go_num, rfl, rfl, OB⟩
      case measure => simp [intOf]; omega
    · obtain rfl : k = m := by omega
      clear hlt hk
      go_wp2_with fail
      refine (awake_any _ at1).mono ?_; rintro e wz ⟨rfl, hq⟩
      obtain ⟨b0, b1, _, bo⟩ := On.step ⟨a0, a1, at1, ao⟩ hq
      clear a0 a1 at1 ao hq
      go_wp2
      go_ret
      exact ⟨rfl, bo⟩

set_option maxHeartbeats 4000000 in
theorem shifts_s (W : Int) (a n : Int) (w : World) (ht : Tab w) (ha0 : 0 ≤ a) (ha1 : a < 18446744073709551616) (hn0 : 0 ≤ n) (hn1 : n < 256) (hr : rt W true = true) (hW : 1 < W) :
    Calls Tryd.prog 11 #[.agg #[.int .i64 W, .bool true], .int .u64 a, .int .u8 n] w fun e w' => e = .returned (.bool true) ∧ Below w.heap.size w w' := by
  have m0 : 0 ≤ n % 70 := by omega
  have m1 : n % 70 < 70 := by omega
  obtain ⟨m, hm⟩ := Int.eq_ofNat_of_zero_le m0
  have hm70 : m < 70 := by omega
  have h1 : doF W true ⟨#[60, 60]⟩ a (m : Int) = (shx W a m, 0) := shl_math (n := (m : Int)) hr hW (by omega) (by omega)
  obtain ⟨z, h2⟩ : ∃ z, doF W true ⟨#[62, 62]⟩ a (m : Int) = (z, 0) := ⟨_, doF_ok hr (opB_r hW (by simp)) (fun h => by cases h)⟩
  have hnm : normF W true a = lowF W a := if_pos hr
  have H0 := On.start ht W true
  have H1 := Lib.hid h1
  have H2 := Lib.hid h2
  have HR := Lib.hid hr
  have HN := Lib.hid hnm
  have HX := Lib.hid (shx_zero (a := a) hr)
  have HY := Lib.hid (shy_zero (W := W) (a := a))
  clear h1 h2 ht hr hnm
  go_enter Tryd.func11, Tryd.ntmps11
  go_wp2_with fail
  clear hm m0 m1
  refine (do_c H1.out _ H0.tab ha0 ha1 (by omega) (by omega)).mono ?_; rintro e w1 ⟨rfl, hq⟩
  obtain ⟨c0, c1, ht, ho⟩ := H0.step hq
  clear H0 hq
  go_wp2_with fail
  refine (do_c H2.out _ ht ha0 ha1 (by omega) (by omega)).mono ?_; rintro e w2 ⟨rfl, hq⟩
  obtain ⟨d0, d1, ht2, ho2⟩ := On.step ⟨c0, c1, ht, ho⟩ hq
  clear c0 c1 hq ht ho
  go_wp2_with fail
  go_region_held3 (fun w' => w'.cell? ⟨w.heap.size, 0, none⟩ = some (.int .i64 W) ∧ w'.cell? ⟨w.heap.size, 1, none⟩ = some (.bool true) ∧ Tab w' ∧ Below w.heap.size w w') (first | exact ⟨d0, d1, ht2.drew, ho2.drew⟩ | exact keepT (by assumption) hq)
      (first | (go_at_call 19; refine (norm_any _ _ _ _ (by first | exact ht2.drew | exact (And.left (And.right (And.right (by assumption))))) ha0 ha1).mono ?_; rintro e w' ⟨rfl, hq⟩))
  rename_i hh
  clear d0 d1 ht2 ho2
  obtain ⟨d0, d1, ht2, ho2⟩ := hh
  rw [HN.out]
  go_wp2_with fail
  go_loopw [12, 13, 14] (fun x y i wr => ∃ k : Nat, k ≤ m ∧ i = .int .u64 k ∧ x = .int .u64 (shx W a k) ∧ y = .int .u64 (lowF W a) ∧ On w W true wr) (fun _ _ i _ => m - (intOf i).toNat)
  case atStart => exact ⟨0, Nat.zero_le _, rfl, by rw [HX.out], rfl, ⟨d0, d1, ht2, ho2⟩⟩
  case round =>
    obtain ⟨k, hk, rfl, rfl, rfl, a0, a1, at1, ao⟩ := hrel
    clear d0 d1 ht2 ho2
    by_cases hlt : k < m
    · have hlt' : (k : Int) < m := by omega
      have hk1 : (k : Int) + 1 < 18446744073709551616 := by omega
      go_wp2_with fail
      refine (do_c (dbl_math HR.out hW k) _ at1 (shx_bd HR.out k).1 (shx_bd HR.out k).2 (by decide) (by decide)).mono ?_; rintro e wa ⟨rfl, hq⟩
      have OA := On.step ⟨a0, a1, at1, ao⟩ hq
      clear a0 a1 at1 ao hq
      obtain ⟨a0, a1, at1, ao⟩ := OA
      go_wp2
      go_roundw
      case rel => exact ⟨k + 1, by omega, by go_num, rfl, rfl, ⟨a0, a1, at1, ao⟩⟩
      case measure => simp [intOf]; omega
    · obtain rfl : k = m := by omega
      clear hlt hk
      go_wp2_with fail
      refine (awake_any _ at1).mono ?_; rintro e wz ⟨rfl, hq⟩
      obtain ⟨b0, b1, _, bo⟩ := On.step ⟨a0, a1, at1, ao⟩ hq
      clear a0 a1 at1 ao hq
      go_wp2
      go_ret
      exact ⟨rfl, bo⟩

theorem shifts_law (W : Int) (S : Bool) (a n : Int) (w : World) (ht : Tab w) (ha0 : 0 ≤ a) (ha1 : a < 18446744073709551616) (hn0 : 0 ≤ n) (hn1 : n < 256) :
    Calls Tryd.prog 11 #[.agg #[.int .i64 W, .bool S], .int .u64 a, .int .u8 n] w fun e w' => e = .returned (.bool true) ∧ Below w.heap.size w w' := by
  by_cases h : rt W S = true ∧ 1 < W
  · cases S
    · exact shifts_u W a n w ht ha0 ha1 hn0 hn1 h.1 h.2
    · exact shifts_s W a n w ht ha0 ha1 hn0 hn1 h.1 h.2
  · exact shifts_no W S a n w ht ha0 ha1 hn0 hn1 h
end Go.Proofs.YtpfdbigdkegncaaDoor
