/- What skuaref01's Do returns is what word's Do returns: plain arithmetic. -/
import Derived.Test.YtpfdbigdkegncaaDoorDg
namespace Go.Proofs.YtpfdbigdkegncaaDoor
open Go.RowKit

/-- The size of a value with a sign. -/
theorem sz_s {W : Int} {n : Nat} (hr : rt W true = true) (hW : W = n) (v : Int) (hl : lowF W v = v) :
    (sgn true v n = true ∧ szF true v n = -(stF W true v) ∧ stF W true v < 0 ∧ stF W true v = v - 2 ^ n) ∨ (sgn true v n = false ∧ szF true v n = stF W true v ∧ 0 ≤ stF W true v ∧ stF W true v = v) := by
  have hn : n = 8 ∨ n = 16 ∨ n = 32 ∨ n = 64 := by
    rcases rt_cases hr with ⟨_, h⟩ | h
    · cases h
    · omega
  subst hW
  unfold szF
  rw [wide_val, sgn_val v n (by omega)]
  unfold stF
  unfold lowF at hl
  rw [if_pos rfl]
  rcases hn with rfl | rfl | rfl | rfl
  · have h8 : v % 2 ^ 8 = v := hl
    by_cases h : v / 2 ^ 7 % 2 = 1
    · have e : (v / 2 ^ (8 - 1) % 2 == 1) = true := by simpa using h
      rw [e, if_pos rfl, if_pos rfl, u64_wrap]
      refine .inl ⟨rfl, ?_, ?_, ?_⟩
      · show (0 - (v % 2 ^ 8 + 2 ^ 8 * (2 ^ 56 - 1))) % 18446744073709551616 = -((v + 2 ^ 7) % 2 ^ 8 - 2 ^ 7)
        omega
      · show (v + 2 ^ 7) % 2 ^ 8 - 2 ^ 7 < 0
        omega
      · show (v + 2 ^ 7) % 2 ^ 8 - 2 ^ 7 = v - 2 ^ 8
        omega
    · have e : (v / 2 ^ (8 - 1) % 2 == 1) = false := by simpa using h
      rw [e]
      refine .inr ⟨rfl, ?_, ?_, ?_⟩
      · show v % 2 ^ 8 + 2 ^ 8 * 0 = (v + 2 ^ 7) % 2 ^ 8 - 2 ^ 7
        omega
      · show 0 ≤ (v + 2 ^ 7) % 2 ^ 8 - 2 ^ 7
        omega
      · show (v + 2 ^ 7) % 2 ^ 8 - 2 ^ 7 = v
        omega
  · have h8 : v % 2 ^ 16 = v := hl
    by_cases h : v / 2 ^ 15 % 2 = 1
    · have e : (v / 2 ^ (16 - 1) % 2 == 1) = true := by simpa using h
      rw [e, if_pos rfl, if_pos rfl, u64_wrap]
      refine .inl ⟨rfl, ?_, ?_, ?_⟩
      · show (0 - (v % 2 ^ 16 + 2 ^ 16 * (2 ^ 48 - 1))) % 18446744073709551616 = -((v + 2 ^ 15) % 2 ^ 16 - 2 ^ 15)
        omega
      · show (v + 2 ^ 15) % 2 ^ 16 - 2 ^ 15 < 0
        omega
      · show (v + 2 ^ 15) % 2 ^ 16 - 2 ^ 15 = v - 2 ^ 16
        omega
    · have e : (v / 2 ^ (16 - 1) % 2 == 1) = false := by simpa using h
      rw [e]
      refine .inr ⟨rfl, ?_, ?_, ?_⟩
      · show v % 2 ^ 16 + 2 ^ 16 * 0 = (v + 2 ^ 15) % 2 ^ 16 - 2 ^ 15
        omega
      · show 0 ≤ (v + 2 ^ 15) % 2 ^ 16 - 2 ^ 15
        omega
      · show (v + 2 ^ 15) % 2 ^ 16 - 2 ^ 15 = v
        omega
  · have h8 : v % 2 ^ 32 = v := hl
    by_cases h : v / 2 ^ 31 % 2 = 1
    · have e : (v / 2 ^ (32 - 1) % 2 == 1) = true := by simpa using h
      rw [e, if_pos rfl, if_pos rfl, u64_wrap]
      refine .inl ⟨rfl, ?_, ?_, ?_⟩
      · show (0 - (v % 2 ^ 32 + 2 ^ 32 * (2 ^ 32 - 1))) % 18446744073709551616 = -((v + 2 ^ 31) % 2 ^ 32 - 2 ^ 31)
        omega
      · show (v + 2 ^ 31) % 2 ^ 32 - 2 ^ 31 < 0
        omega
      · show (v + 2 ^ 31) % 2 ^ 32 - 2 ^ 31 = v - 2 ^ 32
        omega
    · have e : (v / 2 ^ (32 - 1) % 2 == 1) = false := by simpa using h
      rw [e]
      refine .inr ⟨rfl, ?_, ?_, ?_⟩
      · show v % 2 ^ 32 + 2 ^ 32 * 0 = (v + 2 ^ 31) % 2 ^ 32 - 2 ^ 31
        omega
      · show 0 ≤ (v + 2 ^ 31) % 2 ^ 32 - 2 ^ 31
        omega
      · show (v + 2 ^ 31) % 2 ^ 32 - 2 ^ 31 = v
        omega
  · have h8 : v % 2 ^ 64 = v := hl
    by_cases h : v / 2 ^ 63 % 2 = 1
    · have e : (v / 2 ^ (64 - 1) % 2 == 1) = true := by simpa using h
      rw [e, if_pos rfl, if_pos rfl, u64_wrap]
      refine .inl ⟨rfl, ?_, ?_, ?_⟩
      · show (0 - (v % 2 ^ 64 + 2 ^ 64 * (2 ^ 0 - 1))) % 18446744073709551616 = -((v + 2 ^ 63) % 2 ^ 64 - 2 ^ 63)
        omega
      · show (v + 2 ^ 63) % 2 ^ 64 - 2 ^ 63 < 0
        omega
      · show (v + 2 ^ 63) % 2 ^ 64 - 2 ^ 63 = v - 2 ^ 64
        omega
    · have e : (v / 2 ^ (64 - 1) % 2 == 1) = false := by simpa using h
      rw [e]
      refine .inr ⟨rfl, ?_, ?_, ?_⟩
      · show v % 2 ^ 64 + 2 ^ 64 * 0 = (v + 2 ^ 63) % 2 ^ 64 - 2 ^ 63
        omega
      · show 0 ≤ (v + 2 ^ 63) % 2 ^ 64 - 2 ^ 63
        omega
      · show (v + 2 ^ 63) % 2 ^ 64 - 2 ^ 63 = v
        omega
theorem sz_u {W : Int} {n : Nat} (hW : W = n) (v : Int) (hl : lowF W v = v) : sgn false v n = false ∧ szF false v n = v := by
  refine ⟨rfl, ?_⟩
  have : szF false v n = valL (wideL false v n) := rfl
  rw [this, wide_val]
  have e : sgn false v n = false := rfl
  rw [e]
  subst hW
  unfold lowF at hl
  have : v % 2 ^ n = v := hl
  simp [this]
theorem sz_pos {W : Int} {S : Bool} {n : Nat} (hr : rt W S = true) (hW : W = n) (v : Int) (hl : lowF W v = v) (h0 : 0 ≤ v) (hz : v ≠ 0) : 1 ≤ szF S v n := by
  cases S
  · rw [(sz_u hW v hl).2]
    omega
  · have hnz := st_nz hr h0 hl hz
    rcases sz_s hr hW v hl with ⟨_, h1, h2, _⟩ | ⟨_, h1, h2, _⟩ <;> rw [h1] <;> omega

theorem div_val {W : Int} {S : Bool} {n : Nat} (hr : rt W S = true) (hW : W = n) (x y : Int) (hx : lowF W x = x) (hy : lowF W y = y) :
    lowF W (qtF (sgn S x n) (sgn S y n) (szF S x n) (szF S y n)) = lowF W (divF W S x y) := by
  cases S
  · obtain ⟨e1, e2⟩ := sz_u hW x hx
    obtain ⟨e3, e4⟩ := sz_u hW y hy
    rw [e1, e2, e3, e4]
    rfl
  · have ed : divF W true x y = IntKind.u64.wrap (IntKind.i64.wrap ((stF W true x).tdiv (stF W true y))) := rfl
    rw [ed, low_u hr, low_i hr]
    have neg : ∀ q : Int, lowF W (IntKind.u64.wrap (0 - q)) = lowF W (-q) := fun q => by rw [low_u hr, Int.zero_sub]
    rcases sz_s hr hW x hx with ⟨s1, z1, p1, _⟩ | ⟨s1, z1, p1, _⟩ <;> rcases sz_s hr hW y hy with ⟨s2, z2, p2, _⟩ | ⟨s2, z2, p2, _⟩ <;> rw [s1, z1, s2, z2] <;> unfold qtF
    · rw [if_pos rfl, ← Int.tdiv_eq_ediv_of_nonneg (by omega), Int.neg_tdiv, Int.tdiv_neg, Int.neg_neg]
    · rw [if_neg (by decide), neg, ← Int.tdiv_eq_ediv_of_nonneg (by omega), Int.neg_tdiv, Int.neg_neg]
    · rw [if_neg (by decide), neg, ← Int.tdiv_eq_ediv_of_nonneg (by omega), Int.tdiv_neg, Int.neg_neg]
    · rw [if_pos rfl, ← Int.tdiv_eq_ediv_of_nonneg (by omega)]
theorem rem_val {W : Int} {S : Bool} {n : Nat} (hr : rt W S = true) (hW : W = n) (x y : Int) (hx : lowF W x = x) (hy : lowF W y = y) :
    lowF W (rsF (sgn S x n) (szF S x n) (szF S y n)) = lowF W (remF W S x y) := by
  cases S
  · obtain ⟨e1, e2⟩ := sz_u hW x hx
    obtain ⟨_, e4⟩ := sz_u hW y hy
    rw [e1, e2, e4]
    rfl
  · have ed : remF W true x y = IntKind.u64.wrap ((stF W true x).tmod (stF W true y)) := rfl
    rw [ed, low_u hr]
    have neg : ∀ q : Int, lowF W (IntKind.u64.wrap (0 - q)) = lowF W (-q) := fun q => by rw [low_u hr, Int.zero_sub]
    rcases sz_s hr hW x hx with ⟨s1, z1, p1, _⟩ | ⟨s1, z1, p1, _⟩ <;> rcases sz_s hr hW y hy with ⟨s2, z2, p2, _⟩ | ⟨s2, z2, p2, _⟩ <;> rw [s1, z1, z2] <;> unfold rsF
    · rw [if_pos rfl, neg, ← Int.tmod_eq_emod_of_nonneg (by omega), Int.neg_tmod, Int.tmod_neg, Int.neg_neg]
    · rw [if_pos rfl, neg, ← Int.tmod_eq_emod_of_nonneg (by omega), Int.neg_tmod, Int.neg_neg]
    · rw [if_neg (by decide), ← Int.tmod_eq_emod_of_nonneg (by omega), Int.tmod_neg]
    · rw [if_neg (by decide), ← Int.tmod_eq_emod_of_nonneg (by omega)]
theorem shl_val {W : Int} {S : Bool} {n : Nat} (hr : rt W S = true) (hW : W = n) (x : Int) (m : Nat) : lowF W (valL (SL (bitsR x n) n m)) = lowF W (IntKind.u64.wrap (x * 2 ^ m)) := by
  rw [SL_val (bits_len x n), val_bits, low_u hr]
  have e : (2 ^ m * (x % 2 ^ n)) % 2 ^ n = lowF W (2 ^ m * lowF W x) := by rw [hW]; rfl
  rw [e, low_low hr, Int.mul_comm x]
  exact low_cong_mul rfl (low_low hr)
theorem shr_val {W : Int} {S : Bool} {n : Nat} (hr : rt W S = true) (hW : W = n) (x y : Int) (hx : lowF W x = x) : lowF W (valL (SR (bitsR x n) (sgn S x n) (min y.toNat 64))) = lowF W (shrF W S x y) := by
  rw [SR_val, val_bits, bits_len]
  have e : x % 2 ^ n = x := by
    have : lowF W x = x % 2 ^ n := by rw [hW]; rfl
    omega
  rw [e]
  cases S
  · have e1 : sgn false x n = false := rfl
    have e2 : shrF W false x y = x / 2 ^ min y.toNat 64 := rfl
    rw [e1, e2]
    simp
  · have e2 : shrF W true x y = IntKind.u64.wrap (stF W true x / 2 ^ min y.toNat 64) := rfl
    rw [e2, low_u hr]
    generalize min y.toNat 64 = m
    have hp : (2 : Int) ^ m ≠ 0 := Int.ne_of_gt (Int.pow_pos (by decide))
    rcases sz_s hr hW x hx with ⟨s1, _, _, e3⟩ | ⟨s1, _, _, e3⟩
    · rw [s1, e3, if_pos rfl]
      have e4 : x + 2 ^ n * (2 ^ m - 1) = (x - 2 ^ n) + 2 ^ m * 2 ^ n := by
        rw [Int.mul_sub, Int.mul_comm (2 ^ n) (2 ^ m)]
        omega
      rw [e4, Int.add_mul_ediv_left _ _ hp]
      subst hW
      show ((x - 2 ^ n) / 2 ^ m + 2 ^ n) % 2 ^ n = ((x - 2 ^ n) / 2 ^ m) % 2 ^ n
      rw [Int.add_emod_right]
    · rw [s1, e3, if_neg (by decide)]
      simp

theorem nat_of {x : Int} (h : 0 ≤ x) : ((x.toNat : Nat) : Int) = x := Int.toNat_of_nonneg h
theorem bit_val {W : Int} {n : Nat} (hW : W = n) (k : Nat) : (((k % 2 ^ n : Nat)) : Int) = lowF W (k : Int) := by
  subst hW
  unfold lowF
  show ((k % 2 ^ n : Nat) : Int) = (k : Int) % 2 ^ n
  rw [Int.natCast_emod, Int.natCast_pow]
  rfl

theorem rdo_any (W : Int) (S : Bool) (s : ByteArray) (a b : Int) (w : World) (ha0 : 0 ≤ a) (ha1 : a < 18446744073709551616) (hb0 : 0 ≤ b) (hb1 : b < 18446744073709551616) :
    Calls Tryd.prog 24 #[.agg #[.int .i64 W, .bool S], .string s, .int .u64 a, .int .u64 b] w fun e w' => e = .returned (.tuple #[.int .u64 (doF W S s a b).1, .int .i64 (doF W S s a b).2]) ∧ Below w.heap.size w w' := by
  by_cases hr : rt W S = false
  · have e : doF W S s a b = (0, 10) := if_pos hr
    rw [e]
    exact rdo_type W S s a b w hr
  have hr' : rt W S = true := by simpa using hr
  obtain ⟨n, hW, hn1, hn⟩ := rt_nat hr'
  have xb := low_lt (v := a) hr'
  have yb := low_lt (v := b) hr'
  have hx : normF n S a = lowF W a := by rw [← hW]; exact if_pos hr'
  have hy : normF n S b = lowF W b := by rw [← hW]; exact if_pos hr'
  have hrn : rt n S = true := by rw [← hW]; exact hr'
  have xl := low_low (v := a) hr'
  have yl := low_low (v := b) hr'
  have nf : ∀ v, normF n S v = lowF W v := fun v => by rw [← hW]; exact if_pos hr'
  by_cases k0 : s = ⟨#[38]⟩
  · subst k0
    have e : doF W S ⟨#[38]⟩ a b = (lowF W (opF W S ⟨#[38]⟩ (lowF W a) (lowF W b)), 0) := doF_ok hr' (by simp [opB]) (fun h => by cases h)
    have e2 : lowF W (opF W S ⟨#[38]⟩ (lowF W a) (lowF W b)) = valL (List.zipWith (· && ·) (bitsR (lowF W a) n) (bitsR (lowF W b) n)) := by
      have := val_and n (lowF W a).toNat (lowF W b).toNat
      rw [nat_of xb.1, nat_of yb.1] at this
      rw [this, bit_val hW]
      rfl
    rw [e, e2]
    have := rdo_and n S a b _ _ w hn1 hn hrn hx hy xb.1 xb.2 yb.1 yb.2 ha0 ha1 hb0 hb1
    rw [← hW] at this
    exact this
  by_cases k1 : s = ⟨#[124]⟩
  · subst k1
    have e : doF W S ⟨#[124]⟩ a b = (lowF W (opF W S ⟨#[124]⟩ (lowF W a) (lowF W b)), 0) := doF_ok hr' (by simp [opB]) (fun h => by cases h)
    have e2 : lowF W (opF W S ⟨#[124]⟩ (lowF W a) (lowF W b)) = valL (List.zipWith (· || ·) (bitsR (lowF W a) n) (bitsR (lowF W b) n)) := by
      have := val_or n (lowF W a).toNat (lowF W b).toNat
      rw [nat_of xb.1, nat_of yb.1] at this
      rw [this, bit_val hW]
      rfl
    rw [e, e2]
    have := rdo_or n S a b _ _ w hn1 hn hrn hx hy xb.1 xb.2 yb.1 yb.2 ha0 ha1 hb0 hb1
    rw [← hW] at this
    exact this
  by_cases k2 : s = ⟨#[94]⟩
  · subst k2
    have e : doF W S ⟨#[94]⟩ a b = (lowF W (opF W S ⟨#[94]⟩ (lowF W a) (lowF W b)), 0) := doF_ok hr' (by simp [opB]) (fun h => by cases h)
    have e2 : lowF W (opF W S ⟨#[94]⟩ (lowF W a) (lowF W b)) = valL (List.zipWith (· != ·) (bitsR (lowF W a) n) (bitsR (lowF W b) n)) := by
      have := val_xor n (lowF W a).toNat (lowF W b).toNat
      rw [nat_of xb.1, nat_of yb.1] at this
      rw [this, bit_val hW]
      rfl
    rw [e, e2]
    have := rdo_xor n S a b _ _ w hn1 hn hrn hx hy xb.1 xb.2 yb.1 yb.2 ha0 ha1 hb0 hb1
    rw [← hW] at this
    exact this
  by_cases hW1 : W = 1
  · have e : doF W S s a b = (0, 12) := by
      unfold doF
      rw [if_neg hr, if_pos (by simp [opB, k0, k1, k2, hW1])]
    rw [e]
    have := rdo_one n S s a b _ _ w hn1 hn hrn hx hy xb.1 xb.2 yb.1 yb.2 ha0 ha1 hb0 hb1 (by rw [← hW]; simpa using hW1) k0 k1 k2
    rw [← hW] at this
    exact this
  have hWn : ((n : Int) == 1) = false := by rw [← hW]; simpa using hW1
  have hW2 : 1 < W := by have := rt_w hr'; omega
  have hn2 : 1 < n := by omega
  by_cases k3 : s = ⟨#[43]⟩
  · subst k3
    have e : doF W S ⟨#[43]⟩ a b = (lowF W (opF W S ⟨#[43]⟩ (lowF W a) (lowF W b)), 0) := doF_ok hr' (opB_r hW2 (by simp)) (fun h => by cases h)
    rw [e]
    have := rdo_add n S a b _ _ w hn1 hn hrn hx hy xb.1 xb.2 yb.1 yb.2 ha0 ha1 hb0 hb1 hWn
    rw [nf, ← hW] at this
    exact this
  by_cases k4 : s = ⟨#[45]⟩
  · subst k4
    have e : doF W S ⟨#[45]⟩ a b = (lowF W (opF W S ⟨#[45]⟩ (lowF W a) (lowF W b)), 0) := doF_ok hr' (opB_r hW2 (by simp)) (fun h => by cases h)
    rw [e]
    have := rdo_sub n S a b _ _ w hn1 hn hrn hx hy xb.1 xb.2 yb.1 yb.2 ha0 ha1 hb0 hb1 hWn
    rw [nf, ← hW] at this
    exact this
  by_cases k5 : s = ⟨#[42]⟩
  · subst k5
    have e : doF W S ⟨#[42]⟩ a b = (lowF W (opF W S ⟨#[42]⟩ (lowF W a) (lowF W b)), 0) := doF_ok hr' (opB_r hW2 (by simp)) (fun h => by cases h)
    rw [e]
    have := rdo_mul n S a b _ _ w hn1 hn hrn hx hy xb.1 xb.2 yb.1 yb.2 ha0 ha1 hb0 hb1 hWn
    rw [nf, ← hW] at this
    exact this
  by_cases k6 : s = ⟨#[47]⟩
  · subst k6
    have ho := opB_r (s := ⟨#[47]⟩) hW2 (by simp)
    by_cases hz : lowF W b = 0
    · have e : doF W S ⟨#[47]⟩ a b = (0, 11) := by
        unfold doF
        rw [if_neg hr, if_neg (by simp [ho]), if_pos ⟨rfl, hz⟩]
      rw [e]
      have := rdo_dz n S a b _ _ w hn1 hn hrn hx hy xb.1 xb.2 yb.1 yb.2 ha0 ha1 hb0 hb1 hWn (by simpa using hz)
      rw [← hW] at this
      exact this
    · have e : doF W S ⟨#[47]⟩ a b = (lowF W (divF W S (lowF W a) (lowF W b)), 0) := doF_ok hr' ho (fun _ => hz)
      rw [e, ← div_val hr' hW _ _ xl yl]
      have := rdo_div n S a b _ _ w hn1 hn hrn hx hy xb.1 xb.2 yb.1 yb.2 ha0 ha1 hb0 hb1 hWn (by simpa using hz) (sz_pos hr' hW _ yl yb.1 hz)
      rw [nf, ← hW] at this
      exact this
  by_cases k7 : s = ⟨#[37]⟩
  · subst k7
    have ho := opB_r (s := ⟨#[37]⟩) hW2 (by simp)
    by_cases hz : lowF W b = 0
    · have e : doF W S ⟨#[37]⟩ a b = (0, 11) := by
        unfold doF
        rw [if_neg hr, if_neg (by simp [ho]), if_pos ⟨rfl, hz⟩]
      rw [e]
      have := rdo_rz n S a b _ _ w hn1 hn hrn hx hy xb.1 xb.2 yb.1 yb.2 ha0 ha1 hb0 hb1 hWn (by simpa using hz)
      rw [← hW] at this
      exact this
    · have e : doF W S ⟨#[37]⟩ a b = (lowF W (remF W S (lowF W a) (lowF W b)), 0) := doF_ok hr' ho (fun _ => hz)
      rw [e, ← rem_val hr' hW _ _ xl yl]
      have := rdo_rem n S a b _ _ w hn1 hn hrn hx hy xb.1 xb.2 yb.1 yb.2 ha0 ha1 hb0 hb1 hWn (by simpa using hz) (sz_pos hr' hW _ yl yb.1 hz)
      rw [nf, ← hW] at this
      exact this
  by_cases k8 : s = ⟨#[60, 60]⟩
  · subst k8
    have e : doF W S ⟨#[60, 60]⟩ a b = (lowF W (IntKind.u64.wrap (lowF W a * 2 ^ min (lowF W b).toNat 64)), 0) := doF_ok hr' (opB_r hW2 (by simp)) (fun h => by cases h)
    rw [e, ← shl_val hr' hW]
    have := rdo_shl n S a b _ _ w hn1 hn hrn hx hy xb.1 xb.2 yb.1 yb.2 ha0 ha1 hb0 hb1 hWn hn2
    rw [nf, ← hW] at this
    exact this
  by_cases k9 : s = ⟨#[62, 62]⟩
  · subst k9
    have e : doF W S ⟨#[62, 62]⟩ a b = (lowF W (shrF W S (lowF W a) (lowF W b)), 0) := doF_ok hr' (opB_r hW2 (by simp)) (fun h => by cases h)
    rw [e, ← shr_val hr' hW _ _ xl]
    have := rdo_shr n S a b _ _ w hn1 hn hrn hx hy xb.1 xb.2 yb.1 yb.2 ha0 ha1 hb0 hb1 hWn hn2
    rw [nf, ← hW] at this
    exact this
  have e : doF W S s a b = (0, 12) := by
    unfold doF
    rw [if_neg hr, if_pos (by simp [opB, k0, k1, k2, k3, k4, k5, k6, k7, k8, k9])]
  rw [e]
  have := rdo_other n S s a b _ _ w hn1 hn hrn hx hy xb.1 xb.2 yb.1 yb.2 ha0 ha1 hb0 hb1 hWn k0 k1 k2 k3 k4 k5 k6 k7 k8 k9
  rw [← hW] at this
  exact this
end Go.Proofs.YtpfdbigdkegncaaDoor
