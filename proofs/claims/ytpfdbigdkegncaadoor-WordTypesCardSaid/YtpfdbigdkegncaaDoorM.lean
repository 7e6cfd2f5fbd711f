/- Plain arithmetic of the widths: cuts, sums, products, signs. No program. -/
import Derived.Test.YtpfdbigdkegncaaDoorH
namespace Go.Proofs.YtpfdbigdkegncaaDoor

/-- The width's modulus divides that of 64 bits. -/
theorem pow_dvd {W : Int} {S : Bool} (h : rt W S = true) : ((2 : Int) ^ W.toNat) ∣ 18446744073709551616 := by
  rcases rt_w h with rfl | rfl | rfl | rfl | rfl
  · exact ⟨9223372036854775808, by decide⟩
  · exact ⟨72057594037927936, by decide⟩
  · exact ⟨281474976710656, by decide⟩
  · exact ⟨4294967296, by decide⟩
  · exact ⟨1, by decide⟩
theorem low_u {W : Int} {S : Bool} (h : rt W S = true) (n : Int) : lowF W (IntKind.u64.wrap n) = lowF W n := by
  rw [u64_wrap]
  exact Int.emod_emod_of_dvd _ (pow_dvd h)
theorem i64_val (n : Int) : IntKind.i64.wrap n = (n + 9223372036854775808) % 18446744073709551616 - 9223372036854775808 := by
  rw [IntWalk.i64_left, wrap64_val]
theorem low_i {W : Int} {S : Bool} (h : rt W S = true) (n : Int) : lowF W (IntKind.i64.wrap n) = lowF W n := by
  rw [i64_val]
  unfold lowF
  obtain ⟨k, hk⟩ := pow_dvd h
  generalize (2 : Int) ^ W.toNat = M at *
  have e : (n + 9223372036854775808) % 18446744073709551616 - 9223372036854775808 = n - M * (k * ((n + 9223372036854775808) / 18446744073709551616)) := by
    have := Int.emod_add_mul_ediv (n + 9223372036854775808) 18446744073709551616
    rw [← Int.mul_assoc, ← hk]
    omega
  rw [e, Int.sub_mul_emod_self_left]
theorem low_add {W : Int} (a b : Int) : lowF W (lowF W a + lowF W b) = lowF W (a + b) := by
  unfold lowF
  rw [← Int.add_emod]
theorem low_mul {W : Int} (a b : Int) : lowF W (lowF W a * lowF W b) = lowF W (a * b) := by
  unfold lowF
  rw [← Int.mul_emod]
theorem low_sub {W : Int} (a b : Int) : lowF W (lowF W a - lowF W b) = lowF W (a - b) := by
  unfold lowF
  rw [← Int.sub_emod]
theorem low_st {W : Int} {v : Int} : lowF W (stF W true v) = lowF W v := by
  unfold stF lowF
  rw [if_pos rfl]
  have := Int.emod_add_mul_ediv (v + 2 ^ (W.toNat - 1)) (2 ^ W.toNat)
  have e : (v + 2 ^ (W.toNat - 1)) % 2 ^ W.toNat - 2 ^ (W.toNat - 1) = v - 2 ^ W.toNat * ((v + 2 ^ (W.toNat - 1)) / 2 ^ W.toNat) := by omega
  rw [e, Int.sub_mul_emod_self_left]

theorem low_cong_add {W a b c d : Int} (h1 : lowF W a = lowF W c) (h2 : lowF W b = lowF W d) : lowF W (a + b) = lowF W (c + d) := by
  rw [← low_add, h1, h2, low_add]
theorem low_cong_mul {W a b c d : Int} (h1 : lowF W a = lowF W c) (h2 : lowF W b = lowF W d) : lowF W (a * b) = lowF W (c * d) := by
  rw [← low_mul, h1, h2, low_mul]
theorem low_cong_sub {W a b c d : Int} (h1 : lowF W a = lowF W c) (h2 : lowF W b = lowF W d) : lowF W (a - b) = lowF W (c - d) := by
  rw [← low_sub, h1, h2, low_sub]
theorem doF_ok {W : Int} {S : Bool} {s : ByteArray} {a b : Int} (hr : rt W S = true) (ho : opB W s = true) (hz : dvB s = true → lowF W b ≠ 0) : doF W S s a b = (lowF W (opF W S s (lowF W a) (lowF W b)), 0) := by
  unfold doF
  rw [if_neg (by simp [hr]), if_neg (by simp [ho]), if_neg (fun h => hz h.1 h.2)]
theorem doF_bd {W : Int} {S : Bool} {s : ByteArray} {a b : Int} : 0 ≤ (doF W S s a b).1 ∧ (doF W S s a b).1 < 18446744073709551616 := by
  unfold doF
  by_cases hr : rt W S = false
  · rw [if_pos hr]; decide
  · rw [if_neg hr]
    have hr' : rt W S = true := by simpa using hr
    split
    · decide
    · split
      · decide
      · exact low_lt hr'
theorem div_core {W : Int} {S : Bool} {a b : Int} (hr : rt W S = true) : lowF W (divF W S (lowF W a) (lowF W b) * lowF W b + remF W S (lowF W a) (lowF W b)) = lowF W a := by
  cases S
  · have e1 : divF W false (lowF W a) (lowF W b) = lowF W a / lowF W b := rfl
    have e2 : remF W false (lowF W a) (lowF W b) = lowF W a % lowF W b := rfl
    rw [e1, e2, Int.ediv_mul_add_emod, low_low hr]
  · have e1 : divF W true (lowF W a) (lowF W b) = IntKind.u64.wrap (IntKind.i64.wrap ((stF W true (lowF W a)).tdiv (stF W true (lowF W b)))) := rfl
    have e2 : remF W true (lowF W a) (lowF W b) = IntKind.u64.wrap ((stF W true (lowF W a)).tmod (stF W true (lowF W b))) := rfl
    have h1 : lowF W (divF W true (lowF W a) (lowF W b)) = lowF W ((stF W true (lowF W a)).tdiv (stF W true (lowF W b))) := by rw [e1, low_u hr, low_i hr]
    have h2 : lowF W (remF W true (lowF W a) (lowF W b)) = lowF W ((stF W true (lowF W a)).tmod (stF W true (lowF W b))) := by rw [e2, low_u hr]
    rw [low_cong_add (low_cong_mul h1 (show lowF W (lowF W b) = lowF W (stF W true (lowF W b)) from low_st.symm)) h2, Int.tdiv_mul_add_tmod, low_st, low_low hr]
theorem opB_r {W : Int} {s : ByteArray} (hW : 1 < W) (hs : s = ⟨#[43]⟩ ∨ s = ⟨#[45]⟩ ∨ s = ⟨#[42]⟩ ∨ s = ⟨#[47]⟩ ∨ s = ⟨#[37]⟩ ∨ s = ⟨#[60, 60]⟩ ∨ s = ⟨#[62, 62]⟩) : opB W s = true := by
  simp only [opB, decide_eq_true_eq]
  exact .inr (.inr (.inr ⟨hW, hs⟩))
theorem opB_n {W : Int} {s : ByteArray} (hW : ¬ 1 < W) (hs : s = ⟨#[43]⟩ ∨ s = ⟨#[45]⟩ ∨ s = ⟨#[42]⟩ ∨ s = ⟨#[47]⟩ ∨ s = ⟨#[37]⟩ ∨ s = ⟨#[60, 60]⟩ ∨ s = ⟨#[62, 62]⟩) : opB W s = false := by
  simp only [opB, decide_eq_false_iff_not]
  rcases hs with rfl | rfl | rfl | rfl | rfl | rfl | rfl <;> simp [hW] <;> decide

/-- Quotient and rest: the errors are the same, or both are right and make up the dividend. -/
theorem divides_math (W : Int) (S : Bool) (a b : Int) :
    (∃ e : Int, (e = 10 ∨ e = 11 ∨ e = 12) ∧ doF W S ⟨#[47]⟩ a b = (0, e) ∧ doF W S ⟨#[37]⟩ a b = (0, e)) ∨
    (rt W S = true ∧ ∃ q r p : Int, doF W S ⟨#[47]⟩ a b = (q, 0) ∧ doF W S ⟨#[37]⟩ a b = (r, 0) ∧ (0 ≤ q ∧ q < 18446744073709551616) ∧ (0 ≤ r ∧ r < 18446744073709551616) ∧
      doF W S ⟨#[42]⟩ q b = (p, 0) ∧ (0 ≤ p ∧ p < 18446744073709551616) ∧ doF W S ⟨#[43]⟩ p r = (lowF W a, 0)) := by
  by_cases hr : rt W S = false
  · exact .inl ⟨10, .inl rfl, by simp [doF, hr], by simp [doF, hr]⟩
  have hr' : rt W S = true := by simpa using hr
  by_cases hW : 1 < W
  · have o1 := opB_r (s := ⟨#[47]⟩) hW (by simp)
    have o2 := opB_r (s := ⟨#[37]⟩) hW (by simp)
    have o3 := opB_r (s := ⟨#[42]⟩) hW (by simp)
    have o4 := opB_r (s := ⟨#[43]⟩) hW (by simp)
    by_cases hz : lowF W b = 0
    · exact .inl ⟨11, .inr (.inl rfl), by simp [doF, hr', o1, hz]; rfl, by simp [doF, hr', o2, hz]; rfl⟩
    · have q1 : doF W S ⟨#[47]⟩ a b = (lowF W (divF W S (lowF W a) (lowF W b)), 0) := doF_ok hr' o1 (fun _ => hz)
      have q2 : doF W S ⟨#[37]⟩ a b = (lowF W (remF W S (lowF W a) (lowF W b)), 0) := doF_ok hr' o2 (fun _ => hz)
      have q3 : ∀ x, doF W S ⟨#[42]⟩ x b = (lowF W (IntKind.u64.wrap (lowF W x * lowF W b)), 0) := fun x => doF_ok hr' o3 (fun h => by cases h)
      have q4 : ∀ x y, doF W S ⟨#[43]⟩ x y = (lowF W (IntKind.u64.wrap (lowF W x + lowF W y)), 0) := fun x y => doF_ok hr' o4 (fun h => by cases h)
      refine .inr ⟨hr', _, _, _, q1, q2, low_lt hr', low_lt hr', q3 _, low_lt hr', ?_⟩
      rw [q4, low_u hr', low_add]
      have h1 : lowF W (lowF W (IntKind.u64.wrap (lowF W (lowF W (divF W S (lowF W a) (lowF W b))) * lowF W b))) = lowF W (divF W S (lowF W a) (lowF W b) * lowF W b) := by
        rw [low_low hr', low_u hr', low_low hr']
        exact low_cong_mul (low_low hr') rfl
      rw [low_cong_add h1 (low_low hr'), div_core hr']
  · exact .inl ⟨12, .inr (.inr rfl), by simp [doF, hr', opB_n (s := ⟨#[47]⟩) hW (by simp)], by simp [doF, hr', opB_n (s := ⟨#[37]⟩) hW (by simp)]⟩
end Go.Proofs.YtpfdbigdkegncaaDoor
