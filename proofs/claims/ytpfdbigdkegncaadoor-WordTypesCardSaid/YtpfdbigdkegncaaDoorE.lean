/- The contracts of word's doer: which function it hands back for an operator, and what that function returns. -/
import Derived.Test.YtpfdbigdkegncaaDoorD
namespace Go.Proofs.YtpfdbigdkegncaaDoor
open Go.RowKit

/-- A value that may be called with two numbers of 64 bits, from the world w on: under pre it returns F of them, and leaves old memory alone. -/
def IsFn (f : Value) (w : World) (pre : Int → Int → Prop) (F : Int → Int → Int) : Prop :=
  ∃ fid caps, f = .func (.func fid) #[] caps ∧ (∀ args w, (callFunc fid args).run Tryd.prog w = .ok (.enter fid args) w) ∧
    ∀ w', Below w.heap.size w w' → ∀ a b : Int, 0 ≤ a → a < 18446744073709551616 → 0 ≤ b → b < 18446744073709551616 → pre a b →
      (0 ≤ F a b ∧ F a b < 18446744073709551616) ∧ Calls Tryd.prog fid (#[.int .u64 a, .int .u64 b] ++ caps) w' fun e w'' => e = .returned (.int .u64 (F a b)) ∧ Below w'.heap.size w' w''

theorem u64_bd (n : Int) : 0 ≤ IntKind.u64.wrap n ∧ IntKind.u64.wrap n < 18446744073709551616 := by
  rw [u64_wrap]
  omega

/-- What the operators make of two values, ahead of the cut to the width. -/
def opF (W : Int) (S : Bool) (s : ByteArray) (a b : Int) : Int :=
  if s = ⟨#[38]⟩ then ((a.toNat &&& b.toNat : Nat) : Int) else if s = ⟨#[124]⟩ then ((a.toNat ||| b.toNat : Nat) : Int) else if s = ⟨#[94]⟩ then ((a.toNat ^^^ b.toNat : Nat) : Int)
  else if s = ⟨#[43]⟩ then IntKind.u64.wrap (a + b) else if s = ⟨#[45]⟩ then IntKind.u64.wrap (a - b) else if s = ⟨#[42]⟩ then IntKind.u64.wrap (a * b)
  else if s = ⟨#[47]⟩ then divF W S a b else if s = ⟨#[37]⟩ then remF W S a b
  else if s = ⟨#[60, 60]⟩ then IntKind.u64.wrap (a * 2 ^ min b.toNat 64) else shrF W S a b
/-- Which operators there are. -/
def opB (W : Int) (s : ByteArray) : Bool :=
  decide (s = ⟨#[38]⟩ ∨ s = ⟨#[124]⟩ ∨ s = ⟨#[94]⟩ ∨ (1 < W ∧ (s = ⟨#[43]⟩ ∨ s = ⟨#[45]⟩ ∨ s = ⟨#[42]⟩ ∨ s = ⟨#[47]⟩ ∨ s = ⟨#[37]⟩ ∨ s = ⟨#[60, 60]⟩ ∨ s = ⟨#[62, 62]⟩)))
/-- Which of them divide. -/
def dvB (s : ByteArray) : Bool := decide (s = ⟨#[47]⟩ ∨ s = ⟨#[37]⟩)
def preF (W : Int) (s : ByteArray) (_ b : Int) : Prop := dvB s = true → b ≠ 0 ∧ lowF W b = b

theorem st_nz {W b : Int} (h : rt W true = true) (_h0 : 0 ≤ b) (hl : lowF W b = b) (hb : b ≠ 0) : stF W true b ≠ 0 := by
  unfold stF
  rw [if_pos rfl]
  unfold lowF at hl
  rcases rt_w h with rfl | rfl | rfl | rfl | rfl
  · cases h
  · show (b + 2 ^ 7) % 2 ^ 8 - 2 ^ 7 ≠ 0
    have : b % 2 ^ 8 = b := hl
    omega
  · show (b + 2 ^ 15) % 2 ^ 16 - 2 ^ 15 ≠ 0
    have : b % 2 ^ 16 = b := hl
    omega
  · show (b + 2 ^ 31) % 2 ^ 32 - 2 ^ 31 ≠ 0
    have : b % 2 ^ 32 = b := hl
    omega
  · show (b + 2 ^ 63) % 2 ^ 64 - 2 ^ 63 ≠ 0
    have : b % 2 ^ 64 = b := hl
    omega

theorem cf55 (args : Array Value) (w : World) : (callFunc 55 args).run Tryd.prog w = .ok (.enter 55 args) w := by kernel_rfl
theorem cf56 (args : Array Value) (w : World) : (callFunc 56 args).run Tryd.prog w = .ok (.enter 56 args) w := by kernel_rfl
theorem cf57 (args : Array Value) (w : World) : (callFunc 57 args).run Tryd.prog w = .ok (.enter 57 args) w := by kernel_rfl
theorem cf58 (args : Array Value) (w : World) : (callFunc 58 args).run Tryd.prog w = .ok (.enter 58 args) w := by kernel_rfl
theorem cf59 (args : Array Value) (w : World) : (callFunc 59 args).run Tryd.prog w = .ok (.enter 59 args) w := by kernel_rfl
theorem cf60 (args : Array Value) (w : World) : (callFunc 60 args).run Tryd.prog w = .ok (.enter 60 args) w := by kernel_rfl
theorem cf61 (args : Array Value) (w : World) : (callFunc 61 args).run Tryd.prog w = .ok (.enter 61 args) w := by kernel_rfl
theorem cf62 (args : Array Value) (w : World) : (callFunc 62 args).run Tryd.prog w = .ok (.enter 62 args) w := by kernel_rfl
theorem cf63 (args : Array Value) (w : World) : (callFunc 63 args).run Tryd.prog w = .ok (.enter 63 args) w := by kernel_rfl
theorem cf64 (args : Array Value) (w : World) : (callFunc 64 args).run Tryd.prog w = .ok (.enter 64 args) w := by kernel_rfl

theorem and_bd (a b : Int) (h : a < 18446744073709551616) : ((a.toNat &&& b.toNat : Nat) : Int) < 18446744073709551616 := by
  have := Nat.and_le_left (n := a.toNat) (m := b.toNat)
  omega
theorem or_bd (a b : Int) (h : a < 18446744073709551616) (h' : b < 18446744073709551616) : ((a.toNat ||| b.toNat : Nat) : Int) < 18446744073709551616 := by
  have := Nat.or_lt_two_pow (n := 64) (x := a.toNat) (y := b.toNat) (by omega) (by omega)
  omega
theorem xor_bd (a b : Int) (h : a < 18446744073709551616) (h' : b < 18446744073709551616) : ((a.toNat ^^^ b.toNat : Nat) : Int) < 18446744073709551616 := by
  have := Nat.xor_lt_two_pow (n := 64) (x := a.toNat) (y := b.toNat) (by omega) (by omega)
  omega
theorem div_bd {W : Int} {S : Bool} {a b : Int} (h0 : 0 ≤ a) (h1 : a < 18446744073709551616) (hb : 0 ≤ b) : 0 ≤ divF W S a b ∧ divF W S a b < 18446744073709551616 := by
  unfold divF
  split
  · exact u64_bd _
  · exact ⟨Int.ediv_nonneg h0 hb, Int.lt_of_le_of_lt (Int.ediv_le_self b h0) h1⟩
theorem rem_bd {W : Int} {S : Bool} {a b : Int} (hb : 1 ≤ b) (hb1 : b < 18446744073709551616) : 0 ≤ remF W S a b ∧ remF W S a b < 18446744073709551616 := by
  unfold remF
  split
  · exact u64_bd _
  · exact ⟨Int.emod_nonneg a (by omega), Int.lt_trans (Int.emod_lt_of_pos a (by omega)) hb1⟩
theorem shr_bd {W : Int} {S : Bool} {a b : Int} (h0 : 0 ≤ a) (h1 : a < 18446744073709551616) : 0 ≤ shrF W S a b ∧ shrF W S a b < 18446744073709551616 := by
  unfold shrF
  split
  · exact u64_bd _
  · have hp : (0 : Int) ≤ 2 ^ min b.toNat 64 := Int.le_of_lt (Int.pow_pos (by decide))
    exact ⟨Int.ediv_nonneg h0 hp, Int.lt_of_le_of_lt (Int.ediv_le_self _ h0) h1⟩

theorem fn_J {W : Int} {S : Bool} {s : ByteArray} {i : Nat} {f : Value} (h : findJ s = some (i, f)) (w : World) : IsFn f w (preF W s) (opF W S s) := by
  unfold findJ at h
  by_cases h0 : s = ⟨#[38]⟩
  · subst h0
    rw [if_pos rfl] at h
    cases h
    refine ⟨62, #[], rfl, cf62, fun w' _ a b ha ha1 hb hb1 _ => ?_⟩
    have e : opF W S ⟨#[38]⟩ a b = ((a.toNat &&& b.toNat : Nat) : Int) := rfl
    rw [e, ← u64_and a b ha ha1 hb hb1]
    refine ⟨?_, and_any a b w'⟩
    rw [u64_and a b ha ha1 hb hb1]
    exact ⟨by omega, and_bd a b ha1⟩
  by_cases h1 : s = ⟨#[124]⟩
  · subst h1
    rw [if_neg h0, if_pos rfl] at h
    cases h
    refine ⟨63, #[], rfl, cf63, fun w' _ a b ha ha1 hb hb1 _ => ?_⟩
    have e : opF W S ⟨#[124]⟩ a b = ((a.toNat ||| b.toNat : Nat) : Int) := rfl
    rw [e, ← u64_or a b ha ha1 hb hb1]
    refine ⟨?_, or_any a b w'⟩
    rw [u64_or a b ha ha1 hb hb1]
    exact ⟨by omega, or_bd a b ha1 hb1⟩
  by_cases h2 : s = ⟨#[94]⟩
  · subst h2
    rw [if_neg h0, if_neg h1, if_pos rfl] at h
    cases h
    refine ⟨64, #[], rfl, cf64, fun w' _ a b ha ha1 hb hb1 _ => ?_⟩
    have e : opF W S ⟨#[94]⟩ a b = ((a.toNat ^^^ b.toNat : Nat) : Int) := rfl
    rw [e, ← u64_xor a b ha ha1 hb hb1]
    refine ⟨?_, xor_any a b w'⟩
    rw [u64_xor a b ha ha1 hb hb1]
    exact ⟨by omega, xor_bd a b ha1 hb1⟩
  rw [if_neg h0, if_neg h1, if_neg h2] at h
  cases h

theorem fn_R {W : Int} {S : Bool} {s : ByteArray} {q i : Nat} {f : Value} (hr : rt W S = true) (h : findR s (.pointer (some ⟨q, 0, none⟩)) = some (i, f)) (w : World)
    (c0 : w.cell? ⟨q, 0, none⟩ = some (.int .i64 W)) (c1 : w.cell? ⟨q, 1, none⟩ = some (.bool S)) : IsFn f w (preF W s) (opF W S s) := by
  unfold findR at h
  by_cases h0 : s = ⟨#[43]⟩
  · subst h0
    rw [if_pos rfl] at h
    cases h
    exact ⟨55, #[], rfl, cf55, fun w' _ a b ha ha1 hb hb1 _ => ⟨u64_bd _, add_any a b w'⟩⟩
  by_cases h1 : s = ⟨#[45]⟩
  · subst h1
    rw [if_neg h0, if_pos rfl] at h
    cases h
    exact ⟨56, #[], rfl, cf56, fun w' _ a b ha ha1 hb hb1 _ => ⟨u64_bd _, sub_any a b w'⟩⟩
  by_cases h2 : s = ⟨#[42]⟩
  · subst h2
    rw [if_neg h0, if_neg h1, if_pos rfl] at h
    cases h
    exact ⟨57, #[], rfl, cf57, fun w' _ a b ha ha1 hb hb1 _ => ⟨u64_bd _, mul_any a b w'⟩⟩
  by_cases h3 : s = ⟨#[47]⟩
  · subst h3
    rw [if_neg h0, if_neg h1, if_neg h2, if_pos rfl] at h
    cases h
    refine ⟨58, _, rfl, cf58, fun w' hb' a b ha ha1 hb hb1 hp => ?_⟩
    obtain ⟨hp1, hp2⟩ := hp rfl
    have e : opF W S ⟨#[47]⟩ a b = divF W S a b := rfl
    rw [e]
    exact ⟨div_bd ha ha1 hb, div_any W S q a b w' hr ((hb'.cell (cell_lt c0)).trans c0) ((hb'.cell (cell_lt c1)).trans c1) ha ha1 (by omega) hb1 (fun es => by subst es; exact st_nz hr hb hp2 hp1)⟩
  by_cases h4 : s = ⟨#[37]⟩
  · subst h4
    rw [if_neg h0, if_neg h1, if_neg h2, if_neg h3, if_pos rfl] at h
    cases h
    refine ⟨59, _, rfl, cf59, fun w' hb' a b ha ha1 hb hb1 hp => ?_⟩
    obtain ⟨hp1, hp2⟩ := hp rfl
    have e : opF W S ⟨#[37]⟩ a b = remF W S a b := rfl
    rw [e]
    exact ⟨rem_bd (by omega) hb1, rem_any W S q a b w' hr ((hb'.cell (cell_lt c0)).trans c0) ((hb'.cell (cell_lt c1)).trans c1) ha ha1 (by omega) hb1 (fun es => by subst es; exact st_nz hr hb hp2 hp1)⟩
  by_cases h5 : s = ⟨#[60, 60]⟩
  · subst h5
    rw [if_neg h0, if_neg h1, if_neg h2, if_neg h3, if_neg h4, if_pos rfl] at h
    cases h
    exact ⟨60, #[], rfl, cf60, fun w' _ a b ha ha1 hb hb1 _ => ⟨u64_bd _, shl_any a b w' hb hb1⟩⟩
  by_cases h6 : s = ⟨#[62, 62]⟩
  · subst h6
    rw [if_neg h0, if_neg h1, if_neg h2, if_neg h3, if_neg h4, if_neg h5, if_pos rfl] at h
    cases h
    exact ⟨61, _, rfl, cf61, fun w' hb' a b ha ha1 hb hb1 _ => ⟨shr_bd ha ha1, shr_any W S q a b w' hr ((hb'.cell (cell_lt c0)).trans c0) ((hb'.cell (cell_lt c1)).trans c1) ha ha1 hb hb1⟩⟩
  rw [if_neg h0, if_neg h1, if_neg h2, if_neg h3, if_neg h4, if_neg h5, if_neg h6] at h
  cases h
end Go.Proofs.YtpfdbigdkegncaaDoor
