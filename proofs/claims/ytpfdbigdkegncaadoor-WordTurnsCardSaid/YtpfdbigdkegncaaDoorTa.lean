/- The contracts of word's turner and Turn. -/
import Derived.Test.YtpfdbigdkegncaaDoorN
namespace Go.Proofs.YtpfdbigdkegncaaDoor
open Go.RowKit

def findN (s : ByteArray) : Option (Nat × Value) :=
  if s = ⟨#[33]⟩ then some (0, .func (.func 52) #[] #[]) else none
theorem findN_eq (s : ByteArray) : Instr.findNow .string (.string s) [{ key := .string ⟨#[33]⟩, val := .func (.func 52) #[] #[], born := 0 }] 0 = some (findN s) := by
  unfold findN
  simp only [Instr.findNow, Instr.sameNow]
  by_cases h0 : s = ⟨#[33]⟩
  · subst h0; rfl
  rw [if_neg h0, bne_of h0]
def findM (s : ByteArray) : Option (Nat × Value) :=
  if s = ⟨#[45]⟩ then some (0, .func (.func 53) #[] #[]) else if s = ⟨#[126]⟩ then some (1, .func (.func 54) #[] #[]) else none
theorem findM_eq (s : ByteArray) : Instr.findNow .string (.string s) [{ key := .string ⟨#[45]⟩, val := .func (.func 53) #[] #[], born := 0 }, { key := .string ⟨#[126]⟩, val := .func (.func 54) #[] #[], born := 1 }] 0 = some (findM s) := by
  unfold findM
  simp only [Instr.findNow, Instr.sameNow]
  by_cases h0 : s = ⟨#[45]⟩
  · subst h0; rfl
  by_cases h1 : s = ⟨#[126]⟩
  · subst h1; rfl
  rw [if_neg h0, if_neg h1, bne_of h0, bne_of h1]

set_option maxHeartbeats 400000 in
theorem turner_1 (W : Int) (S : Bool) (s : ByteArray) (w : World) (h1 : (W == 1) = true) :
    Calls Tryd.prog 43 #[.agg #[.int .i64 W, .bool S], .string s] w fun e w' => e = .returned (.tuple #[((findN s).map (·.2)).getD .nilFunc, .bool (findN s).isSome]) ∧ Below w.heap.size w w' := by
  have hmm := @run_makeMap Tryd.prog
  have p0 := fun  v => map_put (P := Tryd.prog) Tryd.underlying75 Tryd.underlying9 (w.alloc (.cells #[.int .i64 W, .bool S] 23)) #[] 0 ⟨#[33]⟩ v rfl
  simp only [World.size_alloc] at p0
  have g := map_get (P := Tryd.prog) Tryd.underlying75 Tryd.underlying9 (w.alloc (.cells #[.int .i64 W, .bool S] 23)) #[{ key := .string ⟨#[33]⟩, val := .func (.func 52) #[] #[], born := 0 }] 1 s .nilFunc (findN s) (by kernel_rfl) (findN_eq s)
  simp only [World.size_alloc] at g
  generalize ((findN s).map (·.2)).getD .nilFunc = x at *
  generalize (findN s).isSome = y at *
  go_enter Tryd.func43, Tryd.ntmps43
  go_wp2
  go_ret2
  exact ⟨rfl, ((Below.refl _ _).alloc (Nat.le_refl _) _).alloc (by simp) _⟩

set_option maxHeartbeats 400000 in
theorem turner_w (W : Int) (S : Bool) (s : ByteArray) (w : World) (h1 : (W == 1) = false) :
    Calls Tryd.prog 43 #[.agg #[.int .i64 W, .bool S], .string s] w fun e w' => e = .returned (.tuple #[((findM s).map (·.2)).getD .nilFunc, .bool (findM s).isSome]) ∧ Below w.heap.size w w' := by
  have hmm := @run_makeMap Tryd.prog
  have p0 := fun  v => map_put (P := Tryd.prog) Tryd.underlying75 Tryd.underlying9 (w.alloc (.cells #[.int .i64 W, .bool S] 23)) #[] 0 ⟨#[45]⟩ v rfl
  have p1 := fun v0 v => map_put (P := Tryd.prog) Tryd.underlying75 Tryd.underlying9 (w.alloc (.cells #[.int .i64 W, .bool S] 23)) #[{ key := .string ⟨#[45]⟩, val := v0, born := 0 }] 1 ⟨#[126]⟩ v rfl
  simp only [World.size_alloc] at p0 p1
  have g := map_get (P := Tryd.prog) Tryd.underlying75 Tryd.underlying9 (w.alloc (.cells #[.int .i64 W, .bool S] 23)) #[{ key := .string ⟨#[45]⟩, val := .func (.func 53) #[] #[], born := 0 }, { key := .string ⟨#[126]⟩, val := .func (.func 54) #[] #[], born := 1 }] 2 s .nilFunc (findM s) (by kernel_rfl) (findM_eq s)
  simp only [World.size_alloc] at g
  generalize ((findM s).map (·.2)).getD .nilFunc = x at *
  generalize (findM s).isSome = y at *
  go_enter Tryd.func43, Tryd.ntmps43
  go_wp2
  go_ret2
  exact ⟨rfl, ((Below.refl _ _).alloc (Nat.le_refl _) _).alloc (by simp) _⟩

theorem cf52 (args : Array Value) (w : World) : (callFunc 52 args).run Tryd.prog w = .ok (.enter 52 args) w := by kernel_rfl
theorem cf53 (args : Array Value) (w : World) : (callFunc 53 args).run Tryd.prog w = .ok (.enter 53 args) w := by kernel_rfl
theorem cf54 (args : Array Value) (w : World) : (callFunc 54 args).run Tryd.prog w = .ok (.enter 54 args) w := by kernel_rfl
theorem tn52 (a : Int) (w : World) : Calls Tryd.prog 52 #[.int .u64 a] w fun e w' => e = .returned (.int .u64 (IntKind.u64.wrap (1 - a))) ∧ Below w.heap.size w w' := by
  go_enter Tryd.func52, Tryd.ntmps52
  go_wp2
  go_ret
  exact ⟨rfl, Below.refl _ _⟩
theorem tn53 (a : Int) (w : World) : Calls Tryd.prog 53 #[.int .u64 a] w fun e w' => e = .returned (.int .u64 (IntKind.u64.wrap (-a))) ∧ Below w.heap.size w w' := by
  go_enter Tryd.func53, Tryd.ntmps53
  go_wp2
  go_ret
  exact ⟨rfl, Below.refl _ _⟩
theorem xor_max {a : Int} (h0 : 0 ≤ a) (h1 : a < 18446744073709551616) : bits .xor .u64 IntKind.u64.max a = 18446744073709551615 - a := by
  have hm : IntKind.u64.max = 18446744073709551615 := by decide
  rw [hm, u64_xor _ _ (by decide) (by decide) h0 h1]
  have hx : a.toNat < 2 ^ 64 := by omega
  have e := congrArg BitVec.toNat (BitVec.allOnes_xor (x := BitVec.ofNat 64 a.toNat))
  rw [BitVec.toNat_xor, BitVec.toNat_not, BitVec.toNat_allOnes, BitVec.toNat_ofNat, Nat.mod_eq_of_lt hx] at e
  have e2 : (18446744073709551615 : Int).toNat = 2 ^ 64 - 1 := by decide
  rw [e2, e]
  omega
theorem tn54 (a : Int) (w : World) (h0 : 0 ≤ a) (h1 : a < 18446744073709551616) : Calls Tryd.prog 54 #[.int .u64 a] w fun e w' => e = .returned (.int .u64 (18446744073709551615 - a)) ∧ Below w.heap.size w w' := by
  rw [← xor_max h0 h1]
  go_enter Tryd.func54, Tryd.ntmps54
  go_wp2
  go_ret
  exact ⟨rfl, Below.refl _ _⟩

/-- A value that may be called with one number of 64 bits, from the world w on. -/
def IsTrn (f : Value) (w : World) (F : Int → Int) : Prop :=
  ∃ fid caps, f = .func (.func fid) #[] caps ∧ (∀ args w, (callFunc fid args).run Tryd.prog w = .ok (.enter fid args) w) ∧
    ∀ w', Below w.heap.size w w' → ∀ a : Int, 0 ≤ a → a < 18446744073709551616 →
      (0 ≤ F a ∧ F a < 18446744073709551616) ∧ Calls Tryd.prog fid (#[.int .u64 a] ++ caps) w' fun e w'' => e = .returned (.int .u64 (F a)) ∧ Below w'.heap.size w' w''
def trF (W : Int) (s : ByteArray) (a : Int) : Int := if W = 1 then IntKind.u64.wrap (1 - a) else if s = ⟨#[45]⟩ then IntKind.u64.wrap (-a) else 18446744073709551615 - a
def trB (W : Int) (s : ByteArray) : Bool := if W = 1 then decide (s = ⟨#[33]⟩) else decide (s = ⟨#[45]⟩ ∨ s = ⟨#[126]⟩)
def TrnYes (W : Int) (s : ByteArray) (w : World) (e : Ending) (w' : World) : Prop :=
  ∃ f, e = .returned (.tuple #[f, .bool true]) ∧ IsTrn f w' (trF W s) ∧ Below w.heap.size w w'
def TrnNo (w : World) (e : Ending) (w' : World) : Prop := e = .returned (.tuple #[.nilFunc, .bool false]) ∧ Below w.heap.size w w'
theorem turner_yes (W : Int) (S : Bool) (s : ByteArray) (w : World) (h : trB W s = true) : Calls Tryd.prog 43 #[.agg #[.int .i64 W, .bool S], .string s] w (TrnYes W s w) := by
  unfold trB at h
  by_cases h1 : W = 1
  · rw [if_pos h1] at h
    have hs : s = ⟨#[33]⟩ := of_decide_eq_true h
    refine (turner_1 W S s w (by simpa using h1)).mono fun e w' hh => ?_
    subst hs
    have ef : trF W ⟨#[33]⟩ = fun a => IntKind.u64.wrap (1 - a) := by funext a; exact if_pos h1
    exact ⟨_, hh.1, ⟨52, #[], rfl, cf52, fun w' _ a _ _ => by rw [ef]; exact ⟨u64_bd _, tn52 a w'⟩⟩, hh.2⟩
  · rw [if_neg h1] at h
    have hs : s = ⟨#[45]⟩ ∨ s = ⟨#[126]⟩ := of_decide_eq_true h
    refine (turner_w W S s w (by simpa using h1)).mono fun e w' hh => ?_
    rcases hs with rfl | rfl
    · have ef : trF W ⟨#[45]⟩ = fun a => IntKind.u64.wrap (-a) := by funext a; exact if_neg h1
      exact ⟨_, hh.1, ⟨53, #[], rfl, cf53, fun w' _ a _ _ => by rw [ef]; exact ⟨u64_bd _, tn53 a w'⟩⟩, hh.2⟩
    · have ef : trF W ⟨#[126]⟩ = fun a => 18446744073709551615 - a := by funext a; exact if_neg h1
      exact ⟨_, hh.1, ⟨54, #[], rfl, cf54, fun w' _ a h0 h1 => by rw [ef]; exact ⟨by show 0 ≤ 18446744073709551615 - a ∧ 18446744073709551615 - a < 18446744073709551616; omega, tn54 a w' h0 h1⟩⟩, hh.2⟩
theorem turner_not (W : Int) (S : Bool) (s : ByteArray) (w : World) (h : trB W s = false) : Calls Tryd.prog 43 #[.agg #[.int .i64 W, .bool S], .string s] w (TrnNo w) := by
  unfold trB at h
  by_cases h1 : W = 1
  · rw [if_pos h1] at h
    have hs : ¬ s = ⟨#[33]⟩ := of_decide_eq_false h
    refine (turner_1 W S s w (by simpa using h1)).mono fun e w' hh => ?_
    have : findN s = none := by unfold findN; rw [if_neg hs]
    rw [this] at hh
    exact hh
  · rw [if_neg h1] at h
    have hs : ¬ (s = ⟨#[45]⟩ ∨ s = ⟨#[126]⟩) := of_decide_eq_false h
    simp only [not_or] at hs
    refine (turner_w W S s w (by simpa using h1)).mono fun e w' hh => ?_
    have : findM s = none := by unfold findM; rw [if_neg hs.1, if_neg hs.2]
    rw [this] at hh
    exact hh

set_option maxHeartbeats 400000 in
theorem turn_type (W : Int) (S : Bool) (s : ByteArray) (a : Int) (w : World) (ht : Tab w) (hr : rt W S = false) :
    Calls Tryd.prog 27 #[.agg #[.int .i64 W, .bool S], .string s, .int .u64 a] w fun e w' => e = .returned (.tuple #[.int .u64 0, .int .i64 10]) ∧ Below w.heap.size w w' := by
  have H0 := On.start ht W S
  go_enter Tryd.func27, Tryd.ntmps27
  go_wp2_with fail
  refine (right_any _ _ _ H0.tab).mono ?_
  rintro e w1 ⟨rfl, hq⟩
  obtain ⟨_, _, _, hb'⟩ := H0.step hq
  clear hq H0
  go_wp2
  go_ret2
  exact ⟨rfl, hb'⟩
set_option maxHeartbeats 400000 in
theorem turn_op (W : Int) (S : Bool) (s : ByteArray) (a : Int) (w : World) (ht : Tab w) (hr : rt W S = true) (ho : trB W s = false) :
    Calls Tryd.prog 27 #[.agg #[.int .i64 W, .bool S], .string s, .int .u64 a] w fun e w' => e = .returned (.tuple #[.int .u64 0, .int .i64 12]) ∧ Below w.heap.size w w' := by
  have H0 := On.start ht W S
  have HO := Lib.hid ho
  clear ho
  go_enter Tryd.func27, Tryd.ntmps27
  go_wp2_with fail
  refine (right_any _ _ _ H0.tab).mono ?_
  rintro e w1 ⟨rfl, hq⟩
  obtain ⟨hc0, hc1, _, hb'⟩ := H0.step hq
  clear hq H0
  go_wp2_with fail
  refine (turner_not _ _ _ _ HO.out).mono ?_
  rintro e w2 ⟨rfl, hq⟩
  have hb2 := hb'.trans (hq.mono hb'.size)
  clear hc0 hc1 hq hb'
  go_wp2
  go_ret2
  exact ⟨rfl, hb2⟩
set_option maxHeartbeats 1000000 in
theorem turn_ok (W : Int) (S : Bool) (s : ByteArray) (a : Int) (w : World) (ht : Tab w) (hr : rt W S = true) (ho : trB W s = true) (ha0 : 0 ≤ a) (ha1 : a < 18446744073709551616) :
    Calls Tryd.prog 27 #[.agg #[.int .i64 W, .bool S], .string s, .int .u64 a] w fun e w' => e = .returned (.tuple #[.int .u64 (lowF W (trF W s (lowF W a))), .int .i64 0]) ∧ Below w.heap.size w w' := by
  have H0 := On.start ht W S
  have HO := Lib.hid ho
  clear ho
  go_enter Tryd.func27, Tryd.ntmps27
  go_wp2_with fail
  refine (right_any _ _ _ H0.tab).mono ?_
  rintro e w1 ⟨rfl, hq⟩
  obtain ⟨hc0, hc1, _, hb'⟩ := H0.step hq
  have HR := Lib.hid hr
  clear hq H0
  go_wp2_with fail
  refine (turner_yes _ _ _ _ HO.out).mono ?_
  rintro e w2 ⟨f, rfl, ⟨fid, caps, rfl, hcf, hF⟩, hq⟩
  obtain ⟨hd0, hd1, hb2⟩ := keep2 ⟨hc0, hc1, hb'⟩ hq
  obtain ⟨la0, la1⟩ := low_lt (v := a) hr
  obtain ⟨fb0, fb1⟩ := (hF w2 (Below.refl _ _) _ la0 la1).1
  have HF := Lib.hid (fun w' (h : Below w2.heap.size w2 w') => (hF w' h _ la0 la1).2)
  clear hc0 hc1 hq hb' hF
  go_wp2_with fail
  go_region_held3 (fun w' => w'.cell? ⟨w.heap.size, 0, none⟩ = some (.int .i64 W) ∧ w'.cell? ⟨w.heap.size, 1, none⟩ = some (.bool S) ∧ Below w2.heap.size w2 w') (first | exact ⟨hd0, hd1, (Below.refl _ _).drew⟩ | exact keep2 (by assumption) hq)
      (first | (go_at_call 32; refine (low_any _ _ _ _ HR.out (by assumption) (by assumption)).mono ?_; rintro e w' ⟨rfl, hq⟩) | (refine (HF.out _ (by first | exact (Below.refl _ _).drew | exact (And.right (And.right (by assumption))))).mono ?_; rintro e w' ⟨rfl, hq⟩))
  rename_i hh
  clear hd0 hd1
  go_wp2
  go_ret2
  exact ⟨rfl, hb2.trans (hh.2.2.mono hb2.size)⟩
/-- What Turn answers: the value, and the error's number. -/
def turnF (W : Int) (S : Bool) (s : ByteArray) (a : Int) : Int × Int :=
  if rt W S = false then (0, 10) else if trB W s = false then (0, 12) else (lowF W (trF W s (lowF W a)), 0)
theorem turn_any (W : Int) (S : Bool) (s : ByteArray) (a : Int) (w : World) (ht : Tab w) (ha0 : 0 ≤ a) (ha1 : a < 18446744073709551616) :
    Calls Tryd.prog 27 #[.agg #[.int .i64 W, .bool S], .string s, .int .u64 a] w fun e w' => e = .returned (.tuple #[.int .u64 (turnF W S s a).1, .int .i64 (turnF W S s a).2]) ∧ Below w.heap.size w w' := by
  unfold turnF
  by_cases hr : rt W S = false
  · rw [if_pos hr]
    exact turn_type W S s a w ht hr
  rw [if_neg hr]
  have hr' : rt W S = true := by simpa using hr
  by_cases ho : trB W s = false
  · rw [if_pos ho]
    exact turn_op W S s a w ht hr' ho
  rw [if_neg ho]
  exact turn_ok W S s a w ht hr' (by simpa using ho) ha0 ha1
end Go.Proofs.YtpfdbigdkegncaaDoor
