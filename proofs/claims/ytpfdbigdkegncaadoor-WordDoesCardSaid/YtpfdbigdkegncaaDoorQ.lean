/- The contracts of word's orderer, tester and Test. -/
import Derived.Test.YtpfdbigdkegncaaDoorP
namespace Go.Proofs.YtpfdbigdkegncaaDoor
open Go.RowKit

def findO (s : ByteArray) (c d : Value) : Option (Nat × Value) :=
  if s = ⟨#[60]⟩ then some (0, c) else if s = ⟨#[60, 61]⟩ then some (1, .func (.func 66) #[] #[d]) else if s = ⟨#[62]⟩ then some (2, .func (.func 67) #[] #[d]) else if s = ⟨#[62, 61]⟩ then some (3, .func (.func 68) #[] #[d]) else none
theorem findO_eq (s : ByteArray) (c d : Value) : Instr.findNow .string (.string s) [{ key := .string ⟨#[60]⟩, val := c, born := 0 }, { key := .string ⟨#[60, 61]⟩, val := .func (.func 66) #[] #[d], born := 1 }, { key := .string ⟨#[62]⟩, val := .func (.func 67) #[] #[d], born := 2 }, { key := .string ⟨#[62, 61]⟩, val := .func (.func 68) #[] #[d], born := 3 }] 0 = some (findO s c d) := by
  unfold findO
  simp only [Instr.findNow, Instr.sameNow]
  by_cases h0 : s = ⟨#[60]⟩
  · subst h0; rfl
  by_cases h1 : s = ⟨#[60, 61]⟩
  · subst h1; rfl
  by_cases h2 : s = ⟨#[62]⟩
  · subst h2; rfl
  by_cases h3 : s = ⟨#[62, 61]⟩
  · subst h3; rfl
  rw [if_neg h0, if_neg h1, if_neg h2, if_neg h3, bne_of h0, bne_of h1, bne_of h2, bne_of h3]
def findT (s : ByteArray) : Option (Nat × Value) :=
  if s = ⟨#[61, 61]⟩ then some (0, .func (.func 50) #[] #[]) else if s = ⟨#[33, 61]⟩ then some (1, .func (.func 51) #[] #[]) else none
theorem findT_eq (s : ByteArray) : Instr.findNow .string (.string s) [{ key := .string ⟨#[61, 61]⟩, val := .func (.func 50) #[] #[], born := 0 }, { key := .string ⟨#[33, 61]⟩, val := .func (.func 51) #[] #[], born := 1 }] 0 = some (findT s) := by
  unfold findT
  simp only [Instr.findNow, Instr.sameNow]
  by_cases h0 : s = ⟨#[61, 61]⟩
  · subst h0; rfl
  by_cases h1 : s = ⟨#[33, 61]⟩
  · subst h1; rfl
  rw [if_neg h0, if_neg h1, bne_of h0, bne_of h1]

set_option maxHeartbeats 1000000 in
theorem orderer_any (W : Int) (S : Bool) (s : ByteArray) (w : World) :
    Calls Tryd.prog 49 #[.agg #[.int .i64 W, .bool S], .string s] w fun e w' => e = .returned (.tuple #[((findO s (.func (.func 65) #[] #[.pointer (some ⟨w.heap.size, 0, none⟩)]) (.pointer (some ⟨w.heap.size + 1, 0, none⟩))).map (·.2)).getD .nilFunc, .bool (findO s (.func (.func 65) #[] #[.pointer (some ⟨w.heap.size, 0, none⟩)]) (.pointer (some ⟨w.heap.size + 1, 0, none⟩))).isSome]) ∧
      Below (w.heap.size + 2) ((w.alloc (.cells #[.int .i64 W, .bool S] 23)).alloc (.cells #[(.func (.func 65) #[] #[.pointer (some ⟨w.heap.size, 0, none⟩)])] 66)) w' := by
  have hmm := @run_makeMap Tryd.prog
  have p0 := fun  v => map_put (P := Tryd.prog) Tryd.underlying74 Tryd.underlying9 ((w.alloc (.cells #[.int .i64 W, .bool S] 23)).alloc (.cells #[(.func (.func 65) #[] #[.pointer (some ⟨w.heap.size, 0, none⟩)])] 66)) #[] 0 ⟨#[60]⟩ v rfl
  have p1 := fun v0 v => map_put (P := Tryd.prog) Tryd.underlying74 Tryd.underlying9 ((w.alloc (.cells #[.int .i64 W, .bool S] 23)).alloc (.cells #[(.func (.func 65) #[] #[.pointer (some ⟨w.heap.size, 0, none⟩)])] 66)) #[{ key := .string ⟨#[60]⟩, val := v0, born := 0 }] 1 ⟨#[60, 61]⟩ v rfl
  have p2 := fun v0 v1 v => map_put (P := Tryd.prog) Tryd.underlying74 Tryd.underlying9 ((w.alloc (.cells #[.int .i64 W, .bool S] 23)).alloc (.cells #[(.func (.func 65) #[] #[.pointer (some ⟨w.heap.size, 0, none⟩)])] 66)) #[{ key := .string ⟨#[60]⟩, val := v0, born := 0 }, { key := .string ⟨#[60, 61]⟩, val := v1, born := 1 }] 2 ⟨#[62]⟩ v rfl
  have p3 := fun v0 v1 v2 v => map_put (P := Tryd.prog) Tryd.underlying74 Tryd.underlying9 ((w.alloc (.cells #[.int .i64 W, .bool S] 23)).alloc (.cells #[(.func (.func 65) #[] #[.pointer (some ⟨w.heap.size, 0, none⟩)])] 66)) #[{ key := .string ⟨#[60]⟩, val := v0, born := 0 }, { key := .string ⟨#[60, 61]⟩, val := v1, born := 1 }, { key := .string ⟨#[62]⟩, val := v2, born := 2 }] 3 ⟨#[62, 61]⟩ v rfl
  simp only [World.size_alloc] at p0 p1 p2 p3
  have g := map_get (P := Tryd.prog) Tryd.underlying74 Tryd.underlying9 ((w.alloc (.cells #[.int .i64 W, .bool S] 23)).alloc (.cells #[(.func (.func 65) #[] #[.pointer (some ⟨w.heap.size, 0, none⟩)])] 66)) #[{ key := .string ⟨#[60]⟩, val := (.func (.func 65) #[] #[.pointer (some ⟨w.heap.size, 0, none⟩)]), born := 0 }, { key := .string ⟨#[60, 61]⟩, val := .func (.func 66) #[] #[.pointer (some ⟨w.heap.size + 1, 0, none⟩)], born := 1 }, { key := .string ⟨#[62]⟩, val := .func (.func 67) #[] #[.pointer (some ⟨w.heap.size + 1, 0, none⟩)], born := 2 }, { key := .string ⟨#[62, 61]⟩, val := .func (.func 68) #[] #[.pointer (some ⟨w.heap.size + 1, 0, none⟩)], born := 3 }] 4 s .nilFunc (findO s (.func (.func 65) #[] #[.pointer (some ⟨w.heap.size, 0, none⟩)]) (.pointer (some ⟨w.heap.size + 1, 0, none⟩))) (by kernel_rfl) (findO_eq s _ _)
  simp only [World.size_alloc] at g
  generalize hx : ((findO s (.func (.func 65) #[] #[.pointer (some ⟨w.heap.size, 0, none⟩)]) (.pointer (some ⟨w.heap.size + 1, 0, none⟩))).map (·.2)).getD .nilFunc = x at *
  generalize hy : (findO s (.func (.func 65) #[] #[.pointer (some ⟨w.heap.size, 0, none⟩)]) (.pointer (some ⟨w.heap.size + 1, 0, none⟩))).isSome = y at *
  have Hx := Lib.hid hx
  have Hy := Lib.hid hy
  clear hx hy
  go_enter Tryd.func49, Tryd.ntmps49
  go_wp2
  go_ret2
  exact ⟨rfl, (Below.refl _ _).alloc (by simp) _⟩

theorem cf50 (args : Array Value) (w : World) : (callFunc 50 args).run Tryd.prog w = .ok (.enter 50 args) w := by kernel_rfl
theorem cf51 (args : Array Value) (w : World) : (callFunc 51 args).run Tryd.prog w = .ok (.enter 51 args) w := by kernel_rfl
theorem cf65 (args : Array Value) (w : World) : (callFunc 65 args).run Tryd.prog w = .ok (.enter 65 args) w := by kernel_rfl
theorem cf66 (args : Array Value) (w : World) : (callFunc 66 args).run Tryd.prog w = .ok (.enter 66 args) w := by kernel_rfl
theorem cf67 (args : Array Value) (w : World) : (callFunc 67 args).run Tryd.prog w = .ok (.enter 67 args) w := by kernel_rfl
theorem cf68 (args : Array Value) (w : World) : (callFunc 68 args).run Tryd.prog w = .ok (.enter 68 args) w := by kernel_rfl
def lessF (W : Int) (S : Bool) (a b : Int) : Bool := if S then decide (stF W true a < stF W true b) else decide (a < b)
theorem eq_any (a b : Int) (w : World) : Calls Tryd.prog 50 #[.int .u64 a, .int .u64 b] w fun e w' => e = .returned (.bool (a == b)) ∧ Below w.heap.size w w' := by
  go_enter Tryd.func50, Tryd.ntmps50
  go_wp2
  go_ret
  exact ⟨rfl, Below.refl _ _⟩
theorem ne_any (a b : Int) (w : World) : Calls Tryd.prog 51 #[.int .u64 a, .int .u64 b] w fun e w' => e = .returned (.bool (a != b)) ∧ Below w.heap.size w w' := by
  go_enter Tryd.func51, Tryd.ntmps51
  go_wp2
  go_ret
  exact ⟨rfl, Below.refl _ _⟩
set_option maxHeartbeats 400000 in
theorem less_any (W : Int) (S : Bool) (q : Nat) (a b : Int) (w : World) (hr : rt W S = true) (h0 : w.cell? ⟨q, 0, none⟩ = some (.int .i64 W)) (h1 : w.cell? ⟨q, 1, none⟩ = some (.bool S)) (ha : 0 ≤ a) (ha1 : a < 18446744073709551616) (hb0 : 0 ≤ b) (hb1 : b < 18446744073709551616) :
    Calls Tryd.prog 65 #[.int .u64 a, .int .u64 b, .pointer (some ⟨q, 0, none⟩)] w fun e w' => e = .returned (.bool (lessF W S a b)) ∧ Below w.heap.size w w' := by
  have HR := Lib.hid hr
  clear hr
  cases S
  · go_enter Tryd.func65, Tryd.ntmps65
    go_wp2
    go_ret
    exact ⟨rfl, Below.refl _ _⟩
  · go_enter Tryd.func65, Tryd.ntmps65
    go_wp2
    go_region_held3 (fun w' => w'.cell? ⟨q, 0, none⟩ = some (.int .i64 W) ∧ w'.cell? ⟨q, 1, none⟩ = some (.bool true) ∧ Below w.heap.size w w') (first | exact ⟨h0, h1, (Below.refl _ _).drew⟩ | exact keep2 (by assumption) hq)
      (first | (go_at_call 35; refine (stands_any _ _ _ _ HR.out (by assumption) (by assumption)).mono ?_; rintro e w' ⟨rfl, hq⟩))
    rename_i hh
    clear h0 h1
    go_wp2
    go_ret
    exact ⟨rfl, hh.2.2⟩

set_option maxHeartbeats 400000 in
theorem le_any (W : Int) (S : Bool) (q d : Nat) (a b : Int) (w : World) (hr : rt W S = true) (h0 : w.cell? ⟨q, 0, none⟩ = some (.int .i64 W)) (h1 : w.cell? ⟨q, 1, none⟩ = some (.bool S)) (hd : w.cell? ⟨d, 0, none⟩ = some (.func (.func 65) #[] #[.pointer (some ⟨q, 0, none⟩)])) (ha : 0 ≤ a) (ha1 : a < 18446744073709551616) (hb0 : 0 ≤ b) (hb1 : b < 18446744073709551616) :
    Calls Tryd.prog 66 #[.int .u64 a, .int .u64 b, .pointer (some ⟨d, 0, none⟩)] w fun e w' => e = .returned (.bool (!lessF W S b a)) ∧ Below w.heap.size w w' := by
  have HR := Lib.hid hr
  clear hr
  go_enter Tryd.func66, Tryd.ntmps66
  go_wp2_with fail
  refine (less_any W S q _ _ _ HR.out h0 h1 (by assumption) (by assumption) (by assumption) (by assumption)).mono ?_
  rintro e w1 ⟨rfl, hq⟩
  clear hd h0 h1
  go_wp2
  go_ret
  exact ⟨rfl, hq⟩

set_option maxHeartbeats 400000 in
theorem gt_any (W : Int) (S : Bool) (q d : Nat) (a b : Int) (w : World) (hr : rt W S = true) (h0 : w.cell? ⟨q, 0, none⟩ = some (.int .i64 W)) (h1 : w.cell? ⟨q, 1, none⟩ = some (.bool S)) (hd : w.cell? ⟨d, 0, none⟩ = some (.func (.func 65) #[] #[.pointer (some ⟨q, 0, none⟩)])) (ha : 0 ≤ a) (ha1 : a < 18446744073709551616) (hb0 : 0 ≤ b) (hb1 : b < 18446744073709551616) :
    Calls Tryd.prog 67 #[.int .u64 a, .int .u64 b, .pointer (some ⟨d, 0, none⟩)] w fun e w' => e = .returned (.bool (lessF W S b a)) ∧ Below w.heap.size w w' := by
  have HR := Lib.hid hr
  clear hr
  go_enter Tryd.func67, Tryd.ntmps67
  go_wp2_with fail
  refine (less_any W S q _ _ _ HR.out h0 h1 (by assumption) (by assumption) (by assumption) (by assumption)).mono ?_
  rintro e w1 ⟨rfl, hq⟩
  clear hd h0 h1
  go_wp2
  go_ret
  exact ⟨rfl, hq⟩

set_option maxHeartbeats 400000 in
theorem ge_any (W : Int) (S : Bool) (q d : Nat) (a b : Int) (w : World) (hr : rt W S = true) (h0 : w.cell? ⟨q, 0, none⟩ = some (.int .i64 W)) (h1 : w.cell? ⟨q, 1, none⟩ = some (.bool S)) (hd : w.cell? ⟨d, 0, none⟩ = some (.func (.func 65) #[] #[.pointer (some ⟨q, 0, none⟩)])) (ha : 0 ≤ a) (ha1 : a < 18446744073709551616) (hb0 : 0 ≤ b) (hb1 : b < 18446744073709551616) :
    Calls Tryd.prog 68 #[.int .u64 a, .int .u64 b, .pointer (some ⟨d, 0, none⟩)] w fun e w' => e = .returned (.bool (!lessF W S a b)) ∧ Below w.heap.size w w' := by
  have HR := Lib.hid hr
  clear hr
  go_enter Tryd.func68, Tryd.ntmps68
  go_wp2_with fail
  refine (less_any W S q _ _ _ HR.out h0 h1 (by assumption) (by assumption) (by assumption) (by assumption)).mono ?_
  rintro e w1 ⟨rfl, hq⟩
  clear hd h0 h1
  go_wp2
  go_ret
  exact ⟨rfl, hq⟩


/-- A value that may be called with two numbers of 64 bits, from the world w on: it returns F of them, and leaves old memory alone. -/
def IsTst (f : Value) (w : World) (F : Int → Int → Bool) : Prop :=
  ∃ fid caps, f = .func (.func fid) #[] caps ∧ (∀ args w, (callFunc fid args).run Tryd.prog w = .ok (.enter fid args) w) ∧
    ∀ w', Below w.heap.size w w' → ∀ a b : Int, 0 ≤ a → a < 18446744073709551616 → 0 ≤ b → b < 18446744073709551616 →
      Calls Tryd.prog fid (#[.int .u64 a, .int .u64 b] ++ caps) w' fun e w'' => e = .returned (.bool (F a b)) ∧ Below w'.heap.size w' w''
def tsF (W : Int) (S : Bool) (s : ByteArray) (a b : Int) : Bool :=
  if s = ⟨#[61, 61]⟩ then a == b else if s = ⟨#[33, 61]⟩ then a != b else if s = ⟨#[60]⟩ then lessF W S a b else if s = ⟨#[60, 61]⟩ then !lessF W S b a else if s = ⟨#[62]⟩ then lessF W S b a else !lessF W S a b
def tsB (W : Int) (s : ByteArray) : Bool :=
  decide (s = ⟨#[61, 61]⟩ ∨ s = ⟨#[33, 61]⟩ ∨ (1 < W ∧ (s = ⟨#[60]⟩ ∨ s = ⟨#[60, 61]⟩ ∨ s = ⟨#[62]⟩ ∨ s = ⟨#[62, 61]⟩)))

theorem tst_T {W : Int} {S : Bool} {s : ByteArray} {i : Nat} {f : Value} (h : findT s = some (i, f)) (w : World) : IsTst f w (tsF W S s) := by
  unfold findT at h
  by_cases h0 : s = ⟨#[61, 61]⟩
  · subst h0
    rw [if_pos rfl] at h
    cases h
    exact ⟨50, #[], rfl, cf50, fun w' _ a b _ _ _ _ => eq_any a b w'⟩
  by_cases h1 : s = ⟨#[33, 61]⟩
  · subst h1
    rw [if_neg h0, if_pos rfl] at h
    cases h
    exact ⟨51, #[], rfl, cf51, fun w' _ a b _ _ _ _ => ne_any a b w'⟩
  rw [if_neg h0, if_neg h1] at h
  cases h
theorem tst_O {W : Int} {S : Bool} {s : ByteArray} {q d i : Nat} {f : Value} (hr : rt W S = true) (h : findO s (.func (.func 65) #[] #[.pointer (some ⟨q, 0, none⟩)]) (.pointer (some ⟨d, 0, none⟩)) = some (i, f)) (w : World)
    (c0 : w.cell? ⟨q, 0, none⟩ = some (.int .i64 W)) (c1 : w.cell? ⟨q, 1, none⟩ = some (.bool S)) (c2 : w.cell? ⟨d, 0, none⟩ = some (.func (.func 65) #[] #[.pointer (some ⟨q, 0, none⟩)])) : IsTst f w (tsF W S s) := by
  unfold findO at h
  by_cases h0 : s = ⟨#[60]⟩
  · subst h0
    rw [if_pos rfl] at h
    cases h
    exact ⟨65, _, rfl, cf65, fun w' hb a b ha ha1 hb0 hb1 => less_any W S q a b w' hr ((hb.cell (cell_lt c0)).trans c0) ((hb.cell (cell_lt c1)).trans c1) ha ha1 hb0 hb1⟩
  by_cases h1 : s = ⟨#[60, 61]⟩
  · subst h1
    rw [if_neg h0, if_pos rfl] at h
    cases h
    exact ⟨66, _, rfl, cf66, fun w' hb a b ha ha1 hb0 hb1 => le_any W S q d a b w' hr ((hb.cell (cell_lt c0)).trans c0) ((hb.cell (cell_lt c1)).trans c1) ((hb.cell (cell_lt c2)).trans c2) ha ha1 hb0 hb1⟩
  by_cases h2 : s = ⟨#[62]⟩
  · subst h2
    rw [if_neg h0, if_neg h1, if_pos rfl] at h
    cases h
    exact ⟨67, _, rfl, cf67, fun w' hb a b ha ha1 hb0 hb1 => gt_any W S q d a b w' hr ((hb.cell (cell_lt c0)).trans c0) ((hb.cell (cell_lt c1)).trans c1) ((hb.cell (cell_lt c2)).trans c2) ha ha1 hb0 hb1⟩
  by_cases h3 : s = ⟨#[62, 61]⟩
  · subst h3
    rw [if_neg h0, if_neg h1, if_neg h2, if_pos rfl] at h
    cases h
    exact ⟨68, _, rfl, cf68, fun w' hb a b ha ha1 hb0 hb1 => ge_any W S q d a b w' hr ((hb.cell (cell_lt c0)).trans c0) ((hb.cell (cell_lt c1)).trans c1) ((hb.cell (cell_lt c2)).trans c2) ha ha1 hb0 hb1⟩
  rw [if_neg h0, if_neg h1, if_neg h2, if_neg h3] at h
  cases h
theorem findT_none {s : ByteArray} : findT s = none ↔ ¬ (s = ⟨#[61, 61]⟩ ∨ s = ⟨#[33, 61]⟩) := by
  unfold findT
  constructor
  · intro h
    repeat' split at h
    all_goals simp_all
  · intro h
    simp only [not_or] at h
    rw [if_neg h.1, if_neg h.2]
theorem findO_none {s : ByteArray} {c d : Value} : findO s c d = none ↔ ¬ (s = ⟨#[60]⟩ ∨ s = ⟨#[60, 61]⟩ ∨ s = ⟨#[62]⟩ ∨ s = ⟨#[62, 61]⟩) := by
  unfold findO
  constructor
  · intro h
    repeat' split at h
    all_goals simp_all
  · intro h
    simp only [not_or] at h
    rw [if_neg h.1, if_neg h.2.1, if_neg h.2.2.1, if_neg h.2.2.2]
theorem orderer_yes (W : Int) (S : Bool) (s : ByteArray) (w : World) (i : Nat) (f : Value) (h : findO s (.func (.func 65) #[] #[.pointer (some ⟨w.heap.size, 0, none⟩)]) (.pointer (some ⟨w.heap.size + 1, 0, none⟩)) = some (i, f)) :
    Calls Tryd.prog 49 #[.agg #[.int .i64 W, .bool S], .string s] w fun e w' => e = .returned (.tuple #[f, .bool true]) ∧ Below (w.heap.size + 2) ((w.alloc (.cells #[.int .i64 W, .bool S] 23)).alloc (.cells #[(.func (.func 65) #[] #[.pointer (some ⟨w.heap.size, 0, none⟩)])] 66)) w' :=
  (orderer_any W S s w).mono fun e w' hh => by rw [h] at hh; exact hh
theorem orderer_no (W : Int) (S : Bool) (s : ByteArray) (w : World) (h : findO s (.func (.func 65) #[] #[.pointer (some ⟨w.heap.size, 0, none⟩)]) (.pointer (some ⟨w.heap.size + 1, 0, none⟩)) = none) :
    Calls Tryd.prog 49 #[.agg #[.int .i64 W, .bool S], .string s] w fun e w' => e = .returned (.tuple #[.nilFunc, .bool false]) ∧ Below (w.heap.size + 2) ((w.alloc (.cells #[.int .i64 W, .bool S] 23)).alloc (.cells #[(.func (.func 65) #[] #[.pointer (some ⟨w.heap.size, 0, none⟩)])] 66)) w' :=
  (orderer_any W S s w).mono fun e w' hh => by rw [h] at hh; exact hh
end Go.Proofs.YtpfdbigdkegncaaDoor
