/- The contracts of word's reckoner and doer: which function an operator is found to be. -/
import Derived.Test.YtpfdbigdkegncaaDoorC
namespace Go.Proofs.YtpfdbigdkegncaaDoor
open Go.RowKit

def findR (s : ByteArray) (c : Value) : Option (Nat × Value) :=
  if s = ⟨#[43]⟩ then some (0, .func (.func 55) #[] #[]) else if s = ⟨#[45]⟩ then some (1, .func (.func 56) #[] #[]) else if s = ⟨#[42]⟩ then some (2, .func (.func 57) #[] #[]) else if s = ⟨#[47]⟩ then some (3, .func (.func 58) #[] #[c]) else if s = ⟨#[37]⟩ then some (4, .func (.func 59) #[] #[c]) else if s = ⟨#[60, 60]⟩ then some (5, .func (.func 60) #[] #[]) else if s = ⟨#[62, 62]⟩ then some (6, .func (.func 61) #[] #[c]) else none
theorem findR_eq (s : ByteArray) (c : Value) : Instr.findNow .string (.string s) [{ key := .string ⟨#[43]⟩, val := .func (.func 55) #[] #[], born := 0 }, { key := .string ⟨#[45]⟩, val := .func (.func 56) #[] #[], born := 1 }, { key := .string ⟨#[42]⟩, val := .func (.func 57) #[] #[], born := 2 }, { key := .string ⟨#[47]⟩, val := .func (.func 58) #[] #[c], born := 3 }, { key := .string ⟨#[37]⟩, val := .func (.func 59) #[] #[c], born := 4 }, { key := .string ⟨#[60, 60]⟩, val := .func (.func 60) #[] #[], born := 5 }, { key := .string ⟨#[62, 62]⟩, val := .func (.func 61) #[] #[c], born := 6 }] 0 = some (findR s c) := by
  unfold findR
  simp only [Instr.findNow, Instr.sameNow]
  by_cases h0 : s = ⟨#[43]⟩
  · subst h0; rfl
  by_cases h1 : s = ⟨#[45]⟩
  · subst h1; rfl
  by_cases h2 : s = ⟨#[42]⟩
  · subst h2; rfl
  by_cases h3 : s = ⟨#[47]⟩
  · subst h3; rfl
  by_cases h4 : s = ⟨#[37]⟩
  · subst h4; rfl
  by_cases h5 : s = ⟨#[60, 60]⟩
  · subst h5; rfl
  by_cases h6 : s = ⟨#[62, 62]⟩
  · subst h6; rfl
  rw [if_neg h0, if_neg h1, if_neg h2, if_neg h3, if_neg h4, if_neg h5, if_neg h6, bne_of h0, bne_of h1, bne_of h2, bne_of h3, bne_of h4, bne_of h5, bne_of h6]

set_option maxHeartbeats 1000000 in
theorem reckoner_any (W : Int) (S : Bool) (s : ByteArray) (w : World) :
    Calls Tryd.prog 45 #[.agg #[.int .i64 W, .bool S], .string s] w fun e w' => e = .returned (.tuple #[((findR s (.pointer (some ⟨w.heap.size, 0, none⟩))).map (·.2)).getD .nilFunc, .bool (findR s (.pointer (some ⟨w.heap.size, 0, none⟩))).isSome]) ∧
      Below (w.heap.size + 1) (w.alloc (.cells #[.int .i64 W, .bool S] 23)) w' := by
  have hmm := @run_makeMap Tryd.prog
  have p0 := fun  v => map_put (P := Tryd.prog) Tryd.underlying76 Tryd.underlying9 (w.alloc (.cells #[.int .i64 W, .bool S] 23)) #[] 0 ⟨#[43]⟩ v rfl
  have p1 := fun v0 v => map_put (P := Tryd.prog) Tryd.underlying76 Tryd.underlying9 (w.alloc (.cells #[.int .i64 W, .bool S] 23)) #[{ key := .string ⟨#[43]⟩, val := v0, born := 0 }] 1 ⟨#[45]⟩ v rfl
  have p2 := fun v0 v1 v => map_put (P := Tryd.prog) Tryd.underlying76 Tryd.underlying9 (w.alloc (.cells #[.int .i64 W, .bool S] 23)) #[{ key := .string ⟨#[43]⟩, val := v0, born := 0 }, { key := .string ⟨#[45]⟩, val := v1, born := 1 }] 2 ⟨#[42]⟩ v rfl
  have p3 := fun v0 v1 v2 v => map_put (P := Tryd.prog) Tryd.underlying76 Tryd.underlying9 (w.alloc (.cells #[.int .i64 W, .bool S] 23)) #[{ key := .string ⟨#[43]⟩, val := v0, born := 0 }, { key := .string ⟨#[45]⟩, val := v1, born := 1 }, { key := .string ⟨#[42]⟩, val := v2, born := 2 }] 3 ⟨#[47]⟩ v rfl
  have p4 := fun v0 v1 v2 v3 v => map_put (P := Tryd.prog) Tryd.underlying76 Tryd.underlying9 (w.alloc (.cells #[.int .i64 W, .bool S] 23)) #[{ key := .string ⟨#[43]⟩, val := v0, born := 0 }, { key := .string ⟨#[45]⟩, val := v1, born := 1 }, { key := .string ⟨#[42]⟩, val := v2, born := 2 }, { key := .string ⟨#[47]⟩, val := v3, born := 3 }] 4 ⟨#[37]⟩ v rfl
  have p5 := fun v0 v1 v2 v3 v4 v => map_put (P := Tryd.prog) Tryd.underlying76 Tryd.underlying9 (w.alloc (.cells #[.int .i64 W, .bool S] 23)) #[{ key := .string ⟨#[43]⟩, val := v0, born := 0 }, { key := .string ⟨#[45]⟩, val := v1, born := 1 }, { key := .string ⟨#[42]⟩, val := v2, born := 2 }, { key := .string ⟨#[47]⟩, val := v3, born := 3 }, { key := .string ⟨#[37]⟩, val := v4, born := 4 }] 5 ⟨#[60, 60]⟩ v rfl
  have p6 := fun v0 v1 v2 v3 v4 v5 v => map_put (P := Tryd.prog) Tryd.underlying76 Tryd.underlying9 (w.alloc (.cells #[.int .i64 W, .bool S] 23)) #[{ key := .string ⟨#[43]⟩, val := v0, born := 0 }, { key := .string ⟨#[45]⟩, val := v1, born := 1 }, { key := .string ⟨#[42]⟩, val := v2, born := 2 }, { key := .string ⟨#[47]⟩, val := v3, born := 3 }, { key := .string ⟨#[37]⟩, val := v4, born := 4 }, { key := .string ⟨#[60, 60]⟩, val := v5, born := 5 }] 6 ⟨#[62, 62]⟩ v rfl
  simp only [World.size_alloc] at p0 p1 p2 p3 p4 p5 p6
  have g := map_get (P := Tryd.prog) Tryd.underlying76 Tryd.underlying9 (w.alloc (.cells #[.int .i64 W, .bool S] 23)) #[{ key := .string ⟨#[43]⟩, val := .func (.func 55) #[] #[], born := 0 }, { key := .string ⟨#[45]⟩, val := .func (.func 56) #[] #[], born := 1 }, { key := .string ⟨#[42]⟩, val := .func (.func 57) #[] #[], born := 2 }, { key := .string ⟨#[47]⟩, val := .func (.func 58) #[] #[.pointer (some ⟨w.heap.size, 0, none⟩)], born := 3 }, { key := .string ⟨#[37]⟩, val := .func (.func 59) #[] #[.pointer (some ⟨w.heap.size, 0, none⟩)], born := 4 }, { key := .string ⟨#[60, 60]⟩, val := .func (.func 60) #[] #[], born := 5 }, { key := .string ⟨#[62, 62]⟩, val := .func (.func 61) #[] #[.pointer (some ⟨w.heap.size, 0, none⟩)], born := 6 }] 7 s .nilFunc (findR s (.pointer (some ⟨w.heap.size, 0, none⟩))) (by kernel_rfl) (findR_eq s _)
  simp only [World.size_alloc] at g
  generalize hx : ((findR s (.pointer (some ⟨w.heap.size, 0, none⟩))).map (·.2)).getD .nilFunc = x at *
  generalize hy : (findR s (.pointer (some ⟨w.heap.size, 0, none⟩))).isSome = y at *
  have Hx := Lib.hid hx
  have Hy := Lib.hid hy
  clear hx hy
  go_enter Tryd.func45, Tryd.ntmps45
  go_wp2
  go_ret2
  exact ⟨rfl, (Below.refl _ _).alloc (by simp) _⟩
end Go.Proofs.YtpfdbigdkegncaaDoor
