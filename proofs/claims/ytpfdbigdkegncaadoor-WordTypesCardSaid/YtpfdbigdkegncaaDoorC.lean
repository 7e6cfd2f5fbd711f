/- A map literal with string keys that a call makes and asks once; the contracts of word's joiner, reckoner, doer. -/
import Derived.Test.YtpfdbigdkegncaaDoorB
import Derived.WideMake
import Derived.Laws.EntriesVeiled
import Derived.Deep.RegionHeld3
import Derived.Deep.RegionWith
import Derived.Deep.DeepCutAuto
namespace Go.Proofs.YtpfdbigdkegncaaDoor
open Go.RowKit

theorem heap_last (w : World) (o : Obj) : (w.alloc o).heap[w.heap.size]? = some o := by
  show (w.heap.push o)[w.heap.size]? = _
  simp
theorem set_last (w : World) (o o' : Obj) : ({ (w.alloc o) with heap := (w.alloc o).heap.setIfInBounds w.heap.size o' } : World) = w.alloc o' := by
  show ({ w with heap := (w.heap.push o).setIfInBounds w.heap.size o' } : World) = { w with heap := w.heap.push o' }
  congr 1
  apply Array.ext_getElem?
  intro i
  simp [Array.getElem?_setIfInBounds, Array.getElem?_push]
  by_cases h : i = w.heap.size
  · simp [h]
  · simp [h, Ne.symm h]
/-- m[s] = v, of the map made last, at a key that it lacks. -/
theorem map_put {P : Program} {t k e : TypeId} (ht : P.underlying t = some (.map k e)) (hk : P.underlying k = some .string) (w : World) (es : Array MapEntry) (c : Nat) (s : ByteArray) (v : Value)
    (hf : Instr.findNow .string (.string s) es.toList 0 = some none) :
    (Instr.mapUpdate t (.map (some w.heap.size)) (.string s) v).run P (w.alloc (.map es c)) = .ok () (w.alloc (.map (es.push { key := .string s, val := v, born := c }) (c + 1))) := by
  have hb := heap_last w (.map es c)
  have hc : (Instr.checkKey false 10000 k (.string s)).run P (w.alloc (.map es c)) = .ok () (w.alloc (.map es c)) := MapKept.run_checkKey (k := .string s) hk (by simp [MapKept.IsKey]) false 9999
  simp [Instr.mapUpdate, run_underlying ht, MapKept.run_getObj_map hb, hc, MapKept.run_findKey hk hf, MapKept.run_setObj_map _ hb, Result.andThen]
  exact set_last w _ _
/-- v, ok := m[s], of the map made last. -/
theorem map_get {P : Program} {t k e : TypeId} (ht : P.underlying t = some (.map k e)) (hk : P.underlying k = some .string) (w : World) (es : Array MapEntry) (c : Nat) (s : ByteArray) (z : Value) (r : Option (Nat × Value))
    (hz : (zeroValue e).run P (w.alloc (.map es c)) = .ok z (w.alloc (.map es c))) (hf : Instr.findNow .string (.string s) es.toList 0 = some r) :
    (Instr.lookup t (.map (some w.heap.size)) (.string s) true).run P (w.alloc (.map es c)) = .ok (.tuple #[(r.map (·.2)).getD z, .bool r.isSome]) (w.alloc (.map es c)) := by
  have hb := heap_last w (.map es c)
  have hc : (Instr.checkKey es.isEmpty 10000 k (.string s)).run P (w.alloc (.map es c)) = .ok () (w.alloc (.map es c)) := MapKept.run_checkKey (k := .string s) hk (by simp [MapKept.IsKey]) es.isEmpty 9999
  cases r with
  | none => simp [Instr.lookup, run_underlying ht, MapKept.run_getObj_map hb, hc, MapKept.run_findKey hk hf, hz, Result.andThen]
  | some r => simp [Instr.lookup, run_underlying ht, MapKept.run_getObj_map hb, hc, MapKept.run_findKey hk hf, Result.andThen]


def findJ (s : ByteArray) : Option (Nat × Value) :=
  if s = ⟨#[38]⟩ then some (0, .func (.func 62) #[] #[]) else if s = ⟨#[124]⟩ then some (1, .func (.func 63) #[] #[]) else if s = ⟨#[94]⟩ then some (2, .func (.func 64) #[] #[]) else none
theorem bne_of {a b : ByteArray} (h : a ≠ b) : (a == b) = false := by
  cases e : a == b
  · rfl
  · exact absurd ((MapKept.bytes_beq a b).1 e) h
theorem findJ_eq (s : ByteArray) : Instr.findNow .string (.string s) [{ key := .string ⟨#[38]⟩, val := .func (.func 62) #[] #[], born := 0 }, { key := .string ⟨#[124]⟩, val := .func (.func 63) #[] #[], born := 1 }, { key := .string ⟨#[94]⟩, val := .func (.func 64) #[] #[], born := 2 }] 0 = some (findJ s) := by
  unfold findJ
  simp only [Instr.findNow, Instr.sameNow]
  by_cases h1 : s = ⟨#[38]⟩
  · subst h1; rfl
  · by_cases h2 : s = ⟨#[124]⟩
    · subst h2; rfl
    · by_cases h3 : s = ⟨#[94]⟩
      · subst h3; rfl
      · rw [if_neg h1, if_neg h2, if_neg h3, bne_of h1, bne_of h2, bne_of h3]

set_option maxHeartbeats 400000 in
theorem joiner_any (s : ByteArray) (w : World) :
    Calls Tryd.prog 46 #[.string s] w fun e w' => e = .returned (.tuple #[((findJ s).map (·.2)).getD .nilFunc, .bool (findJ s).isSome]) ∧ Below w.heap.size w w' := by
  have hmm := @run_makeMap Tryd.prog
  have p1 := fun v => map_put (P := Tryd.prog) Tryd.underlying76 Tryd.underlying9 w #[] 0 ⟨#[38]⟩ v rfl
  have p2 := fun v1 v => map_put (P := Tryd.prog) Tryd.underlying76 Tryd.underlying9 w #[{ key := .string ⟨#[38]⟩, val := v1, born := 0 }] 1 ⟨#[124]⟩ v rfl
  have p3 := fun v1 v2 v => map_put (P := Tryd.prog) Tryd.underlying76 Tryd.underlying9 w #[{ key := .string ⟨#[38]⟩, val := v1, born := 0 }, { key := .string ⟨#[124]⟩, val := v2, born := 1 }] 2 ⟨#[94]⟩ v rfl
  have g := map_get (P := Tryd.prog) Tryd.underlying76 Tryd.underlying9 w #[{ key := .string ⟨#[38]⟩, val := .func (.func 62) #[] #[], born := 0 }, { key := .string ⟨#[124]⟩, val := .func (.func 63) #[] #[], born := 1 }, { key := .string ⟨#[94]⟩, val := .func (.func 64) #[] #[], born := 2 }] 3 s .nilFunc (findJ s) (by kernel_rfl) (findJ_eq s)
  generalize hx : ((findJ s).map (·.2)).getD .nilFunc = x at *
  generalize hy : (findJ s).isSome = y at *
  have Hx := Lib.hid hx
  have Hy := Lib.hid hy
  clear hx hy
  go_enter Tryd.func46, Tryd.ntmps46
  go_wp2
  go_ret2
  exact ⟨rfl, (Below.refl _ _).alloc (Nat.le_refl _) _⟩

theorem keep2 {w0 w w' : World} {p p' : Addr} {v v' : Value} (h : w.cell? p = some v ∧ w.cell? p' = some v' ∧ Below w0.heap.size w0 w) (hb : Below w.heap.size w w') :
    w'.cell? p = some v ∧ w'.cell? p' = some v' ∧ Below w0.heap.size w0 w' :=
  ⟨(hb.cell (cell_lt h.1)).trans h.1, (hb.cell (cell_lt h.2.1)).trans h.2.1, h.2.2.trans (hb.mono h.2.2.size)⟩
theorem add_any (a b : Int) (w : World) : Calls Tryd.prog 55 #[.int .u64 a, .int .u64 b] w fun e w' => e = .returned (.int .u64 (IntKind.u64.wrap (a + b))) ∧ Below w.heap.size w w' := by
  go_enter Tryd.func55, Tryd.ntmps55
  go_wp2
  go_ret
  exact ⟨rfl, Below.refl _ _⟩
theorem sub_any (a b : Int) (w : World) : Calls Tryd.prog 56 #[.int .u64 a, .int .u64 b] w fun e w' => e = .returned (.int .u64 (IntKind.u64.wrap (a - b))) ∧ Below w.heap.size w w' := by
  go_enter Tryd.func56, Tryd.ntmps56
  go_wp2
  go_ret
  exact ⟨rfl, Below.refl _ _⟩
theorem mul_any (a b : Int) (w : World) : Calls Tryd.prog 57 #[.int .u64 a, .int .u64 b] w fun e w' => e = .returned (.int .u64 (IntKind.u64.wrap (a * b))) ∧ Below w.heap.size w w' := by
  go_enter Tryd.func57, Tryd.ntmps57
  go_wp2
  go_ret
  exact ⟨rfl, Below.refl _ _⟩
theorem shl_any (a b : Int) (w : World) (h0 : 0 ≤ b) (_h1 : b < 18446744073709551616) : Calls Tryd.prog 60 #[.int .u64 a, .int .u64 b] w fun e w' => e = .returned (.int .u64 (IntKind.u64.wrap (a * 2 ^ min b.toNat 64))) ∧ Below w.heap.size w w' := by
  go_enter Tryd.func60, Tryd.ntmps60
  go_wp2
  go_ret
  exact ⟨rfl, Below.refl _ _⟩
theorem and_any (a b : Int) (w : World) : Calls Tryd.prog 62 #[.int .u64 a, .int .u64 b] w fun e w' => e = .returned (.int .u64 (bits .and .u64 a b)) ∧ Below w.heap.size w w' := by
  go_enter Tryd.func62, Tryd.ntmps62
  go_wp2
  go_ret
  exact ⟨rfl, Below.refl _ _⟩
theorem or_any (a b : Int) (w : World) : Calls Tryd.prog 63 #[.int .u64 a, .int .u64 b] w fun e w' => e = .returned (.int .u64 (bits .or .u64 a b)) ∧ Below w.heap.size w w' := by
  go_enter Tryd.func63, Tryd.ntmps63
  go_wp2
  go_ret
  exact ⟨rfl, Below.refl _ _⟩
theorem xor_any (a b : Int) (w : World) : Calls Tryd.prog 64 #[.int .u64 a, .int .u64 b] w fun e w' => e = .returned (.int .u64 (bits .xor .u64 a b)) ∧ Below w.heap.size w w' := by
  go_enter Tryd.func64, Tryd.ntmps64
  go_wp2
  go_ret
  exact ⟨rfl, Below.refl _ _⟩

def divF (W : Int) (S : Bool) (a b : Int) : Int := if S then IntKind.u64.wrap (IntKind.i64.wrap ((stF W true a).tdiv (stF W true b))) else a / b
def remF (W : Int) (S : Bool) (a b : Int) : Int := if S then IntKind.u64.wrap ((stF W true a).tmod (stF W true b)) else a % b
def shrF (W : Int) (S : Bool) (a b : Int) : Int := if S then IntKind.u64.wrap (stF W true a / 2 ^ min b.toNat 64) else a / 2 ^ min b.toNat 64

set_option maxHeartbeats 400000 in
theorem div_any (W : Int) (S : Bool) (q : Nat) (a b : Int) (w : World) (hr : rt W S = true) (h0 : w.cell? ⟨q, 0, none⟩ = some (.int .i64 W)) (h1 : w.cell? ⟨q, 1, none⟩ = some (.bool S)) (ha : 0 ≤ a) (ha1 : a < 18446744073709551616) (hb : 1 ≤ b) (hb1 : b < 18446744073709551616) (hnz : S = true → stF W true b ≠ 0) :
    Calls Tryd.prog 58 #[.int .u64 a, .int .u64 b, .pointer (some ⟨q, 0, none⟩)] w fun e w' => e = .returned (.int .u64 (divF W S a b)) ∧ Below w.heap.size w w' := by
  have HR := Lib.hid hr
  clear hr
  have hb0 : 0 ≤ b := by omega
  cases S
  · clear hnz
    go_enter Tryd.func58, Tryd.ntmps58
    go_wp2
    go_ret
    exact ⟨rfl, Below.refl _ _⟩
  · have hnz := hnz rfl
    go_enter Tryd.func58, Tryd.ntmps58
    go_wp2
    go_region_held3 (fun w' => w'.cell? ⟨q, 0, none⟩ = some (.int .i64 W) ∧ w'.cell? ⟨q, 1, none⟩ = some (.bool true) ∧ Below w.heap.size w w') (first | exact ⟨h0, h1, (Below.refl _ _).drew⟩ | exact keep2 (by assumption) hq)
      (first | (go_at_call 35; refine (stands_any _ _ _ _ HR.out (by assumption) (by assumption)).mono ?_; rintro e w' ⟨rfl, hq⟩))
    rename_i hh
    clear h0 h1
    go_wp2
    go_ret
    exact ⟨rfl, hh.2.2⟩
set_option maxHeartbeats 400000 in
theorem rem_any (W : Int) (S : Bool) (q : Nat) (a b : Int) (w : World) (hr : rt W S = true) (h0 : w.cell? ⟨q, 0, none⟩ = some (.int .i64 W)) (h1 : w.cell? ⟨q, 1, none⟩ = some (.bool S)) (ha : 0 ≤ a) (ha1 : a < 18446744073709551616) (hb : 1 ≤ b) (hb1 : b < 18446744073709551616) (hnz : S = true → stF W true b ≠ 0) :
    Calls Tryd.prog 59 #[.int .u64 a, .int .u64 b, .pointer (some ⟨q, 0, none⟩)] w fun e w' => e = .returned (.int .u64 (remF W S a b)) ∧ Below w.heap.size w w' := by
  have HR := Lib.hid hr
  clear hr
  have hb0 : 0 ≤ b := by omega
  cases S
  · clear hnz
    go_enter Tryd.func59, Tryd.ntmps59
    go_wp2
    go_ret
    exact ⟨rfl, Below.refl _ _⟩
  · have hnz := hnz rfl
    go_enter Tryd.func59, Tryd.ntmps59
    go_wp2
    go_region_held3 (fun w' => w'.cell? ⟨q, 0, none⟩ = some (.int .i64 W) ∧ w'.cell? ⟨q, 1, none⟩ = some (.bool true) ∧ Below w.heap.size w w') (first | exact ⟨h0, h1, (Below.refl _ _).drew⟩ | exact keep2 (by assumption) hq)
      (first | (go_at_call 35; refine (stands_any _ _ _ _ HR.out (by assumption) (by assumption)).mono ?_; rintro e w' ⟨rfl, hq⟩))
    rename_i hh
    clear h0 h1
    go_wp2
    go_ret
    exact ⟨rfl, hh.2.2⟩
set_option maxHeartbeats 400000 in
theorem shr_any (W : Int) (S : Bool) (q : Nat) (a b : Int) (w : World) (hr : rt W S = true) (h0 : w.cell? ⟨q, 0, none⟩ = some (.int .i64 W)) (h1 : w.cell? ⟨q, 1, none⟩ = some (.bool S)) (ha : 0 ≤ a) (ha1 : a < 18446744073709551616) (hb0 : 0 ≤ b) (_hb1 : b < 18446744073709551616) :
    Calls Tryd.prog 61 #[.int .u64 a, .int .u64 b, .pointer (some ⟨q, 0, none⟩)] w fun e w' => e = .returned (.int .u64 (shrF W S a b)) ∧ Below w.heap.size w w' := by
  have HR := Lib.hid hr
  clear hr
  cases S
  · go_enter Tryd.func61, Tryd.ntmps61
    go_wp2
    go_ret
    exact ⟨rfl, Below.refl _ _⟩
  · go_enter Tryd.func61, Tryd.ntmps61
    go_wp2_with fail
    refine (stands_any _ _ _ _ HR.out (by assumption) (by assumption)).mono ?_
    rintro e w' ⟨rfl, hq⟩
    clear h0 h1
    go_wp2
    go_ret
    exact ⟨rfl, hq⟩
end Go.Proofs.YtpfdbigdkegncaaDoor
