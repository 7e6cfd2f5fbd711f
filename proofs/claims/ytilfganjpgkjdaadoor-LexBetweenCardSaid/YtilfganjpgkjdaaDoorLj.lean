/- The reader of lex: where it lies, and the contract of take. -/
import Derived.Test.YtilfganjpgkjdaaDoorLi
import Derived.Laws.AppendOwn
import Derived.Outline
namespace Go.Proofs.YtilfganjpgkjdaaDoor
open Go Go.RowKit

theorem grown_refl (w : World) (r : Option Nat) : w.grownBy w r := ⟨rfl, rfl, rfl, Nat.le_refl _, fun _ _ _ => rfl⟩
theorem grown_trans {a b c : World} {r : Option Nat} (h : a.grownBy b r) (k : b.grownBy c r) : a.grownBy c r :=
  ⟨k.os.trans h.os, k.tape.trans h.tape, k.output.trans h.output, Nat.le_trans h.size k.size, fun i hi hr => (k.block i (Nat.lt_of_lt_of_le hi h.size) hr).trans (h.block i hi hr)⟩
theorem grown_set {a b : World} {B o : Nat} (h : a.grownBy b (some B)) (v : Value) : a.grownBy (b.setCell ⟨B, o, none⟩ v) (some B) := by
  have hb := (Below.refl 0 b).setCell (p := ⟨B, o, none⟩) (Nat.zero_le _) v
  refine grown_trans h ⟨hb.os, hb.tape, hb.output, hb.size, fun k _ hr => Below.heap_setCell b _ v k (fun e => hr (by rw [e]))⟩
theorem grown_alloc {a b : World} {r : Option Nat} (h : a.grownBy b r) (o : Obj) : a.grownBy (b.alloc o) r := grown_trans h (World.grownBy_alloc b o r)
theorem grown_drew {a b : World} {r : Option Nat} (h : a.grownBy b r) : a.grownBy b.drew r := by
  have hb := (Below.refl b.heap.size b).drew
  exact grown_trans h ⟨hb.os, hb.tape, hb.output, hb.size, fun k hk _ => hb.block k hk⟩

/-- The reader lies at block B. -/
structure RdAt (B : Nat) (r : ByteArray) (ln c : Int) (w : World) : Prop where
  c0 : w.cell? ⟨B, 0, none⟩ = some (.string r)
  c1 : w.cell? ⟨B, 1, none⟩ = some (.int .i64 ln)
  c2 : w.cell? ⟨B, 2, none⟩ = some (.int .i64 c)
  f0 : w.frozen? ⟨B, 0, none⟩ = false
  f1 : w.frozen? ⟨B, 1, none⟩ = false
  f2 : w.frozen? ⟨B, 2, none⟩ = false
theorem RdAt.lt {B : Nat} {r : ByteArray} {ln c : Int} {w : World} (h : RdAt B r ln c w) : B < w.heap.size := by
  by_cases hh : B < w.heap.size
  · exact hh
  · exfalso
    have : w.heap[B]? = none := by simp; omega
    have := h.c0
    simp [World.cell?, *] at this
theorem RdAt.kept {B : Nat} {r : ByteArray} {ln c : Int} {w w' : World} {row : Option Nat} (h : RdAt B r ln c w) (hg : w.grownBy w' row) (hne : some B ≠ row) : RdAt B r ln c w' := by
  have hb := hg.block B h.lt hne
  exact ⟨(World.cell?_of_block hb).trans h.c0, (World.cell?_of_block hb).trans h.c1, (World.cell?_of_block hb).trans h.c2, (World.frozen?_of_block hb).trans h.f0, (World.frozen?_of_block hb).trans h.f1, (World.frozen?_of_block hb).trans h.f2⟩
theorem RdAt.set0 {B : Nat} {r : ByteArray} {ln c : Int} {w : World} (h : RdAt B r ln c w) (r' : ByteArray) : RdAt B r' ln c (w.setCell ⟨B, 0, none⟩ (.string r')) := by
  have h0 := h.c0; have h1 := h.c1; have h2 := h.c2; have g0 := h.f0; have g1 := h.f1; have g2 := h.f2
  constructor <;> simp [go_sem, *]
theorem RdAt.set1 {B : Nat} {r : ByteArray} {ln c : Int} {w : World} (h : RdAt B r ln c w) (x : Int) : RdAt B r x c (w.setCell ⟨B, 1, none⟩ (.int .i64 x)) := by
  have h0 := h.c0; have h1 := h.c1; have h2 := h.c2; have g0 := h.f0; have g1 := h.f1; have g2 := h.f2
  constructor <;> simp [go_sem, *]
theorem RdAt.set2 {B : Nat} {r : ByteArray} {ln c : Int} {w : World} (h : RdAt B r ln c w) (x : Int) : RdAt B r ln x (w.setCell ⟨B, 2, none⟩ (.int .i64 x)) := by
  have h0 := h.c0; have h1 := h.c1; have h2 := h.c2; have g0 := h.f0; have g1 := h.f1; have g2 := h.f2
  constructor <;> simp [go_sem, *]
end Go.Proofs.YtilfganjpgkjdaaDoor
