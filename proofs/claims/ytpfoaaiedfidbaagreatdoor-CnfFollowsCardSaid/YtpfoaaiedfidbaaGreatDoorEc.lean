/- What is true stands in a map; a closure asks it. -/
import Derived.Test.YtpfoaaiedfidbaaGreatDoorDb
import Derived.Maps.OwnSet
import Derived.Maps.Own
namespace Go.Proofs.YtpfoaaiedfidbaaGreatDoor
open Go Go.RowKit Go.Maps

theorem key3 : Keyed Tryz.prog 3 := int_keyed Tryz.underlying3
theorem zero73 (w : World) : (zeroValue 73).run Tryz.prog w = .ok (.agg #[]) w := by kernel_rfl
theorem wf_may {x : Int} (h : mayB x = true) : (Lit.int .i64 x).wf = true := by
  obtain ⟨_, h1, h2⟩ := mayB_iff.1 h
  exact WalkArith.wf_i64 (by omega)
theorem keyOf_may {x : Int} (h : mayB x = true) : keyOf Tryz.prog 3 (.int .i64 x) = some (.int .i64 x) := keyOf_int_mk Tryz.underlying3 (wf_may h)
theorem may_neg {x : Int} (h : mayB x = true) : mayB (-x) = true := by
  rw [mayB_iff] at *
  omega
/-- Block b is a map whose keys are these numbers. -/
def SetAt (w : World) (b n : Nat) (tr : List Int) : Prop := ∃ D : DataW Unit, w.ownsMap Tryz.prog 3 (unitElem (H := Unit)) b n D ∧ IsMap D ∧ ∀ x, Maps.has D (.int .i64 x) = hasB tr x
theorem SetAt.lt {w : World} {b n : Nat} {tr : List Int} (h : SetAt w b n tr) : b < w.heap.size := by
  obtain ⟨D, ⟨es, clock, hb, _⟩, _⟩ := h
  exact (Array.getElem?_eq_some_iff.1 hb).1
theorem SetAt.grown {w w' : World} {b n : Nat} {tr : List Int} {row : Option Nat} (h : SetAt w b n tr) (hg : w.grownBy w' row) (hne : some b ≠ row) : SetAt w' b n tr := by
  have hlt := h.lt
  obtain ⟨D, ⟨es, clock, hb, r⟩, h2⟩ := h
  exact ⟨D, ⟨es, clock, (hg.block b hlt hne).trans hb, r⟩, h2⟩
theorem SetAt.below {w w' : World} {b n B : Nat} {tr : List Int} (h : SetAt w b n tr) (hb : Below B w w') (hB : b < B) : SetAt w' b n tr := by
  obtain ⟨D, ⟨es, clock, hb2, r⟩, h2⟩ := h
  exact ⟨D, ⟨es, clock, (hb.block b hB).trans hb2, r⟩, h2⟩
theorem SetAt.alloc {w : World} {b n : Nat} {tr : List Int} (h : SetAt w b n tr) (o : Obj) : SetAt (w.alloc o) b n tr := h.below ((Below.refl w.heap.size w).alloc (Nat.le_refl _) o) h.lt
theorem SetAt.made (w : World) : SetAt (w.alloc (.map #[] 0)) w.heap.size 0 [] :=
  ⟨.map [], World.ownsMap_made _ _ _ _, ⟨[], rfl⟩, fun x => by simp [Maps.has, hasB]⟩
theorem within_any (b : Nat) (w : World) :
    Calls Tryz.prog 42 #[.map (some b)] w fun e w' => e = .returned (.func (.func 60) #[] #[.pointer (some ⟨w.heap.size, 0, none⟩)]) ∧ w' = w.alloc (.cells #[.map (some b)] 49) := by
  go_enter Tryz.func42, Tryz.ntmps42
  go_wp2
  go_ret
  exact ⟨rfl, rfl⟩
theorem enters60 : ∀ args w, (callFunc 60 args).run Tryz.prog w = .ok (.enter 60 args) w := enters_of Tryz.func60 (by kernel_rfl) rfl
theorem within_in (q b n : Nat) (tr : List Int) (x : Int) (w : World) (hx : mayB x = true) (hc : w.cell? ⟨q, 0, none⟩ = some (.map (some b))) (h : SetAt w b n tr) :
    Calls Tryz.prog 60 #[.int .i64 x, .pointer (some ⟨q, 0, none⟩)] w fun e w' => e = .returned (.bool (hasB tr x)) ∧ Below w.heap.size w w' := by
  obtain ⟨D, hown, _, hh⟩ := h
  have HO := Lib.hid hown
  have HK := Lib.hid (keyOf_may hx)
  have HH := Lib.hid (hh x)
  clear hown hh hx
  go_enter Tryz.func60, Tryz.ntmps60
  go_wp2_with (at_lookup; refine wpList_lookup_own_unit _ rfl _ _ 49 rfl 3 73 key3 Tryz.underlying49 (zero73 _) b n D rfl HO.out _ _ rfl HK.out ?_)
  go_ret
  exact ⟨ret_bool HH.out, (Below.refl _ _).alloc (Nat.le_refl _) _⟩
end Go.Proofs.YtpfoaaiedfidbaaGreatDoor
