/- The table of types of package word and the contracts of its readers (Name, Right, Of): what each call returns and that it leaves old memory alone, wherever the table lies. -/
import Derived.Test.YtpfdbigdkegncaaDoorProg
import Derived.WalkKit
import Derived.WalkSpells
import Derived.WalkLawsBesides
import Derived.Below
import Derived.Lib.Hide
namespace Go.Proofs.YtpfdbigdkegncaaDoor
open Go.RowKit

def tabL : List (ByteArray × Int × Bool) := [(⟨#[98, 111, 111, 108]⟩, 1, false), (⟨#[117, 56]⟩, 8, false), (⟨#[117, 49, 54]⟩, 16, false), (⟨#[117, 51, 50]⟩, 32, false), (⟨#[117, 54, 52]⟩, 64, false),
  (⟨#[105, 56]⟩, 8, true), (⟨#[105, 49, 54]⟩, 16, true), (⟨#[105, 51, 50]⟩, 32, true), (⟨#[105, 54, 52]⟩, 64, true)]
def tN (i : Nat) : ByteArray := (tabL.getD i (⟨#[]⟩, 0, false)).1
def tW (i : Nat) : Int := (tabL.getD i (⟨#[]⟩, 0, false)).2.1
def tS (i : Nat) : Bool := (tabL.getD i (⟨#[]⟩, 0, false)).2.2

/-- The table lies at block b from off on, and the variable names it. -/
structure TabAt (b off cap : Nat) (w : World) : Prop where
  tg : w.cell? ⟨0, 0, none⟩ = some (.slice (some ⟨b, off, none⟩) 9 cap)
  tn : ∀ i, i < 9 → w.cell? ⟨b, off + i * 3, none⟩ = some (.string (tN i))
  tw : ∀ i, i < 9 → w.cell? ⟨b, off + i * 3 + 1, none⟩ = some (.int .i64 (tW i))
  ts : ∀ i, i < 9 → w.cell? ⟨b, off + i * 3 + 2, none⟩ = some (.bool (tS i))

theorem cell_lt {w : World} {p : Addr} {v : Value} (h : w.cell? p = some v) : p.block < w.heap.size := by
  by_cases hh : p.block < w.heap.size
  · exact hh
  · exfalso
    have : w.heap[p.block]? = none := by simp; omega
    simp [World.cell?, this] at h

theorem TabAt.below {b off cap : Nat} {w w' : World} (h : TabAt b off cap w) (hb : Below w.heap.size w w') : TabAt b off cap w' :=
  ⟨(hb.cell (cell_lt h.tg)).trans h.tg, fun i hi => (hb.cell (cell_lt (h.tn i hi))).trans (h.tn i hi), fun i hi => (hb.cell (cell_lt (h.tw i hi))).trans (h.tw i hi), fun i hi => (hb.cell (cell_lt (h.ts i hi))).trans (h.ts i hi)⟩

/-- The table is somewhere. -/
def Tab (w : World) : Prop := ∃ b off cap, TabAt b off cap w
theorem Tab.below {w w' : World} (h : Tab w) (hb : Below w.heap.size w w') : Tab w' := by
  obtain ⟨b, off, cap, h⟩ := h
  exact ⟨b, off, cap, h.below hb⟩
theorem Tab.alloc {w : World} (h : Tab w) (o : Obj) : Tab (w.alloc o) := h.below ((Below.refl _ _).alloc (Nat.le_refl _) o)
theorem Tab.drew {w : World} (h : Tab w) : Tab w.drew := h.below (Below.refl _ _).drew
theorem Tab.pos {w : World} (h : Tab w) : 0 < w.heap.size := by
  obtain ⟨b, off, cap, h⟩ := h
  exact cell_lt h.tg

/-- One step on, from the size that the walk sees. -/
theorem below_box {w w' : World} {o : Obj} (h : Below (w.heap.size + 1) (w.alloc o) w') : Below w.heap.size w w' :=
  ((Below.refl _ _).alloc (Nat.le_refl _) o).trans (h.mono (by omega))

def nameFrom (W : Int) (S : Bool) : List (ByteArray × Int × Bool) → ByteArray
  | [] => ⟨#[]⟩
  | (n, w, s) :: r => if w = W ∧ s = S then n else nameFrom W S r
def nameOf (W : Int) (S : Bool) : ByteArray := nameFrom W S tabL
def ofFrom (s : ByteArray) : List (ByteArray × Int × Bool) → Int × Bool × Bool
  | [] => (0, false, false)
  | (n, w, g) :: r => if n = s then (w, g, true) else ofFrom s r
def ofName (s : ByteArray) : Int × Bool × Bool := ofFrom s tabL

theorem tab_drop (k : Nat) (h : k < 9) : tabL.drop k = (tN k, tW k, tS k) :: tabL.drop (k + 1) := by
  match k, h with
  | 0, _ => rfl
  | 1, _ => rfl
  | 2, _ => rfl
  | 3, _ => rfl
  | 4, _ => rfl
  | 5, _ => rfl
  | 6, _ => rfl
  | 7, _ => rfl
  | 8, _ => rfl
theorem name_hit {W : Int} {S : Bool} {k : Nat} (h : k < 9) (hw : tW k = W) (hs : tS k = S) (hn : nameFrom W S (tabL.drop k) = nameOf W S) : tN k = nameOf W S := by
  rw [tab_drop k h] at hn
  rw [← hn, nameFrom, if_pos ⟨hw, hs⟩]
theorem name_miss {W : Int} {S : Bool} {k : Nat} (h : k < 9) (hw : ¬ (tW k = W ∧ tS k = S)) (hn : nameFrom W S (tabL.drop k) = nameOf W S) : nameFrom W S (tabL.drop (k + 1)) = nameOf W S := by
  rw [tab_drop k h] at hn
  rw [← hn, nameFrom, if_neg hw]
theorem name_end {W : Int} {S : Bool} {k : Nat} (h : k ≤ 9) (h' : ¬ k < 9) (hn : nameFrom W S (tabL.drop k) = nameOf W S) : (⟨#[]⟩ : ByteArray) = nameOf W S := by
  obtain rfl : k = 9 := by omega
  rw [← hn]
  rfl
theorem ret_str {a b : ByteArray} (h : a = b) : Ending.returned (.string a) = .returned (.string b) := by rw [h]

set_option maxHeartbeats 400000 in
theorem name_at (b off cap : Nat) (W : Int) (S : Bool) (w : World) (ht : TabAt b off cap w) :
    Calls Tryd.prog 18 #[.agg #[.int .i64 W, .bool S]] w fun e w' => e = .returned (.string (nameOf W S)) ∧ Below w.heap.size w w' := by
  have g := ht.tg
  have hz : 0 < w.heap.size := cell_lt g
  go_enter Tryd.func18, Tryd.ntmps18
  go_wp2
  go_loopw [7] (fun i wr => ∃ k : Nat, k ≤ 9 ∧ i = .int .i64 k ∧ nameFrom W S (tabL.drop k) = nameOf W S ∧ Below (w.heap.size + 1) (w.alloc (.cells #[.int .i64 W, .bool S] 23)) wr) (fun i _ => 9 - (intOf i).toNat)
  case atStart => exact ⟨0, Nat.zero_le _, rfl, rfl, Below.refl _ _⟩
  case round =>
    obtain ⟨k, hk, rfl, hn, hb⟩ := hrel
    have ht1 := (ht.below ((Below.refl _ _).alloc (Nat.le_refl _) (.cells #[.int .i64 W, .bool S] 23))).below (by simp; exact hb)
    have b0 : wr.cell? ⟨w.heap.size, 0, none⟩ = some (.int .i64 W) := (hb.cell (p := ⟨w.heap.size, 0, none⟩) (by simp)).trans (by simp [go_sem])
    have b1 : wr.cell? ⟨w.heap.size, 1, none⟩ = some (.bool S) := (hb.cell (p := ⟨w.heap.size, 1, none⟩) (by simp)).trans (by simp [go_sem])
    have hsz : w.heap.size < wr.heap.size := by have := hb.size; simp at this; omega
    have Hn := Lib.hid hn
    clear hn g
    by_cases hlt : k < 9
    · have c0 := ht1.tn k hlt
      have c1 := ht1.tw k hlt
      have c2 := ht1.ts k hlt
      clear ht ht1
      go_wp2
      · go_ret
        exact ⟨ret_str (name_hit hlt ‹_› ‹_› Hn.out), below_box (hb.alloc hsz _)⟩
      · exact ⟨⟨k + 1, by omega, by go_num, name_miss hlt (fun h => absurd h.2 ‹_›) Hn.out, hb.alloc hsz _⟩, by simp [intOf]; omega⟩
      · exact ⟨⟨k + 1, by omega, by go_num, name_miss hlt (fun h => absurd h.1 ‹_›) Hn.out, hb.alloc hsz _⟩, by simp [intOf]; omega⟩
    · clear ht ht1
      go_wp2
      go_ret
      exact ⟨ret_str (name_end hk hlt Hn.out), below_box hb⟩

theorem name_any (W : Int) (S : Bool) (w : World) (ht : Tab w) :
    Calls Tryd.prog 18 #[.agg #[.int .i64 W, .bool S]] w fun e w' => e = .returned (.string (nameOf W S)) ∧ Below w.heap.size w w' := by
  obtain ⟨b, off, cap, ht⟩ := ht
  exact name_at b off cap W S w ht
end Go.Proofs.YtpfdbigdkegncaaDoor
