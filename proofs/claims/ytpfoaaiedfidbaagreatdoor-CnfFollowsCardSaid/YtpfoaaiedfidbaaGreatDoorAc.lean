/- How slices of numbers, and slices of such, read in memory; and that they do so still behind what lies above. -/
import Derived.Test.YtpfoaaiedfidbaaGreatDoorProg
import Derived.WalkKit
import Derived.Below
import Derived.Laws.OwnMore
import Derived.Deep.AppendLies
import Derived.Deep.Draws
namespace Go.Proofs.YtpfoaaiedfidbaaGreatDoor
open Go Go.RowKit

/-- A slice value v, of memory below block B, reads as the numbers xs. -/
def Nums (w : World) (B : Nat) (v : Value) (xs : List Int) : Prop :=
  ∃ (A : Option Addr) (c : Nat), v = .slice A xs.length c ∧ xs.length ≤ c ∧ (0 < xs.length → ∃ b off, A = some ⟨b, off, none⟩ ∧ b < B ∧ ∀ j, j < xs.length → w.cell? ⟨b, off + j, none⟩ = some (.int .i64 (xs.getD j 0)))
/-- A slice of such slices. -/
def Grid (w : World) (B : Nat) (v : Value) (l : List (List Int)) : Prop :=
  ∃ (A : Option Addr) (c : Nat), v = .slice A l.length c ∧ l.length ≤ c ∧ (0 < l.length → ∃ b off, A = some ⟨b, off, none⟩ ∧ b < B ∧ ∀ j, j < l.length → ∃ u, w.cell? ⟨b, off + j, none⟩ = some u ∧ Nums w B u (l.getD j []))

theorem Nums.keep {w w' : World} {B : Nat} {v : Value} {xs : List Int} (h : Nums w B v xs) (hk : ∀ p : Addr, p.block < B → w'.cell? p = w.cell? p) : Nums w' B v xs := by
  obtain ⟨A, c, rfl, hc, hat⟩ := h
  refine ⟨A, c, rfl, hc, fun h0 => ?_⟩
  obtain ⟨b, off, e, hb, hx⟩ := hat h0
  exact ⟨b, off, e, hb, fun j hj => (hk _ hb).trans (hx j hj)⟩
theorem Nums.more {w : World} {B B' : Nat} {v : Value} {xs : List Int} (h : Nums w B v xs) (hB : B ≤ B') : Nums w B' v xs := by
  obtain ⟨A, c, rfl, hc, hat⟩ := h
  refine ⟨A, c, rfl, hc, fun h0 => ?_⟩
  obtain ⟨b, off, e, hb, hx⟩ := hat h0
  exact ⟨b, off, e, by omega, hx⟩
theorem Nums.below {w w' : World} {B C : Nat} {v : Value} {xs : List Int} (h : Nums w B v xs) (hb : Below C w w') (hC : B ≤ C) : Nums w' B v xs :=
  h.keep fun _ hp => hb.cell (Nat.lt_of_lt_of_le hp hC)
theorem Nums.nil (w : World) (B c : Nat) : Nums w B (.slice none 0 c) [] := ⟨none, c, rfl, by simp, fun h => absurd h (by simp)⟩
theorem Nums.nil_at (w : World) (B c : Nat) (A : Option Addr) : Nums w B (.slice A 0 c) [] := ⟨A, c, rfl, by simp, fun h => absurd h (by simp)⟩
theorem Grid.keep {w w' : World} {B : Nat} {v : Value} {l : List (List Int)} (h : Grid w B v l) (hk : ∀ p : Addr, p.block < B → w'.cell? p = w.cell? p) : Grid w' B v l := by
  obtain ⟨A, c, rfl, hc, hat⟩ := h
  refine ⟨A, c, rfl, hc, fun h0 => ?_⟩
  obtain ⟨b, off, e, hb, hx⟩ := hat h0
  refine ⟨b, off, e, hb, fun j hj => ?_⟩
  obtain ⟨u, hu, hn⟩ := hx j hj
  exact ⟨u, (hk _ hb).trans hu, hn.keep hk⟩
theorem Grid.more {w : World} {B B' : Nat} {v : Value} {l : List (List Int)} (h : Grid w B v l) (hB : B ≤ B') : Grid w B' v l := by
  obtain ⟨A, c, rfl, hc, hat⟩ := h
  refine ⟨A, c, rfl, hc, fun h0 => ?_⟩
  obtain ⟨b, off, e, hb, hx⟩ := hat h0
  refine ⟨b, off, e, by omega, fun j hj => ?_⟩
  obtain ⟨u, hu, hn⟩ := hx j hj
  exact ⟨u, hu, hn.more hB⟩
theorem Grid.below {w w' : World} {B C : Nat} {v : Value} {l : List (List Int)} (h : Grid w B v l) (hb : Below C w w') (hC : B ≤ C) : Grid w' B v l :=
  h.keep fun _ hp => hb.cell (Nat.lt_of_lt_of_le hp hC)
/-- What the call owns reads so. -/
theorem Nums.of_own {w : World} {base : Nat} {e : TypeId} {v : Value} {xs : List Int} (h : w.ownsRow base e 1 v xs.length (xs.map (Value.int .i64))) : Nums w w.heap.size v xs := by
  rcases h.2 with ⟨rfl, h0⟩ | ⟨g, cap, cur, rfl, hg, hb, hnc, _⟩
  · have : xs = [] := List.eq_nil_of_length_eq_zero h0
    subst this
    exact Nums.nil _ _ _
  · have hlt : g < w.heap.size := (Array.getElem?_eq_some_iff.1 hb).1
    refine ⟨_, _, rfl, hnc, fun _ => ⟨g, 0, rfl, hlt, fun j hj => ?_⟩⟩
    have := h.cellAt j (by simpa using hj)
    rw [Nat.zero_add, this]
    simp [List.getD, List.getElem?_eq_getElem hj]
theorem Grid.of_own {w : World} {base : Nat} {e : TypeId} {v : Value} {l : List (List Int)} {us : List Value} (h : w.ownsRow base e 1 v us.length us) (hl : us.length = l.length) (hu : ∀ j, j < l.length → Nums w w.heap.size (us.getD j (.slice none 0 0)) (l.getD j [])) : Grid w w.heap.size v l := by
  rcases h.2 with ⟨rfl, h0⟩ | ⟨g, cap, cur, rfl, hg, hb, hnc, _⟩
  · have : l = [] := List.eq_nil_of_length_eq_zero (by omega)
    subst this
    exact ⟨none, 0, rfl, by simp, fun h => absurd h (by simp)⟩
  · have hlt : g < w.heap.size := (Array.getElem?_eq_some_iff.1 hb).1
    refine ⟨some ⟨g, 0, none⟩, cap, by rw [hl], by omega, fun _ => ⟨g, 0, rfl, hlt, fun j hj => ?_⟩⟩
    have := h.cellAt j (by omega)
    refine ⟨us[j]'(by omega), by rw [Nat.zero_add, this, List.getElem?_eq_getElem], ?_⟩
    have h2 := hu j hj
    rwa [List.getD_eq_getElem?_getD, List.getElem?_eq_getElem (by omega : j < us.length)] at h2
end Go.Proofs.YtpfoaaiedfidbaaGreatDoor
