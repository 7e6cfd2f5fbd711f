/- What the laws ask of the program once, at clauses of their own: the facts of those clauses. -/
import Derived.Test.YtpfoaaiedfidbaaGreatDoorGe
import Derived.Test.YtpfoaaiedfidbaaGreatDoorGd
import Derived.Test.YtpfoaaiedfidbaaGreatDoorFi
import Derived.Test.YtpfoaaiedfidbaaGreatDoorDg
import Derived.Test.YtpfoaaiedfidbaaGreatDoorBd
namespace Go.Proofs.YtpfoaaiedfidbaaGreatDoor
open Go Go.RowKit

theorem Nums.le {w : World} {B C : Nat} {v : Value} {xs : List Int} (h : Nums w B v xs) (hB : B ≤ C) : Nums w C v xs := by
  obtain ⟨A, c, rfl, hc, hat⟩ := h
  refine ⟨A, c, rfl, hc, fun h0 => ?_⟩
  obtain ⟨b, off, rfl, hb, hcell⟩ := hat h0
  exact ⟨b, off, rfl, Nat.lt_of_lt_of_le hb hB, hcell⟩
/-- A slice of numbers just built. -/
theorem Nums.built (w : World) (xs : List Int) (cs : Array Value) (n : Nat) (hn : n = xs.length) (hcs : cs = (encs xs).toArray) : Nums (w.alloc (.cells cs 3)) (w.heap.size + 1) (.slice (some ⟨w.heap.size, 0, none⟩) n n) xs := by
  subst hn
  refine ⟨_, _, rfl, Nat.le_refl _, fun _ => ⟨w.heap.size, 0, rfl, by omega, fun j hj => ?_⟩⟩
  rw [World.cell?_alloc_new, hcs]
  simp [encs, List.getD, List.getElem?_eq_getElem hj]
/-- A slice of rows just built. -/
theorem Grid.built (w : World) (l : List (List Int)) (us : List Value) (n : Nat) (hn : n = l.length) (hu : us.length = l.length) (hr : ∀ j, j < l.length → Nums w w.heap.size (us.getD j (.slice none 0 0)) (l.getD j [])) : Grid (w.alloc (.cells us.toArray 23)) (w.heap.size + 1) (.slice (some ⟨w.heap.size, 0, none⟩) n n) l := by
  subst hn
  refine ⟨_, _, rfl, Nat.le_refl _, fun _ => ⟨w.heap.size, 0, rfl, by omega, fun j hj => ⟨us.getD j (.slice none 0 0), ?_, ?_⟩⟩⟩
  · rw [World.cell?_alloc_new]
    simp [List.getD, List.getElem?_eq_getElem (by omega : j < us.length)]
  · exact ((hr j hj).below ((Below.refl _ w).alloc (Nat.le_refl _) _) (Nat.le_refl _)).le (by omega)

def awL : List (List Int) := [[1, -2], [2, 3]]
theorem aw_show : (⟨(showL awL).toArray⟩ : ByteArray) = ⟨#[49, 32, 45, 50, 32, 48, 10, 50, 32, 51, 32, 48, 10]⟩ := by kernel_rfl
theorem aw_word {s s' : ByteArray} {i : Nat} {x : Int} (h0 : s ≠ ⟨#[]⟩) (h1 : Lib.indexByte s.data.toList 32 = i) (h2 : i + 1 ≤ s.size) (h3 : s.size ≤ 18) (h4 : s.extract (i + 1) s.size = s') (h5 : Lib.atoi (s.extract 0 i).data.toList = some x) (h6 : (⟨(Lib.itoa x).toArray⟩ : ByteArray) = s.extract 0 i) (h7 : mayB x = true) : WordOk s i x s' :=
  ⟨h0, h1, h2, h3, h4, h5, h6, h7, by have := mayB_iff.1 h7; omega, by have := mayB_iff.1 h7; omega⟩
theorem aw_line1 : LineOk ⟨#[49, 32, 45, 50, 32, 48]⟩ [1, -2] (fun k => match k with | 0 => ⟨#[49, 32, 45, 50, 32]⟩ | 1 => ⟨#[45, 50, 32]⟩ | _ => ⟨#[]⟩) (fun k => match k with | 0 => 1 | _ => 2) where
  short := by decide
  len := by decide
  suf := by kernel_rfl
  first := by kernel_rfl
  last := rfl
  step k hk := by
    match k, hk with
    | 0, _ => exact aw_word (by intro h; cases h) (by kernel_rfl) (by decide) (by decide) (by kernel_rfl) (by kernel_rfl) (by kernel_rfl) (by decide)
    | 1, _ => exact aw_word (by intro h; cases h) (by kernel_rfl) (by decide) (by decide) (by kernel_rfl) (by kernel_rfl) (by kernel_rfl) (by decide)
    | n + 2, h => exact absurd (show n + 2 < 2 from h) (by omega)
theorem aw_line2 : LineOk ⟨#[50, 32, 51, 32, 48]⟩ [2, 3] (fun k => match k with | 0 => ⟨#[50, 32, 51, 32]⟩ | 1 => ⟨#[51, 32]⟩ | _ => ⟨#[]⟩) (fun _ => 1) where
  short := by decide
  len := by decide
  suf := by kernel_rfl
  first := by kernel_rfl
  last := rfl
  step k hk := by
    match k, hk with
    | 0, _ => exact aw_word (by intro h; cases h) (by kernel_rfl) (by decide) (by decide) (by kernel_rfl) (by kernel_rfl) (by kernel_rfl) (by decide)
    | 1, _ => exact aw_word (by intro h; cases h) (by kernel_rfl) (by decide) (by decide) (by kernel_rfl) (by kernel_rfl) (by kernel_rfl) (by decide)
    | n + 2, h => exact absurd (show n + 2 < 2 from h) (by omega)
def awW : Nat → ByteArray := fun k => match k with | 0 => ⟨#[49, 32, 45, 50, 32, 48, 10, 50, 32, 51, 32, 48, 10]⟩ | 1 => ⟨#[50, 32, 51, 32, 48, 10]⟩ | _ => ⟨#[]⟩
theorem aw_e1 : (awW 0).extract 0 6 = ⟨#[49, 32, 45, 50, 32, 48]⟩ := by kernel_rfl
theorem aw_e2 : (awW 1).extract 0 5 = ⟨#[50, 32, 51, 32, 48]⟩ := by kernel_rfl
theorem aw_text : TextOk awL awW (fun k => match k with | 0 => 6 | _ => 5) where
  short := by decide
  last := rfl
  step k hk := by
    match k, hk with
    | 0, _ => exact ⟨by kernel_rfl, by decide, by decide, by kernel_rfl, by have := aw_line1; rw [← aw_e1] at this; exact ⟨_, _, this⟩⟩
    | 1, _ => exact ⟨by kernel_rfl, by decide, by decide, by kernel_rfl, by have := aw_line2; rw [← aw_e2] at this; exact ⟨_, _, this⟩⟩
    | n + 2, h => exact absurd (show n + 2 < 2 from h) (by omega)
theorem aw_ok : SpreadOk awL [-1] [-2, -1, 3] where
  up := by unfold Rising; decide
  has := by decide
  der := by
    have h1 : Der awL [-1] (-1) := .told (by decide)
    have h2 : Der awL [-1] (-2) := .unit (c := [1, -2]) (by decide) (by decide) (fun m hm hne => by
      rcases List.mem_cons.1 hm with rfl | hm
      · exact h1
      · have : m = -2 := by simpa using hm
        exact absurd this hne)
    have h3 : Der awL [-1] 3 := .unit (c := [2, 3]) (by decide) (by decide) (fun m hm hne => by
      rcases List.mem_cons.1 hm with rfl | hm
      · exact h2
      · have : m = 3 := by simpa using hm
        exact absurd this hne)
    intro n hn
    simp at hn
    rcases hn with rfl | rfl | rfl
    · exact h2
    · exact h1
    · exact h3
  shut := by
    intro c hc
    left
    simp [awL] at hc
    rcases hc with rfl | rfl
    · exact ⟨-2, by decide, by decide⟩
    · exact ⟨3, by decide, by decide⟩
  cons := by unfold Cons; decide
theorem aw_no : ¬ SpreadNo awL [-1] := no_of_ok aw_ok.has aw_ok.shut aw_ok.cons
theorem aw_may : allMay awL = true := by decide
theorem aw_small : Small awL := ⟨by decide, by decide⟩
theorem aw_check : checkC awL = 0 := by decide
theorem aw_most : mostL awL = 3 := by decide
theorem aw_holds : holdsB awL [1, 3] = true := by decide
theorem aw_c1 : cleanB [2, 3] = true := cleanB_iff.2 ⟨by unfold Cons; decide, by unfold Rising; decide⟩
theorem aw_c2 : cleanB [-2, 1] = true := cleanB_iff.2 ⟨by unfold Cons; decide, by unfold Rising; decide⟩
theorem aw_res : resolveOk [2, 3] [-2, 1] 2 = true := by
  unfold resolveOk
  rw [aw_c1, aw_c2]
  decide
theorem aw_both : bothB (restL [2, 3] [-2, 1] 2) = false := by kernel_rfl
theorem aw_up : upL (restL [2, 3] [-2, 1] 2) = [1, 3] :=
  rising_ext (upL_rising _) (by unfold Rising; decide) fun n => by
    rw [mem_upL, show restL [2, 3] [-2, 1] 2 = [3, 1] by kernel_rfl]
    simp only [List.mem_cons, List.not_mem_nil, or_false]
    exact or_comm
end Go.Proofs.YtpfoaaiedfidbaaGreatDoor
