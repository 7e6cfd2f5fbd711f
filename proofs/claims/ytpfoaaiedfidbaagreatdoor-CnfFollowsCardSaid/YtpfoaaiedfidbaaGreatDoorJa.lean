/- The law CnfImplies: its guards, and what it is about. -/
import Derived.Test.YtpfoaaiedfidbaaGreatDoorHb
import Derived.Test.YtpfoaaiedfidbaaGreatDoorCb
namespace Go.Proofs.YtpfoaaiedfidbaaGreatDoor
open Go Go.RowKit

/-- Ways of ten variables are consistent, and each variable has one way. -/
theorem sig_cons {m : List Int} (h : Sig m) : Cons m := by
  intro n hn hm
  obtain ⟨i, hi, rfl⟩ := List.mem_iff_getElem.1 hn
  obtain ⟨j, hj, hj2⟩ := List.mem_iff_getElem.1 hm
  have h1 := h i hi
  have h2 := h j hj
  simp only [List.getD, List.getElem?_eq_getElem hi, List.getElem?_eq_getElem hj, Option.getD_some] at h1 h2
  by_cases e : i = j
  · subst e
    omega
  · omega
theorem holds_L {l : List (List Int)} {m : List Int} (h : holdsB l m = true) : HoldsL l m := by
  unfold holdsB rowHolds at h
  rw [List.all_eq_true] at h
  intro c hc
  have := h c hc
  rw [List.any_eq_true] at this
  obtain ⟨x, hx, hx2⟩ := this
  exact ⟨x, hx, hasB_iff.1 hx2⟩
/-- What two clauses imply by a variable holds wherever they hold. -/
theorem rest_holds {a b m : List Int} {v : Int} (hm : Cons m) (h : holdsB [a, b] m = true) (hok : resolveOk a b v = true) : holdsB [upL (restL a b v)] m = true := by
  have hL := holds_L h
  obtain ⟨x, hx, hxm⟩ := hL a (by simp)
  obtain ⟨y, hy, hym⟩ := hL b (by simp)
  unfold resolveOk at hok
  simp only [Bool.and_eq_true, decide_eq_true_eq] at hok
  obtain ⟨⟨⟨⟨hv, ha⟩, hb⟩, hva⟩, hvb⟩ := hok
  have hca := (cleanB_iff.1 ha).1
  have hcb := (cleanB_iff.1 hb).1
  have hva := hasB_iff.1 hva
  have hvb := hasB_iff.1 hvb
  have key : ∃ z ∈ restL a b v, z ∈ m := by
    by_cases h1 : x = v
    · subst h1
      have h2 : y ≠ x := fun e => hcb y hy (e ▸ hvb)
      have h3 : y ≠ -x := fun e => hm x hxm (e ▸ hym)
      exact ⟨y, by simp [restL, delB, hy, h2, h3], hym⟩
    · have h2 : x ≠ -v := fun e => hca v hva (e ▸ hx)
      exact ⟨x, by simp [restL, delB, hx, h1, h2], hxm⟩
  obtain ⟨z, hz, hzm⟩ := key
  unfold holdsB rowHolds
  rw [List.all_eq_true]
  intro c hc
  rw [List.mem_singleton] at hc
  subst hc
  rw [List.any_eq_true]
  exact ⟨z, mem_upL.2 hz, hasB_iff.2 hzm⟩
theorem rest_no {a b : List Int} {v : Int} : hasB (upL (restL a b v)) v = false ∧ hasB (upL (restL a b v)) (-v) = false := by
  constructor <;>
  · rw [hasB_no, mem_upL]
    simp [restL, delB]
theorem ok_pos {a b : List Int} {v : Int} (hm : rowMay a = true) (hok : resolveOk a b v = true) : 0 < v ∧ v ≤ 1048576 := by
  unfold resolveOk at hok
  simp only [Bool.and_eq_true, decide_eq_true_eq] at hok
  obtain ⟨⟨⟨⟨hv, _⟩, _⟩, hva⟩, _⟩ := hok
  have := mayB_iff.1 (rowMay_iff.1 hm v (hasB_iff.1 hva))
  exact ⟨hv, this.2.2⟩
theorem rmost_b (v : Value) (l : List (List Int)) (w : World) (h : Grid w w.heap.size v l) (hf : Fits l) (n : Int) (hn : mostL l = n) : Calls Tryz.prog 8 #[v] w fun e w' => e = .returned (.int .i64 n) ∧ w = w' := by
  subst hn
  exact rmost_any v l w _ h hf
theorem rholds_b (v u : Value) (l : List (List Int)) (is : List Int) (w : World) (h : Grid w w.heap.size v l) (hf : Fits l) (hu : Nums w w.heap.size u is) (hl : is.length ≤ 2000) (b : Bool) (hb : holdsB l is = b) :
    Calls Tryz.prog 16 #[v, u] w fun e w' => e = .returned (.bool b) ∧ w = w' := by
  subst hb
  exact rholds_any v u l is w _ _ h hf hu (by omega)
theorem models_b (v : Value) (l : List (List Int)) (w : World) (h : Grid w w.heap.size v l) (hs : Fits l) :
    Calls Tryz.prog 13 #[v, .int .i64 10] w fun e w' => ∃ A c ms, e = .returned (.slice A ms.length c) ∧ Grid w' w'.heap.size (.slice A ms.length c) ms ∧ Below w.heap.size w w' ∧ ms.length ≤ 1024 ∧ ∀ m ∈ ms, Sig m ∧ m.length = 10 ∧ holdsB l m = true :=
  (models_any v l w _ h hs (Nat.le_refl _)).mono fun e w' ⟨v', ms, he, hm, hb, hl, hall⟩ => by
    have hg := hm.grid
    obtain ⟨A, c, rfl, _⟩ := hg
    exact ⟨A, c, ms, he, hm.grid, hb, hl, hall⟩
end Go.Proofs.YtpfoaaiedfidbaaGreatDoor
