/- The contracts that the laws use, in one shape. -/
import Derived.Test.YtpfoaaiedfidbaaGreatDoorGg
namespace Go.Proofs.YtpfoaaiedfidbaaGreatDoor
open Go Go.RowKit

theorem few_of {l : List (List Int)} (h : fewB l = true) : l.length ≤ 40 ∧ ∀ c ∈ l, c.length ≤ 20 := by
  unfold fewB shortAll at h
  rw [Bool.and_eq_true, decide_eq_true_eq, List.all_eq_true] at h
  exact ⟨h.1, fun c hc => of_decide_eq_true (h.2 c hc)⟩
theorem checkC_iff {l : List (List Int)} : checkC l = 0 ↔ allMay l = true := by
  unfold checkC
  split <;> simp_all
theorem checkC_or (l : List (List Int)) : checkC l = 0 ∨ checkC l = 60 := by
  unfold checkC
  split <;> simp
theorem rising_nodup {a : List Int} (h : Rising a) : a.Nodup := by
  unfold Rising at h
  exact h.imp fun hab e => by omega
/-- What came of few clauses and few numbers are few. -/
theorem ok_few {l : List (List Int)} {is a : List Int} (h : Few l is) (hi : is.length ≤ 1000) (ho : SpreadOk l is a) (hs : ∀ n ∈ a, n ∈ is ++ l.flatten) : Few l a := by
  refine ⟨h.ll, h.lc, ?_, h.ml, ?_⟩
  · have h1 : l.flatten.length ≤ 800 := by
      have key : ∀ (m : List (List Int)), (∀ c ∈ m, c.length ≤ 20) → m.flatten.length ≤ m.length * 20 := by
        intro m
        induction m with
        | nil => intro _; simp
        | cons c r ih =>
          intro hm
          have h1 := hm c (by simp)
          have h2 := ih fun x hx => hm x (by simp [hx])
          simp only [List.flatten_cons, List.length_append, List.length_cons]
          omega
      have := key l h.lc
      have := h.ll
      omega
    have := (rising_nodup ho.up).length_le_of_subset (fun n hn => hs n hn)
    rw [List.length_append] at this
    omega
  · rw [rowMay_iff]
    intro n hn
    have := hs n hn
    rw [List.mem_append, List.mem_flatten] at this
    rcases this with h1 | ⟨c, hc, hnc⟩
    · exact rowMay_iff.1 h.mi n h1
    · exact rowMay_iff.1 (allMay_iff.1 h.ml c hc) n hnc
def SpreadRes (l : List (List Int)) (is : List Int) (w : World) (e : Ending) (w' : World) : Prop :=
  Below w.heap.size w w' ∧ ((∃ A c a, e = .returned (.tuple #[.slice A a.length c, .bool true]) ∧ Nums w' w'.heap.size (.slice A a.length c) a ∧ SpreadOk l is a ∧ (∀ n ∈ a, n ∈ is ++ l.flatten)) ∨ (e = .returned (.tuple #[.slice none 0 0, .bool false]) ∧ SpreadNo l is))
theorem spread_b (v u : Value) (l : List (List Int)) (is : List Int) (w : World) (hv : Grid w w.heap.size v l) (hu : Nums w w.heap.size u is) (hf : Few l is) :
    Calls Tryz.prog 11 #[v, u] w (SpreadRes l is w) :=
  (spread_any v u l is w _ hv hu hf (Nat.le_refl _)).mono fun e w' ⟨hb, h⟩ => by
    refine ⟨hb, ?_⟩
    rcases h with ⟨v', a, he, ho, hs, hin⟩ | h
    · obtain ⟨A, c, rfl⟩ := ho.form
      exact .inl ⟨A, c, a, he, ho.nums, hs, hin⟩
    · exact .inr h
theorem copied_b (v : Value) (l : List (List Int)) (w : World) (h : Grid w w.heap.size v l) (hs : Small l) :
    Calls Tryz.prog 9 #[v] w fun e w' => ∃ v', e = .returned v' ∧ Grid w' w'.heap.size v' l ∧ Below w.heap.size w w' :=
  (copied_any v l w _ h hs (Nat.le_refl _)).mono fun _ _ ⟨v', he, hm, hb⟩ => ⟨v', he, hm.grid, hb⟩
theorem mine_b (v : Value) (xs : List Int) (w : World) (h : Nums w w.heap.size v xs) (hl : xs.length ≤ 100000) :
    Calls Tryz.prog 12 #[v] w fun e w' => ∃ v', e = .returned v' ∧ Own w' w.heap.size v' xs ∧ Below w.heap.size w w' := mine_any v xs w _ h hl (Nat.le_refl _)
theorem has_b (v : Value) (xs : List Int) (n : Int) (w : World) (h : Nums w w.heap.size v xs) (hl : xs.length ≤ 2000) (b : Bool) (hb : hasB xs n = b) :
    Calls Tryz.prog 14 #[v, .int .i64 n] w fun e w' => e = .returned (.bool b) ∧ w = w' := by
  subst hb
  exact has_any v xs n w _ h (by omega)
theorem awake_b (W w : World) (hp : Pow W) (hb : Below W.heap.size W w) : Calls Tryz.prog 10 #[] w fun e w' => e = .returned (.bool true) ∧ Below W.heap.size W w' :=
  (awake_any w (hp.under hb hp.lt)).mono fun _ _ ⟨he, h⟩ => ⟨he, below_then hb h⟩
theorem rcheck_b (v : Value) (l : List (List Int)) (w : World) (h : Grid w w.heap.size v l) (hf : Fits l) (n : Int) (hn : checkC l = n) : Calls Tryz.prog 7 #[v] w fun e w' => e = .returned (.int .i64 n) ∧ w = w' := by
  subst hn
  exact rcheck_any v l w _ h hf
theorem few_b (v : Value) (l : List (List Int)) (w : World) (h : Grid w w.heap.size v l) (hf : Fits l) (b : Bool) (hb : fewB l = b) : Calls Tryz.prog 6 #[v] w fun e w' => e = .returned (.bool b) ∧ w = w' := by
  subst hb
  exact few_any v l w _ h hf
/-- Clauses of one, of two slices, just built. -/
theorem grid1 (w : World) (A : Option Addr) (n c : Nat) (xs : List Int) (h : Nums w w.heap.size (.slice A n c) xs) : Grid (w.alloc (.cells #[.slice A n c] 23)) (w.alloc (.cells #[.slice A n c] 23)).heap.size (.slice (some ⟨w.heap.size, 0, none⟩) 1 1) [xs] := by
  rw [alloc_size]
  exact Grid.built w [xs] [.slice A n c] 1 rfl rfl (fun j hj => by
    match j, hj with
    | 0, _ => exact h
    | n + 1, h => exact absurd (show n + 1 < 1 from h) (by omega))
theorem grid2 (w : World) (A A' : Option Addr) (n c n' c' : Nat) (xs ys : List Int) (h : Nums w w.heap.size (.slice A n c) xs) (h' : Nums w w.heap.size (.slice A' n' c') ys) : Grid (w.alloc (.cells #[.slice A n c, .slice A' n' c'] 23)) (w.alloc (.cells #[.slice A n c, .slice A' n' c'] 23)).heap.size (.slice (some ⟨w.heap.size, 0, none⟩) 2 2) [xs, ys] := by
  rw [alloc_size]
  exact Grid.built w [xs, ys] [.slice A n c, .slice A' n' c'] 2 rfl rfl (fun j hj => by
    match j, hj with
    | 0, _ => exact h
    | 1, _ => exact h'
    | n + 2, h => exact absurd (show n + 2 < 2 from h) (by omega))
end Go.Proofs.YtpfoaaiedfidbaaGreatDoor
