/- The library's Clone, Sort, Compact, BinarySearch, Equal at numbers, over rows of the call's own; what is sorted and compacted rises. -/
import Derived.Test.YtpfoaaiedfidbaaGreatDoorCa
import Derived.Test.YtpfoaaiedfidbaaGreatDoorBb
import Derived.Test.YtpfoaaiedfidbaaGreatDoorShelf
import Derived.Test.YtpfoaaiedfidbaaGreatDoorAb
namespace Go.Proofs.YtpfoaaiedfidbaaGreatDoor
open Go Go.RowKit Go.Sort

/-! Plain: compacting what is sorted. -/
def srt (xs : List Int) : List Int := xs.mergeSort fun x y => decide (x ≤ y)
def upL (xs : List Int) : List Int := Lib.compact (srt xs)
theorem mem_srt {xs : List Int} {n : Int} : n ∈ srt xs ↔ n ∈ xs := List.mem_mergeSort
theorem srt_len (xs : List Int) : (srt xs).length = xs.length := List.length_mergeSort _
theorem srt_pair (xs : List Int) : (srt xs).Pairwise (· ≤ ·) := by
  have := List.pairwise_mergeSort (le := fun x y : Int => decide (x ≤ y)) (fun a b c h1 h2 => by simp at *; omega) (fun a b => by simp; omega) xs
  exact this.imp (fun h => by simpa using h)
theorem compact_props (d : Array Int) (hs : ∀ i j, i ≤ j → j < d.size → d[i]! ≤ d[j]!) : ∀ m, m ≤ d.size → Rising (Lib.compactUpTo d m) ∧ (∀ x ∈ Lib.compactUpTo d m, ∃ j, j < m ∧ x = d[j]!) ∧ ∀ j, j < m → d[j]! ∈ Lib.compactUpTo d m
  | 0, _ => ⟨by simp [Lib.compactUpTo, Rising], by simp [Lib.compactUpTo], fun j hj => by omega⟩
  | m + 1, hm => by
    obtain ⟨h1, h2, h3⟩ := compact_props d hs m (by omega)
    rw [Lib.compactUpTo_succ]
    by_cases hk : Lib.keeps d m = true
    · rw [if_pos hk]
      refine ⟨?_, ?_, ?_⟩
      · unfold Rising at h1 ⊢
        rw [List.pairwise_append]
        refine ⟨h1, by simp, fun x hx y hy => ?_⟩
        simp at hy
        subst hy
        obtain ⟨j, hj, rfl⟩ := h2 x hx
        have hne : d[m]! ≠ d[m - 1]! := by
          unfold Lib.keeps at hk
          rw [decide_eq_true_iff] at hk
          rcases hk with h | h
          · omega
          · exact h
        have a := hs j (m - 1) (by omega) (by omega)
        have b := hs (m - 1) m (by omega) (by omega)
        omega
      · intro x hx
        rw [List.mem_append, List.mem_singleton] at hx
        rcases hx with hx | rfl
        · obtain ⟨j, hj, e⟩ := h2 x hx
          exact ⟨j, by omega, e⟩
        · exact ⟨m, by omega, rfl⟩
      · intro j hj
        rw [List.mem_append]
        by_cases e : j = m
        · subst e; exact .inr (by simp)
        · exact .inl (h3 j (by omega))
    · rw [if_neg hk]
      simp only [List.append_nil]
      refine ⟨h1, fun x hx => ?_, fun j hj => ?_⟩
      · obtain ⟨j, hj, e⟩ := h2 x hx
        exact ⟨j, by omega, e⟩
      · by_cases e : j = m
        · subst e
          have he : ¬ (j = 0 ∨ d[j]! ≠ d[j - 1]!) := by
            intro h
            apply hk
            unfold Lib.keeps
            rw [decide_eq_true_iff]
            exact h
          have h0 : j ≠ 0 := fun e => he (.inl e)
          have h5 : d[j]! = d[j - 1]! := Classical.byContradiction fun e => he (.inr e)
          rw [h5]
          exact h3 (j - 1) (by omega)
        · exact h3 j (by omega)
theorem upL_props (xs : List Int) : Rising (upL xs) ∧ ∀ n, n ∈ upL xs ↔ n ∈ xs := by
  have hp := srt_pair xs
  have hs : ∀ i j, i ≤ j → j < (srt xs).toArray.size → (srt xs).toArray[i]! ≤ (srt xs).toArray[j]! := by
    intro i j hij hj
    have hj' : j < (srt xs).length := by simpa using hj
    have hi' : i < (srt xs).length := by omega
    rw [getElem!_pos _ i (by simpa using hi'), getElem!_pos _ j hj]
    by_cases e : i = j
    · subst e; exact Int.le_refl _
    · simpa using List.pairwise_iff_getElem.1 hp i j hi' hj' (by omega)
  obtain ⟨h1, h2, h3⟩ := compact_props (srt xs).toArray hs (srt xs).length (by simp)
  refine ⟨h1, fun n => ⟨fun h => ?_, fun h => ?_⟩⟩
  · obtain ⟨j, hj, rfl⟩ := h2 n h
    rw [← mem_srt]
    rw [getElem!_pos _ j (by simpa using hj)]
    simp
  · rw [← mem_srt] at h
    obtain ⟨j, hj, rfl⟩ := List.getElem_of_mem h
    have := h3 j hj
    rw [getElem!_pos _ j (by simpa using hj)] at this
    simpa [upL, Lib.compact] using this
theorem upL_rising (xs : List Int) : Rising (upL xs) := (upL_props xs).1
theorem mem_upL {xs : List Int} {n : Int} : n ∈ upL xs ↔ n ∈ xs := (upL_props xs).2 n
theorem compactUpTo_len (d : Array Int) : ∀ m, (Lib.compactUpTo d m).length ≤ m
  | 0 => by simp [Lib.compactUpTo]
  | m + 1 => by
    rw [Lib.compactUpTo_succ]
    have := compactUpTo_len d m
    split <;> simp <;> omega
theorem upL_len (xs : List Int) : (upL xs).length ≤ xs.length := by
  unfold upL Lib.compact
  rw [← srt_len xs]
  exact compactUpTo_len _ _

/-! A row that is laid anew. -/
theorem take_putCells (cur : Array Value) (d : Array Int) (xs : List Int) (h : d.size ≤ cur.size) (hx : d.toList.take xs.length = xs) (hl : xs.length ≤ d.size) : (putCells (Value.int .i64) 0 d cur).toList.take xs.length = encs xs := by
  apply List.ext_getElem?
  intro j
  by_cases hj : j < xs.length
  · rw [List.getElem?_take_of_lt hj]
    have h1 : j < cur.size := by omega
    have h2 : j < d.size := by omega
    have h3 : d[j]! = xs[j] := by
      rw [getElem!_pos d j h2]
      have := congrArg (fun l => l[j]?) hx
      simp [hj, h2] at this
      exact this
    rw [getElem!_pos d j h2] at h3
    simp [putCells, h1, h2, encs, hj, h3]
  · rw [List.getElem?_eq_none (by simp; omega), List.getElem?_eq_none (by simp [encs]; omega)]
theorem own_put {w : World} {base g cap q : Nat} {os : Array Obj} {cur : Array Value} {d : Array Int} {xs : List Int} (hbase : base ≤ g) (hb : w.heap[g]? = some (.cells cur 3 (0, 0))) (h2 : cap ≤ maxLen) (h3 : cur.size = cap) (hd : d.size ≤ cap) (hx : d.toList.take xs.length = xs) (hl : xs.length ≤ d.size) :
    Own (grow (putRow (Value.int .i64) (Sort.ahead w q) g 0 d) os) base (.slice (some ⟨g, 0, none⟩) xs.length cap) xs ∧ w.grownBy (grow (putRow (Value.int .i64) (Sort.ahead w q) g 0 d) os) (some g) := by
  have hg : g < w.heap.size := (Array.getElem?_eq_some_iff.1 hb).1
  have hh : (grow (putRow (Value.int .i64) (Sort.ahead w q) g 0 d) os).heap[g]? = some (.cells (putCells (Value.int .i64) 0 d cur) 3 (0, 0)) := by
    rw [heap_grow_old _ _ (by simpa using hg)]
    simp [putRow, mapBlock, Sort.ahead, Array.getElem?_modify, hb, onCells]
  refine ⟨⟨by simp [encs], .inr ⟨g, cap, _, rfl, hbase, hh, by omega, h2, by simp [putCells, h3], ?_⟩⟩, rfl, rfl, rfl, by simp, fun k hk hne => ?_⟩
  · rw [Nat.mul_one]
    exact take_putCells cur d xs (by omega) hx hl
  · rw [heap_grow_old _ _ (by simpa using hk)]
    have : g ≠ k := fun e => hne (by rw [e])
    simp [putRow, mapBlock, Sort.ahead, Array.getElem?_modify, this]
theorem Own.holds {w : World} {base g cap : Nat} {xs : List Int} (h : Own w base (.slice (some ⟨g, 0, none⟩) xs.length cap) xs) : Holds (Value.int .i64) w g 0 xs.toArray := by
  intro j hj
  have hj' : j < xs.length := by simpa using hj
  refine ⟨?_, by rw [Nat.zero_add]; exact World.ownsRow.frozenAt h j⟩
  rw [Nat.zero_add, World.ownsRow.cellAt h j (by omega), getElem!_pos _ j hj]
  simp [encs, hj']

/-! The library's functions. -/
theorem clone_own (v : Value) (xs : List Int) (w : World) (B : Nat) (h : Nums w B v xs) (hl : xs.length ≤ 100000) :
    Calls Tryz.prog 44 #[v] w fun e w' => ∃ v', e = .returned v' ∧ Own w' w.heap.size v' xs ∧ Below w.heap.size w w' := by
  obtain ⟨A, c, rfl, hc, hat⟩ := h
  by_cases h0 : xs.length = 0
  · have : xs = [] := List.eq_nil_of_length_eq_zero h0
    subst this
    cases A with
    | none => exact (Tryz.slices_Clone_int_nil 0 c w).mono fun e w' ⟨he, hw⟩ => ⟨_, he, by rw [hw]; exact Own.nil _ _, by rw [hw]; exact Below.refl _ _⟩
    | some a => exact (Tryz.slices_Clone_int_zero a c w).mono fun e w' ⟨v', he, ho, _, hb⟩ => ⟨v', he, ho, hb⟩
  · obtain ⟨b, off, rfl, _, hx⟩ := hat (by omega)
    exact (Tryz.slices_Clone_int b off xs.length c xs w (Nat.le_refl _) (by omega) hx).mono fun e w' ⟨v', he, ho, _, hb⟩ => ⟨v', he, by rwa [List.take_length] at ho, hb⟩
theorem sort_own (v : Value) (xs : List Int) (w : World) (base : Nat) (h : Own w base v xs) (hl : xs.length ≤ 1000000) :
    Calls Tryz.prog 29 #[v] w fun e w' => e = .returned (.tuple #[]) ∧ Own w' base v (srt xs) ∧ w.grownBy w' v.ownBlock := by
  by_cases h0 : xs.length = 0
  · have : xs = [] := List.eq_nil_of_length_eq_zero h0
    subst this
    obtain ⟨A, c, rfl⟩ := h.form
    exact (Tryz.slices_Sort_int_none A c w).mono fun e w' ⟨he, hw⟩ => ⟨he, by rw [hw]; simpa [srt] using h, by rw [hw]; exact World.grownBy.refl _ _⟩
  · rcases h.2 with ⟨_, h1⟩ | ⟨g, cap, cur, rfl, hg, hb, h1, h2, h3, h4⟩
    · exact absurd h1 h0
    · refine (Tryz.slices_Sort_int g 0 cap xs w h.holds (Array.getElem?_eq_some_iff.1 hb).1 (by omega)).mono fun e w' ⟨he, n, os, hw⟩ => ⟨he, ?_⟩
      have := own_put (q := n) (os := os) (d := (srt xs).toArray) (xs := srt xs) hg hb h2 (by omega) (by simp [srt_len]; omega) (by simp) (by simp)
      rw [srt_len] at this
      rw [hw]
      exact this
theorem compact_own (v : Value) (xs : List Int) (w : World) (base : Nat) (h : Own w base v xs) (hl : xs.length ≤ 1000000) :
    Calls Tryz.prog 45 #[v] w fun e w' => ∃ v', e = .returned v' ∧ Own w' base v' (Lib.compact xs) ∧ w.grownBy w' v.ownBlock ∧ v'.ownBlock = v.ownBlock := by
  by_cases h0 : xs.length = 0
  · have : xs = [] := List.eq_nil_of_length_eq_zero h0
    subst this
    obtain ⟨A, c, rfl⟩ := h.form
    exact (Tryz.slices_Compact_int_empty A c w).mono fun e w' ⟨he, hw⟩ => ⟨_, he, by rw [hw]; exact h, by rw [hw]; exact World.grownBy.refl _ _, rfl⟩
  · rcases h.2 with ⟨_, h1⟩ | ⟨g, cap, cur, rfl, hg, hb, h1, h2, h3, h4⟩
    · exact absurd h1 h0
    · refine (Tryz.slices_Compact_int g 0 cap xs w h.holds (by omega) h1).mono fun e w' ⟨he, n, hw⟩ => ⟨_, he, ?_⟩
      have hcl : (Lib.compact xs).length ≤ xs.length := compactUpTo_len _ _
      have := own_put (q := n) (os := #[]) (d := (Lib.compact xs ++ List.replicate (xs.length - (Lib.compact xs).length) 0).toArray) (xs := Lib.compact xs) hg hb h2 (by omega) (by simp; omega) (by simp) (by simp)
      rw [grow_empty] at this
      rw [hw]
      exact ⟨this.1, this.2, rfl⟩
theorem search_any (v : Value) (xs : List Int) (x : Int) (w : World) (B : Nat) (h : Nums w B v xs) (hs : xs.Pairwise (· ≤ ·)) (hl : xs.length ≤ 1000000) :
    Calls Tryz.prog 52 #[v, .int .i64 x] w fun e w' => ∃ k : Int, e = .returned (.tuple #[.int .i64 k, .bool (hasB xs x)]) ∧ ∃ q, w' = w.drewN q := by
  obtain ⟨A, c, rfl, hc, hat⟩ := h
  by_cases h0 : xs.length = 0
  · have : xs = [] := List.eq_nil_of_length_eq_zero h0
    subst this
    exact (Tryz.slices_BinarySearch_int_empty A c x w).mono fun e w' ⟨he, hw⟩ => ⟨0, he, 0, hw⟩
  · obtain ⟨b, off, rfl, _, hx⟩ := hat (by omega)
    refine (Tryz.slices_BinarySearch_int b off xs.length c xs x w (Nat.le_refl _) (by omega) hx (by rwa [List.take_length])).mono fun e w' ⟨he, hw⟩ => ⟨((xs.take xs.length).countP (· < x) : Nat), ?_, hw⟩
    rw [he, List.take_length]
    rfl
theorem equal_any (v u : Value) (xs ys : List Int) (w : World) (B C : Nat) (h : Nums w B v xs) (h' : Nums w C u ys) (hl : xs.length ≤ 1000000) (hl' : ys.length ≤ 1000000) :
    Calls Tryz.prog 50 #[v, u] w fun e w' => e = .returned (.bool (sameB xs ys)) ∧ ∃ q, w' = w.drewN q := by
  obtain ⟨A, c, rfl, hc, hat⟩ := h
  obtain ⟨A', c', rfl, hc', hat'⟩ := h'
  by_cases hn : xs.length = ys.length
  · by_cases h0 : xs.length = 0
    · have e1 : xs = [] := List.eq_nil_of_length_eq_zero h0
      have e2 : ys = [] := List.eq_nil_of_length_eq_zero (by omega)
      subst e1
      subst e2
      exact (Tryz.slices_Equal_int_empty A A' c 0 c' w (by omega)).mono fun e w' ⟨he, hw⟩ => ⟨he, 0, hw⟩
    · obtain ⟨b, off, rfl, _, hx⟩ := hat (by omega)
      obtain ⟨b', off', rfl, _, hx'⟩ := hat' (by omega)
      refine (Tryz.slices_Equal_int b off xs.length c b' off' ys.length c' xs ys w (Nat.le_refl _) (Nat.le_refl _) (by omega) (by omega) hx hx').mono fun e w' ⟨he, hw⟩ => ⟨?_, hw⟩
      rw [he, List.take_length, List.take_length]
      exact ret_bool (by unfold sameB; rw [Bool.eq_iff_iff]; simp)
  · refine (Tryz.slices_Equal_int_lens A A' xs.length c ys.length c' w hn).mono fun e w' ⟨he, hw⟩ => ⟨?_, 0, hw⟩
    rw [he, sameB_len hn]
end Go.Proofs.YtpfoaaiedfidbaaGreatDoor
