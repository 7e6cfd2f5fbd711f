/- Appending whatever reads as numbers to a row of the call's own; slices of rows of the call's own. -/
import Derived.Test.YtpfoaaiedfidbaaGreatDoorAc
import Derived.Maps.AppendAt
import Derived.RegionTactic
import Derived.OwnWalk
import Derived.Deep.Onto
namespace Go.Proofs.YtpfoaaiedfidbaaGreatDoor
open Go Go.RowKit

theorem info3 : (Tryz.prog.info? 3).map (fun i => (i.zero, i.size, i.bytes)) = some (some (.int .i64 0), 1, 8) := by kernel_rfl
theorem info23 : (Tryz.prog.info? 23).map (fun i => (i.zero, i.size, i.bytes)) = some (some (.slice none 0 0), 1, 24) := by kernel_rfl
/-- The cells of numbers. -/
def encs (xs : List Int) : List Value := xs.map (Value.int .i64)
theorem encs_len (xs : List Int) : (encs xs).length = xs.length := by simp [encs]
theorem encs_append (xs ys : List Int) : encs (xs ++ ys) = encs xs ++ encs ys := by simp [encs]
theorem encs_one (xs : List Int) : ∀ u ∈ encs xs, u.oneCell' = true := by
  intro u hu
  obtain ⟨x, _, rfl⟩ := List.mem_map.1 hu
  rfl
theorem encs_at {xs : List Int} {j : Nat} {u : Value} (h : (encs xs)[j]? = some u) : j < xs.length ∧ u = .int .i64 (xs.getD j 0) := by
  unfold encs at h
  rw [List.getElem?_map] at h
  cases hx : xs[j]? with
  | none => rw [hx] at h; cases h
  | some x =>
    rw [hx] at h
    simp at h
    have hl := (List.getElem?_eq_some_iff.1 hx).1
    exact ⟨hl, by rw [← h]; simp [List.getD, hx]⟩
/-- A row of numbers of the call's own. -/
def Own (w : World) (base : Nat) (v : Value) (xs : List Int) : Prop := w.ownsRow base 3 1 v xs.length (encs xs)
theorem Own.nums {w : World} {base : Nat} {v : Value} {xs : List Int} (h : Own w base v xs) : Nums w w.heap.size v xs := Nums.of_own h
theorem Own.nil (w : World) (base : Nat) : Own w base (.slice none 0 0) [] := World.ownsRow_nil _ _ _ _
theorem Own.lt {w : World} {base : Nat} {v : Value} {xs : List Int} (h : Own w base v xs) : ∀ k, v.ownBlock = some k → base ≤ k ∧ k < w.heap.size := World.ownsRow.lt h
theorem Own.kept {w w' : World} {base : Nat} {v : Value} {xs : List Int} {row : Option Nat} (h : Own w base v xs) (hg : w.grownBy w' row) (hne : v.ownBlock = none ∨ v.ownBlock ≠ row) : Own w' base v xs := World.ownsRow.kept h hg hne
theorem Own.mono {w : World} {base base' : Nat} {v : Value} {xs : List Int} (h : Own w base v xs) (hb : base' ≤ base) : Own w base' v xs := World.ownsRow.mono h hb
theorem Own.below {w w' : World} {base B : Nat} {v : Value} {xs : List Int} (h : Own w base v xs) (hb : Below B w w') (hB : w.heap.size ≤ B) : Own w' base v xs := by
  have hlt := h.lt
  obtain ⟨h1, h2⟩ := h
  refine ⟨h1, ?_⟩
  rcases h2 with h2 | ⟨g, cap, cur, rfl, hg, hh, r⟩
  · exact .inl h2
  · have := (hlt g rfl).2
    exact .inr ⟨g, cap, cur, rfl, hg, (hb.block g (by omega)).trans hh, r⟩
/-- Rows of different elements lie in different blocks. -/
theorem rows_ne {w : World} {base base' : Nat} {e e' : TypeId} {n n' : Nat} {v v' : Value} {xs xs' : List Value} (h : w.ownsRow base e 1 v n xs) (h' : w.ownsRow base' e' 1 v' n' xs') (hne : e ≠ e') : v.ownBlock = none ∨ v.ownBlock ≠ v'.ownBlock := by
  rcases h.2 with ⟨rfl, _⟩ | ⟨g, cap, cur, rfl, _, hh, _⟩
  · exact .inl rfl
  · right
    rcases h'.2 with ⟨rfl, _⟩ | ⟨g', cap', cur', rfl, _, hh', _⟩
    · simp [Value.ownBlock]
    · intro e1
      have : g = g' := by simpa [Value.ownBlock] using e1
      subst this
      rw [hh] at hh'
      simp only [Option.some.injEq, Obj.cells.injEq] at hh'
      exact hne hh'.2.1

section
variable {P : Program} (w : World)
/-- append's run, onto a row of the call's own, of whatever reads as numbers, nil too. -/
theorem run_append_nums (t ty e : TypeId) (i : TypeInfo) (ht : P.underlying t = some (.slice e)) (hi : P.info? e = some i) (hz : i.zero = some (.int .i64 0)) (hsize : i.size = 1) (hby : i.bytes = 8)
    (base : Nat) (v : Value) (xs : List Int) (hown : w.ownsRow base e 1 v xs.length (encs xs)) (B : Nat) (u : Value) (ys : List Int) (hu : Nums w B u ys) (hl : xs.length + ys.length ≤ 1000000) (hbase : base ≤ w.heap.size) :
    ∃ v' w', (Builtin.append_ #[t, t] ty #[v, u]).run P w = .ok v' w' ∧ w'.ownsRow base e 1 v' (xs ++ ys).length (encs (xs ++ ys)) ∧ w.grownBy w' v.ownBlock ∧ (v'.ownBlock = v.ownBlock ∨ v'.ownBlock = some w.heap.size) := by
  obtain ⟨A, c, rfl, _, hat⟩ := hu
  cases A with
  | none =>
    have h0 : ys = [] := by
      cases ys with
      | nil => rfl
      | cons y r => obtain ⟨b, off, h, _⟩ := hat (by simp); cases h
    subst h0
    refine ⟨v, w, ?_, by simpa using hown, World.grownBy.refl w _, .inl rfl⟩
    rcases hown.2 with ⟨rfl, _⟩ | ⟨g, cap, cur, rfl, _, _, hnc, _⟩
    · simp [Builtin.append_, run_underlying ht, sizeOf, typeInfo, hi, Builtin.lenOf, Builtin.firstCells]
    · simp [Builtin.append_, run_underlying ht, sizeOf, typeInfo, hi, Builtin.lenOf, Builtin.firstCells, hnc, storeCells]
  | some ad =>
    have hcells : ∀ j x, (encs ys)[j]? = some x → w.cell? (ad.add j) = some x := by
      intro j x hx
      obtain ⟨hj, rfl⟩ := encs_at hx
      obtain ⟨b, off, h, _, hc⟩ := hat (by omega)
      cases h
      have := hc j hj
      have e1 : (⟨b, off, none⟩ : Addr).add j = ⟨b, off + j, none⟩ := by unfold Addr.add; by_cases h : j = 0 <;> simp [h]
      rwa [e1]
    obtain ⟨v', w', hrun, h2, h3, _, h5⟩ := run_append_own_at (P := P) w base t ty e i (.int .i64 0) 1 8 ht hi hz hsize hby rfl (by decide) v xs.length (encs xs) hown ad ys.length c (encs ys) (by simp [encs]) hcells (encs_one ys)
      (by unfold maxLen; omega) (by omega) hbase
    exact ⟨v', w', hrun, by rw [encs_append, List.length_append]; exact h2, h3, h5⟩
/-- The same at the operation. -/
theorem wpList_append_nums {ops : Array Oper} {rest : List Oper} {o : Oper} {a : Act} {Q : Exit → Act → World → Prop} (hgd : o.guard = none) (s x : Operand) (t : TypeId)
    (ho : o.op = .call { callee := .builtin .append, args := #[s, x], argTypes := #[t, t] }) (e : TypeId) (i : TypeInfo) (ht : P.underlying t = some (.slice e)) (hi : P.info? e = some i) (hz : i.zero = some (.int .i64 0)) (hsize : i.size = 1) (hby : i.bytes = 8)
    (base : Nat) (v : Value) (xs : List Int) (hs : a.eval s = v) (hown : w.ownsRow base e 1 v xs.length (encs xs)) (B : Nat) (u : Value) (ys : List Int) (hx : a.eval x = u) (hu : Nums w B u ys) (hl : xs.length + ys.length ≤ 1000000) (hbase : base ≤ w.heap.size)
    (h : ∀ v' w', w'.ownsRow base e 1 v' (xs ++ ys).length (encs (xs ++ ys)) → w.grownBy w' v.ownBlock → (v'.ownBlock = v.ownBlock ∨ v'.ownBlock = some w.heap.size) → wpList P ops Q rest (a.put o.dst v') w') : wpList P ops Q (o :: rest) a w :=
  wpList_plain hgd fun _ hK => by
    obtain ⟨v', w', hrun, h2, h3, h4⟩ := run_append_nums (P := P) w t o.type e i ht hi hz hsize hby base v xs hown B u ys hu hl hbase
    unfold Oper.wp execOp
    simp only [ho, resolve, invoke, builtin, Sem.run_bind, Sem.run_pure, Result.andThen_ok, List.map_toArray, List.map_cons, List.map_nil, hs, hx, hrun]
    exact hK _ _ (h v' w' h2 h3 h4)
end

section
variable {P : Program} (w : World)
/-- append of one cell that lies alone in a block, onto a row of the call's own. -/
theorem wpList_push {ops : Array Oper} {rest : List Oper} {o : Oper} {a : Act} {Q : Exit → Act → World → Prop} (hgd : o.guard = none) (s x : Operand) (t : TypeId)
    (ho : o.op = .call { callee := .builtin .append, args := #[s, x], argTypes := #[t, t] }) (e : TypeId) (i : TypeInfo) (z : Value) (bytes : Nat) (ht : P.underlying t = some (.slice e)) (hi : P.info? e = some i) (hz : i.zero = some z) (hsize : i.size = 1) (hby : i.bytes = bytes) (hzs : z.cells.size = 1) (hbb : bytes ≤ 24)
    (base : Nat) (v : Value) (n : Nat) (us : List Value) (hs : a.eval s = v) (hown : w.ownsRow base e 1 v n us) (b c : Nat) (u : Value) (hx : a.eval x = .slice (some ⟨b, 0, none⟩) 1 c) (hu : w.cell? ⟨b, 0, none⟩ = some u) (h1 : u.oneCell' = true) (hl : n ≤ 1000000) (hbase : base ≤ w.heap.size)
    (h : ∀ v' w', w'.ownsRow base e 1 v' (n + 1) (us ++ [u]) → w.grownBy w' v.ownBlock → (v'.ownBlock = v.ownBlock ∨ v'.ownBlock = some w.heap.size) → wpList P ops Q rest (a.put o.dst v') w') : wpList P ops Q (o :: rest) a w :=
  wpList_append_own_at w hgd s x t ho base e i z 1 bytes ht hi hz hsize hby hzs (by decide) v n us hs hown ⟨b, 0, none⟩ 1 c [u] hx rfl (fun j y hy => by
    have : j = 0 := by have := (List.getElem?_eq_some_iff.1 hy).1; simpa using this
    subst this
    simp at hy
    subst hy
    exact hu) (fun y hy => by simp at hy; subst hy; exact h1) (by unfold maxLen; omega) (by
      have : (n + 1) * bytes ≤ (n + 1) * 24 := Nat.mul_le_mul_left _ hbb
      omega) hbase (fun v' w' g1 g2 _ g4 => h v' w' g1 g2 g4)
end
theorem Own.one {w : World} {base : Nat} {v : Value} {xs : List Int} (h : Own w base v xs) : v.oneCell' = true := by
  rcases h.2 with ⟨rfl, _⟩ | ⟨g, cap, cur, rfl, _⟩ <;> rfl
theorem Own.form {w : World} {base : Nat} {v : Value} {xs : List Int} (h : Own w base v xs) : ∃ A c, v = .slice A xs.length c := by
  rcases h.2 with ⟨rfl, h0⟩ | ⟨g, cap, cur, rfl, _⟩
  · exact ⟨none, 0, by rw [h0]⟩
  · exact ⟨_, _, rfl⟩
theorem Mesh.form {w : World} {base : Nat} {v : Value} {us : List Value} (h : w.ownsRow base 23 1 v us.length us) : ∃ A c, v = .slice A us.length c := by
  rcases h.2 with ⟨rfl, h0⟩ | ⟨g, cap, cur, rfl, _⟩
  · exact ⟨none, 0, by rw [h0]⟩
  · exact ⟨_, _, rfl⟩
theorem Own.push {w : World} {base : Nat} {v : Value} {xs : List Int} {x : Int} (h : w.ownsRow base 3 1 v (xs.length + 1) (encs xs ++ [.int .i64 x])) : Own w base v (xs ++ [x]) := by
  unfold Own
  rw [encs_append, List.length_append]
  exact h
theorem cell_new (w : World) (x : Value) (t : TypeId) : (w.alloc (.cells #[x] t)).cell? ⟨w.heap.size, 0, none⟩ = some x := cell_one_new w x t 0 x rfl

/-- A slice of rows, all of the call's own. -/
def Mesh (w : World) (base : Nat) (v : Value) (l : List (List Int)) : Prop :=
  ∃ us : List Value, us.length = l.length ∧ w.ownsRow base 23 1 v us.length us ∧ ∀ j, j < l.length → Own w base (us.getD j (.slice none 0 0)) (l.getD j [])
theorem Mesh.grid {w : World} {base : Nat} {v : Value} {l : List (List Int)} (h : Mesh w base v l) : Grid w w.heap.size v l := by
  obtain ⟨us, hl, ho, hr⟩ := h
  exact Grid.of_own ho hl fun j hj => (hr j hj).nums
theorem Mesh.lt {w : World} {base : Nat} {v : Value} {l : List (List Int)} (h : Mesh w base v l) : ∀ k, v.ownBlock = some k → base ≤ k ∧ k < w.heap.size := by
  obtain ⟨us, _, ho, _⟩ := h
  exact World.ownsRow.lt ho
/-- Over whatever is done to new blocks alone. -/
theorem Mesh.grown {w w' : World} {base : Nat} {v : Value} {l : List (List Int)} {row : Option Nat} (h : Mesh w base v l) (hg : w.grownBy w' row) (hr : ∀ k, row = some k → k < base ∨ w.heap.size ≤ k) : Mesh w' base v l := by
  obtain ⟨us, hl, ho, hr2⟩ := h
  have key : ∀ u : Value, (∀ k, u.ownBlock = some k → base ≤ k ∧ k < w.heap.size) → u.ownBlock = none ∨ u.ownBlock ≠ row := by
    intro u hu
    cases hb : u.ownBlock with
    | none => exact .inl rfl
    | some g =>
      refine .inr fun e => ?_
      have := hu g hb
      rcases hr g e.symm with h | h <;> omega
  exact ⟨us, hl, ho.kept hg (key v ho.lt), fun j hj => (hr2 j hj).kept hg (key _ (hr2 j hj).lt)⟩
theorem Mesh.below {w w' : World} {base B : Nat} {v : Value} {l : List (List Int)} (h : Mesh w base v l) (hb : Below B w w') (hB : w.heap.size ≤ B) : Mesh w' base v l :=
  h.grown (row := none) ⟨hb.os, hb.tape, hb.output, hb.size, fun k hk _ => hb.block k (by omega)⟩ (fun k hk => by cases hk)
theorem Mesh.nil (w : World) (base : Nat) : Mesh w base (.slice none 0 0) [] := ⟨[], rfl, World.ownsRow_nil _ _ _ _, fun j hj => by simp at hj⟩
theorem Mesh.made {w : World} {base : Nat} (hb : base ≤ w.heap.size) : Mesh (w.alloc (.cells #[] 23)) base (.slice (some ⟨w.heap.size, 0, none⟩) 0 0) [] :=
  ⟨[], rfl, World.ownsRow_made w #[] 0 hb (Nat.zero_le _) rfl, fun j hj => by simp at hj⟩
/-- Behind an append of one row of the call's own. -/
theorem Mesh.push {w w' : World} {base : Nat} {v v' u : Value} {l : List (List Int)} {us : List Value} {xs : List Int} (hl : us.length = l.length) (ho : w.ownsRow base 23 1 v us.length us) (hr : ∀ j, j < l.length → Own w base (us.getD j (.slice none 0 0)) (l.getD j [])) (hu : Own w base u xs)
    (hg : w.grownBy w' v.ownBlock) (ho' : w'.ownsRow base 23 1 v' (us.length + 1) (us ++ [u])) : Mesh w' base v' (l ++ [xs]) := by
  refine ⟨us ++ [u], by simp [hl], by simpa using ho', fun j hj => ?_⟩
  have kept : ∀ (x : Value) (ys : List Int), Own w base x ys → Own w' base x ys := fun x ys hx => hx.kept hg (rows_ne hx ho (by decide))
  by_cases h1 : j < l.length
  · have := kept _ _ (hr j h1)
    rwa [show (us ++ [u]).getD j (.slice none 0 0) = us.getD j (.slice none 0 0) by simp [List.getD, List.getElem?_append_left (by omega : j < us.length)], show (l ++ [xs]).getD j [] = l.getD j [] by simp [List.getD, List.getElem?_append_left h1]]
  · have : j = l.length := by simp at hj; omega
    subst this
    have := kept _ _ hu
    rwa [show (us ++ [u]).getD l.length (.slice none 0 0) = u by simp [List.getD, ← hl], show (l ++ [xs]).getD l.length [] = xs by simp [List.getD]]
end Go.Proofs.YtpfoaaiedfidbaaGreatDoor
