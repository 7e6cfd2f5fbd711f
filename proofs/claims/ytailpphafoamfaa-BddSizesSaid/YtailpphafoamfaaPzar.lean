/- What is built: numbers and tables. -/
import Derived.Test.YtailpphafoamfaaPzaq
set_option linter.all false
namespace Go.Proofs.Ytailpphafoamfaa
open Go Go.RowKit Go.Maps


/-- An act as it comes in. -/
structure ActI where
  K : Int
  A : Int
  B : Int
  C : Int
  vs : List Int
/-- A slice value that reads as acts. -/
def Acts (w : World) (v : Value) (ac : List ActI) : Prop := ∃ A c, v = .slice A ac.length c ∧ (ac ≠ [] → ∃ b off, A = some ⟨b, off, none⟩ ∧ b < w.heap.size ∧ ∀ j a, ac[j]? = some a →
  w.cell? ⟨b, off + j * 5, none⟩ = some (.int .i64 a.K) ∧ w.cell? ⟨b, off + j * 5 + 1, none⟩ = some (.int .i64 a.A) ∧ w.cell? ⟨b, off + j * 5 + 2, none⟩ = some (.int .i64 a.B) ∧ w.cell? ⟨b, off + j * 5 + 3, none⟩ = some (.int .i64 a.C) ∧
    ∃ vv, w.cell? ⟨b, off + j * 5 + 4, none⟩ = some vv ∧ Nums w vv a.vs)
theorem Acts.grown {w w' : World} {v : Value} {ac : List ActI} (h : Acts w v ac) (hg : w.grownBy w' none) : Acts w' v ac := by
  obtain ⟨A, c, h1, h2⟩ := h
  refine ⟨A, c, h1, fun hne => ?_⟩
  obtain ⟨b, off, h3, h4, h5⟩ := h2 hne
  have mv : ∀ q x, w.cell? ⟨b, q, none⟩ = some x → w'.cell? ⟨b, q, none⟩ = some x := fun q x hx => (World.cell?_of_block (a := ⟨b, q, none⟩) (grown_far hg h4)).trans hx
  refine ⟨b, off, h3, Nat.lt_of_lt_of_le h4 hg.size, fun j a ha => ?_⟩
  obtain ⟨c0, c1, c2, c3, vv, c4, c5⟩ := h5 j a ha
  exact ⟨mv _ _ c0, mv _ _ c1, mv _ _ c2, mv _ _ c3, vv, mv _ _ c4, c5.grown hg⟩
/-- What has been built: numbers and tables, whose each block is, and that they are apart. -/
structure Bt (base : Nat) (w : World) (o : Nat → Nat) (lv tv : Value) (ls : List Nat) (ts : List (List Bool)) (us : List Value) : Prop where
  lrow : IRow base w lv (ls.map fun (x : Nat) => (x : Int))
  trow : w.ownsRow base 32 1 tv us.length us
  ul : us.length = ts.length
  tab : ∀ (j : Nat) (u : Value), us[j]? = some u → BoolsO w o u (ts.getD j [])
  lo : ∀ b, lv.ownBlock = some b → o b = 0
  to : ∀ b, tv.ownBlock = some b → o b = 0
  dis : ∀ b, lv.ownBlock = some b → tv.ownBlock ≠ some b
  dl : ∀ (j : Nat) (u : Value) (b : Nat), us[j]? = some u → u.ownBlock = some b → b < w.heap.size ∧ lv.ownBlock ≠ some b ∧ tv.ownBlock ≠ some b
section
variable {base : Nat} {w w' : World} {o o' : Nat → Nat} {lv tv : Value} {ls : List Nat} {ts : List (List Bool)} {us : List Value}
theorem BoolsO.row {v : Value} {l : List Bool} {row : Option Nat} (h : BoolsO w o v l) (hg : w.grownBy w' row) (hne : ∀ b, v.ownBlock = some b → row ≠ some b) : BoolsO w' o v l := by
  obtain ⟨A, c, h1, h2⟩ := h
  refine ⟨A, c, h1, fun hn => ?_⟩
  obtain ⟨b, off, rfl, h4, h5, h6, h7⟩ := h2 hn
  have hb : w'.heap[b]? = w.heap[b]? := hg.block b h4 (fun e => hne b (by rw [h1]; rfl) e.symm)
  exact ⟨b, off, rfl, Nat.lt_of_lt_of_le h4 hg.size, h5, fun j x hx => (World.cell?_of_block (a := ⟨b, off + j, none⟩) hb).trans (h6 j x hx), h7⟩
theorem Bt.keep {T : Nat → Bool} (h : Bt base w o lv tv ls ts us) (k : Keep T w o w' o') (t0 : T 0 = false) : Bt base w' o' lv tv ls ts us where
  lrow := by
    obtain ⟨h1, h2⟩ := h.lrow
    refine ⟨h1, ?_⟩
    rcases h2 with h2 | ⟨gx, cap, cur, e, h3, h4, r⟩
    · exact .inl h2
    · exact .inr ⟨gx, cap, cur, e, h3, (k.blk gx (Array.getElem?_eq_some_iff.1 h4).1 (by rw [h.lo gx (by rw [e]; rfl)]; exact t0)).trans h4, r⟩
  trow := by
    obtain ⟨h1, h2⟩ := h.trow
    refine ⟨h1, ?_⟩
    rcases h2 with h2 | ⟨gx, cap, cur, e, h3, h4, r⟩
    · exact .inl h2
    · exact .inr ⟨gx, cap, cur, e, h3, (k.blk gx (Array.getElem?_eq_some_iff.1 h4).1 (by rw [h.to gx (by rw [e]; rfl)]; exact t0)).trans h4, r⟩
  ul := h.ul
  tab := fun j u hu => (h.tab j u hu).keep k t0
  lo := fun b hb => (k.own b (h.lrow.lt b hb).2).trans (h.lo b hb)
  to := fun b hb => (k.own b (h.trow.lt b hb).2).trans (h.to b hb)
  dis := h.dis
  dl := fun j u b hu hb => ⟨Nat.lt_of_lt_of_le (h.dl j u b hu hb).1 k.size, (h.dl j u b hu hb).2⟩
theorem Bt.grown (h : Bt base w o lv tv ls ts us) (hg : w.grownBy w' none) : Bt base w' o lv tv ls ts us := h.keep (T := fun _ => false) (keep_none _ o hg) rfl
/-- A number more. -/
theorem Bt.pushL (h : Bt base w o lv tv ls ts us) {x : Nat} {lv' : Value} (hg : w.grownBy w' lv.ownBlock) (hr : w'.ownsRow base 3 1 lv' (ls.length + 1) ((ls.map fun (x : Nat) => (x : Int)).map (Value.int .i64) ++ [.int .i64 (x : Int)])) (hat : lv'.ownBlock = lv.ownBlock ∨ lv'.ownBlock = some w.heap.size) (hn : ∀ k, w.heap.size ≤ k → o k = 0) : Bt base w' o lv' tv (ls ++ [x]) ts us where
  lrow := by unfold IRow; rw [List.map_append, List.map_append, List.length_append, List.length_map]; exact hr
  trow := World.ownsRow.kept h.trow hg (by
    cases ht : tv.ownBlock with
    | none => exact .inl rfl
    | some b => right; intro e; exact h.dis b e.symm ht)
  ul := h.ul
  tab := fun j u hu => (h.tab j u hu).row hg (fun b hb e => (h.dl j u b hu hb).2.1 e)
  lo := fun b hb => by
    rcases hat with e | e
    · exact h.lo b (by rw [← e]; exact hb)
    · rw [e] at hb; cases hb; exact hn _ (Nat.le_refl _)
  to := h.to
  dis := fun b hb ht => by
    rcases hat with e | e
    · exact h.dis b (by rw [← e]; exact hb) ht
    · rw [e] at hb; cases hb; have := (h.trow.lt _ ht).2; omega
  dl := fun j u b hu hb => by
    obtain ⟨h1, h2, h3⟩ := h.dl j u b hu hb
    refine ⟨Nat.lt_of_lt_of_le h1 hg.size, ?_, h3⟩
    rcases hat with e | e
    · rw [e]; exact h2
    · rw [e]; intro e2; cases e2; omega
/-- A table more. -/
theorem Bt.pushT (h : Bt base w o lv tv ls ts us) {u : Value} {t : List Bool} {tv' : Value} (hu : BoolsO w o u t) (hub : ∀ b, u.ownBlock = some b → b < w.heap.size ∧ lv.ownBlock ≠ some b ∧ tv.ownBlock ≠ some b) (hg : w.grownBy w' tv.ownBlock) (hr : w'.ownsRow base 32 1 tv' (us.length + 1) (us ++ [u])) (hat : tv'.ownBlock = tv.ownBlock ∨ tv'.ownBlock = some w.heap.size) (hn : ∀ k, w.heap.size ≤ k → o k = 0) : Bt base w' o lv tv' ls (ts ++ [t]) (us ++ [u]) where
  lrow := World.ownsRow.kept h.lrow hg (by
    cases hl : lv.ownBlock with
    | none => exact .inl rfl
    | some b => right; intro e; exact h.dis b hl e.symm)
  trow := by rw [List.length_append]; exact hr
  ul := by simp [h.ul]
  tab := fun j v hv => by
    by_cases hj : j < us.length
    · rw [List.getElem?_append_left hj] at hv
      have e : (ts ++ [t]).getD j [] = ts.getD j [] := by rw [List.getD_eq_getElem?_getD, List.getD_eq_getElem?_getD, List.getElem?_append_left (by rw [← h.ul]; exact hj)]
      rw [e]
      exact (h.tab j v hv).row hg (fun b hb e => (h.dl j v b hv hb).2.2 e)
    · have hl := (List.getElem?_eq_some_iff.1 hv).1
      simp at hl
      obtain rfl : j = us.length := by omega
      simp at hv
      subst hv
      have e : (ts ++ [t]).getD us.length [] = t := by rw [h.ul]; simp [List.getD_eq_getElem?_getD]
      rw [e]
      exact hu.row hg (fun b hb e => (hub b hb).2.2 e)
  lo := h.lo
  to := fun b hb => by
    rcases hat with e | e
    · exact h.to b (by rw [← e]; exact hb)
    · rw [e] at hb; cases hb; exact hn _ (Nat.le_refl _)
  dis := fun b hb ht => by
    rcases hat with e | e
    · exact h.dis b hb (by rw [← e]; exact ht)
    · rw [e] at ht; cases ht; have := (h.lrow.lt _ hb).2; omega
  dl := fun j v b hv hb => by
    have key : b < w.heap.size ∧ lv.ownBlock ≠ some b ∧ tv.ownBlock ≠ some b := by
      by_cases hj : j < us.length
      · rw [List.getElem?_append_left hj] at hv
        exact h.dl j v b hv hb
      · have hl := (List.getElem?_eq_some_iff.1 hv).1
        simp at hl
        obtain rfl : j = us.length := by omega
        simp at hv
        subst hv
        exact hub b hb
    refine ⟨Nat.lt_of_lt_of_le key.1 hg.size, key.2.1, ?_⟩
    rcases hat with e | e
    · rw [e]; exact key.2.2
    · rw [e]; intro e2; cases e2; omega
theorem Bt.nums (h : Bt base w o lv tv ls ts us) : NumsO w o lv (ls.map fun (x : Nat) => (x : Int)) := by
  obtain ⟨A, c, h1, h2⟩ := h.lrow.nums
  refine ⟨A, c, h1, fun hne => ?_⟩
  obtain ⟨b, off, rfl, h4, h6⟩ := h2 hne
  exact ⟨b, off, rfl, h4, h.lo b (by rw [h1]; rfl), h6⟩
theorem Bt.tabs (h : Bt base w o lv tv ls ts us) : TabsO w o tv ts := by
  have h0 := h.trow
  obtain ⟨-, h2⟩ := h.trow
  rcases h2 with ⟨h3, h4⟩ | ⟨gx, cap, cur, e, h3, h4, h5, r⟩
  · exact ⟨none, 0, by rw [h3, ← h.ul, h4], fun hne => absurd (List.eq_nil_of_length_eq_zero (by rw [← h.ul]; exact h4)) hne⟩
  · refine ⟨some ⟨gx, 0, none⟩, cap, by rw [e, h.ul], fun hne => ⟨gx, 0, rfl, (Array.getElem?_eq_some_iff.1 h4).1, h.to gx (by rw [e]; rfl), fun j t ht => ?_⟩⟩
    have hj : j < us.length := by rw [h.ul]; exact (List.getElem?_eq_some_iff.1 ht).1
    have h8 := World.ownsRow.cells (g := gx) h0 (by rw [e]; rfl) j us[j] (List.getElem?_eq_getElem hj)
    refine ⟨us[j], ?_, ?_⟩
    · unfold Addr.add at h8
      by_cases ej : j = 0
      · subst ej; simpa using h8
      · simpa [ej] using h8
    · have := h.tab j us[j] (List.getElem?_eq_getElem hj)
      rw [List.getD_eq_getElem?_getD, ht] at this
      exact this
end
/-- Each number's table is what its node is. -/
structure Good (n : Nat) (g : SG) (ls : List Nat) (ts : List (List Bool)) : Prop where
  len : ls.length = ts.length
  two : 2 ≤ ls.length
  tab : ∀ j, j < ls.length → ls.getD j 0 < g.ns.length ∧ ts.getD j [] = tabF n (ev g.ns (ls.getD j 0))
theorem Good.ups {n : Nat} {g g' : SG} {ls : List Nat} {ts : List (List Bool)} (h : Good n g ls ts) (u : Ups g g') (hw : WF g.V g.ns) (hw' : WF g'.V g'.ns) : Good n g' ls ts := by
  obtain ⟨K, hK⟩ := u.ns
  rw [u.V, hK] at hw'
  refine ⟨h.len, h.two, fun j hj => ?_⟩
  obtain ⟨h1, h2⟩ := h.tab j hj
  refine ⟨by rw [hK, List.length_append]; omega, ?_⟩
  rw [h2, hK]
  exact tab_hang fun m => (ev_app hw hw' m _ h1).symm
theorem Good.push {n : Nat} {g : SG} {ls : List Nat} {ts : List (List Bool)} (h : Good n g ls ts) {f : Nat} {t : List Bool} (hf : f < g.ns.length) (ht : t = tabF n (ev g.ns f)) : Good n g (ls ++ [f]) (ts ++ [t]) := by
  refine ⟨by simp [h.len], by have := h.two; simp; omega, fun j hj => ?_⟩
  have e1 : ∀ {α : Type} (l : List α) (x d : α), j < l.length → (l ++ [x]).getD j d = l.getD j d := fun l x d h => by rw [List.getD_eq_getElem?_getD, List.getD_eq_getElem?_getD, List.getElem?_append_left h]
  have e2 : ∀ {α : Type} (l : List α) (x d : α), j = l.length → (l ++ [x]).getD j d = x := fun l x d h => by subst h; simp [List.getD_eq_getElem?_getD]
  by_cases hl : j < ls.length
  · rw [e1 ls _ _ hl, e1 ts _ _ (by rw [← h.len]; exact hl)]
    exact h.tab j hl
  · have : j = ls.length := by simp at hj; omega
    rw [e2 ls _ _ this, e2 ts _ _ (by rw [← h.len]; exact this)]
    exact ⟨hf, ht⟩
theorem Good.all {n : Nat} {g : SG} {ls : List Nat} {ts : List (List Bool)} (h : Good n g ls ts) : (∀ x ∈ ls, x < g.ns.length) ∧ ∀ t ∈ ts, t.length = 2 ^ n := by
  constructor
  · intro x hx
    obtain ⟨j, hj, rfl⟩ := List.mem_iff_getElem.1 hx
    have := (h.tab j hj).1
    rw [List.getD_eq_getElem?_getD, List.getElem?_eq_getElem hj] at this
    exact this
  · intro t ht
    obtain ⟨j, hj, rfl⟩ := List.mem_iff_getElem.1 ht
    have := (h.tab j (by rw [h.len]; exact hj)).2
    rw [List.getD_eq_getElem?_getD, List.getElem?_eq_getElem hj] at this
    have e : ts[j] = tabF n (ev g.ns (ls.getD j 0)) := this
    rw [e, tab_len]
theorem Keep.row {T : Nat → Bool} {W w w' : World} {O o : Nat → Nat} {row : Option Nat} (k : Keep T W O w o) (hg : w.grownBy w' row) (hb : ∀ b, row = some b → W.heap.size ≤ b) : Keep T W O w' o :=
  ⟨hg.os.trans k.os, hg.tape.trans k.tape, hg.output.trans k.output, Nat.le_trans k.size hg.size, k.own, fun i hi h0 => (hg.block i (Nat.lt_of_lt_of_le hi k.size) (fun e => by have := hb i e.symm; omega)).trans (k.blk i hi h0)⟩
theorem StoreM.row0 {M : List Nd} {w w' : World} {o : Nat → Nat} {g : SG} {row : Option Nat} (h : StoreM M w o g) (hg : w.grownBy w' row) (hr : ∀ b, row = some b → o b = 0) : StoreM M w' o g :=
  h.keep (T := fun t => t == 0) (Keep.grown hg (fun k e => by simp [hr k e]) (fun _ _ => rfl)) ⟨rfl, rfl, rfl⟩ (fun b hb => h.new b (Nat.le_trans hg.size hb))

end Go.Proofs.Ytailpphafoamfaa
