/- A store and its draft: what becomes of them. -/
import Derived.Test.YtailpphafoamfaaPzab
set_option linter.all false
namespace Go.Proofs.Ytailpphafoamfaa
open Go Go.RowKit Go.Maps


section
variable {M : List Nd} {w w' : World} {o o' : Nat → Nat} {g g' g'' : SG} {D D' D'' : DG}
structure DS (w : World) (o : Nat → Nat) (g : SG) (D : DG) : Prop where
  st : StoreAt w o g
  dr : DraftAt w o g D
theorem DS.grown (h : DS w o g D) (hg : w.grownBy w' none) : DS w' o g D := ⟨h.st.grown hg, h.dr.grown hg⟩
theorem DS.alloc (h : DS w o g D) (x : Obj) : DS (w.alloc x) o g D := h.grown (grown_alloc _ _)
theorem DS.drew (h : DS w o g D) : DS (World.drew w) o g D := h.grown (grown_drewN w 1)
/-- The blocks of a store and its draft. -/
def Td (t : Nat) : Bool := decide (1 ≤ t ∧ t ≤ 6)
theorem td_of {T : Nat → Bool} (ht : ∀ t, T t = true → 1 ≤ t ∧ t ≤ 6) : ∀ t, Td t = false → T t = false := fun t h => by
  cases hT : T t with
  | false => rfl
  | true =>
    have := ht t hT
    unfold Td at h
    rw [decide_eq_true this] at h
    cases h
/-- What becomes of a store and a draft: nodes more in the draft alone. -/
structure Ext (g : SG) (D : DG) (g' : SG) (D' : DG) : Prop where
  s : g'.s = g.s
  V : g'.V = g.V
  room : g'.room = g.room
  ns : g'.ns = g.ns
  W : g.W ≤ g'.W
  d : D'.d = D.d
  most : D'.most = D.most
  ds : ∃ K, D'.ds = D.ds ++ K
  full : D.full = true → D'.full = true
theorem Ext.refl (g : SG) (D : DG) : Ext g D g D := ⟨rfl, rfl, rfl, rfl, Nat.le_refl _, rfl, rfl, ⟨[], by simp⟩, id⟩
theorem Ext.trans (h : Ext g D g' D') (k : Ext g' D' g'' D'') : Ext g D g'' D'' :=
  ⟨k.s.trans h.s, k.V.trans h.V, k.room.trans h.room, k.ns.trans h.ns, Nat.le_trans h.W k.W, k.d.trans h.d, k.most.trans h.most, by
    obtain ⟨K, h1⟩ := h.ds
    obtain ⟨K', h2⟩ := k.ds
    exact ⟨K ++ K', by rw [h2, h1, List.append_assoc]⟩, fun e => k.full (h.full e)⟩
def lst (g : SG) (D : DG) : List Nd := g.ns ++ D.ds
theorem Ext.ex (h : Ext g D g' D') : ∃ K, lst g' D' = lst g D ++ K := by
  obtain ⟨K, h1⟩ := h.ds
  exact ⟨K, by unfold lst; rw [h.ns, h1, List.append_assoc]⟩
structure NodeOut (w : World) (o : Nat → Nat) (g : SG) (D : DG) (n : Nd) (r : Nat) (w' : World) (o' : Nat → Nat) (g' : SG) (D' : DG) : Prop where
  ds : DS w' o' g' D'
  keep : Keep Td w o w' o'
  ext : Ext g D g' D'
  lt : r < (lst g' D').length
  len : D'.ds.length ≤ D.ds.length + 1
  W1 : g'.W ≤ g.W + 1
  W2 : n.a ≠ n.b → g'.W = g.W + 1
  is : (r = 0 ∧ D'.full = true) ∨ NodeIs (lst g' D') n r
def NodePost (w : World) (o : Nat → Nat) (g : SG) (D : DG) (n : Nd) (e : Ending) (w' : World) : Prop :=
  ∃ r o' g' D', e = .returned (.int .i32 ((r : Nat) : Int)) ∧ NodeOut w o g D n r w' o' g' D'
theorem box_cells {B : Nat} {x y z : Value} {t : TypeId} {fr : Nat × Nat} (h : w.heap[B]? = some (.cells #[x, y, z] t fr)) : w.cell? ⟨B, 0, none⟩ = some x ∧ w.cell? ⟨B, 1, none⟩ = some y ∧ w.cell? ⟨B, 2, none⟩ = some z := by
  unfold World.cell?
  rw [h]
  exact ⟨rfl, rfl, rfl⟩
theorem works_wrap (n : Nat) : IntKind.u64.wrap (((n % 18446744073709551616 : Nat) : Int) + 1) = (((n + 1) % 18446744073709551616 : Nat) : Int) := by
  simp only [IntKind.wrap, IntKind.bits, IntKind.signed]
  simp
/-- One more that was looked for. -/
theorem StoreM.works (h : StoreM M w o g) : StoreM M (w.setCell ⟨g.s, 7, none⟩ (.int .u64 (IntKind.u64.wrap (((g.W % 18446744073709551616 : Nat) : Int) + 1)))) o { g with W := g.W + 1 } ∧ Keep (· == 1) w o (w.setCell ⟨g.s, 7, none⟩ (.int .u64 (IntKind.u64.wrap (((g.W % 18446744073709551616 : Nat) : Int) + 1)))) o := by
  rw [works_wrap]
  have hg := grown_set w ⟨g.s, 7, none⟩ (.int .u64 (((g.W + 1) % 18446744073709551616 : Nat) : Int))
  have hk : Keep (· == 1) w o (w.setCell ⟨g.s, 7, none⟩ (.int .u64 (((g.W + 1) % 18446744073709551616 : Nat) : Int))) o := Keep.grown hg (fun k e => by cases e; rw [h.os]; rfl) (fun _ _ => rfl)
  have ks : ∀ {k t' : Nat}, k < w.heap.size → o k = t' → t' ≠ 1 → (w.setCell ⟨g.s, 7, none⟩ (.int .u64 (((g.W + 1) % 18446744073709551616 : Nat) : Int))).heap[k]? = w.heap[k]? := fun {k t'} hk ho h1 => hg.block k hk (fun e => h1 (by cases e; rw [← ho, h.os]))
  exact ⟨⟨by rw [heap_set _ h.cells]; rfl, h.os, row_move h.row fun b hb => ks (h.row.lt b hb).2 (h.orow b hb) (by decide), h.orow, h.num0, fun b hb => by
    obtain ⟨h1, f, h2, h3⟩ := h.num b hb
    exact ⟨h1, f, h2.move (ks h2.lt h1 (by decide)), h3⟩, h.wf, h.bd, fun k hk => h.new k (Nat.le_trans hg.size hk)⟩, hk⟩
theorem DS.works (h : DS w o g D) : DS (w.setCell ⟨g.s, 7, none⟩ (.int .u64 (IntKind.u64.wrap (((g.W % 18446744073709551616 : Nat) : Int) + 1)))) o { g with W := g.W + 1 } D ∧ Keep (· == 1) w o (w.setCell ⟨g.s, 7, none⟩ (.int .u64 (IntKind.u64.wrap (((g.W % 18446744073709551616 : Nat) : Int) + 1)))) o := by
  obtain ⟨h1, h2⟩ := h.st.works
  exact ⟨⟨h1, (h.dr.keep h2 ⟨rfl, rfl, rfl⟩).of rfl rfl rfl⟩, h2⟩
theorem DS.num (h : DS w o g D) {mb : Nat} (h1 : StoreAt w' o' { g with num := some mb }) (h2 : Keep (· == 1) w o w' o') : DS w' o' { g with num := some mb } D := ⟨h1, (h.dr.keep h2 ⟨rfl, rfl, rfl⟩).of rfl rfl rfl⟩
/-- The draft is full. -/
theorem DS.setFull (h : DS w o g D) (hf : D.most ≤ D.ds.length) : DS (w.setCell ⟨D.d, 5, none⟩ (.bool true)) o g { D with full := true } ∧ Keep (· == 4) w o (w.setCell ⟨D.d, 5, none⟩ (.bool true)) o := by
  have hg := grown_set w ⟨D.d, 5, none⟩ (.bool true)
  have hk : Keep (· == 4) w o (w.setCell ⟨D.d, 5, none⟩ (.bool true)) o := Keep.grown hg (fun k e => by cases e; rw [h.dr.od]; rfl) (fun _ _ => rfl)
  have ks : ∀ {k t' : Nat}, k < w.heap.size → o k = t' → t' ≠ 4 → (w.setCell ⟨D.d, 5, none⟩ (.bool true)).heap[k]? = w.heap[k]? := fun {k t'} hk ho h1 => hg.block k hk (fun e => h1 (by cases e; rw [← ho, h.dr.od]))
  exact ⟨⟨h.st.keep hk ⟨rfl, rfl, rfl⟩ (fun b hb => h.st.new b (Nat.le_trans hg.size hb)), ⟨by rw [heap_set _ h.dr.cells]; rfl, h.dr.od, row_move h.dr.row fun b hb => ks (h.dr.row.lt b hb).2 (h.dr.orow b hb) (by decide), h.dr.orow, h.dr.om, by
    obtain ⟨f, h1, h2⟩ := h.dr.map
    exact ⟨f, h1.move (ks h1.lt h.dr.om (by decide)), h2⟩, h.dr.wf, h.dr.most, fun _ => hf⟩⟩, hk⟩
end

end Go.Proofs.Ytailpphafoamfaa
