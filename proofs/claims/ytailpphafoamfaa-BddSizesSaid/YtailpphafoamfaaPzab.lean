/- The map of a store's numbers; what is found in it. What may be a key: a node, three numbers. What is found in a store. A node more, in a store, in a draft. A node is put into a store. A draft. A node by its number. What combining makes: the mathematics. -/
import Derived.OwnWalk
import Derived.IntWalk
import Derived.Test.YtailpphafoamfaaPzaa
set_option linter.all false
namespace Go.Proofs.Ytailpphafoamfaa
open Go Go.RowKit Go.Maps

theorem grown_trans {a b c : World} {row : Option Nat} (h : a.grownBy b row) (k : b.grownBy c row) : a.grownBy c row :=
  ⟨k.os.trans h.os, k.tape.trans h.tape, k.output.trans h.output, Nat.le_trans h.size k.size, fun i hi hne => (k.block i (Nat.lt_of_lt_of_le hi h.size) hne).trans (h.block i hi hne)⟩
theorem grown_any {a b : World} {row : Option Nat} (h : a.grownBy b none) : a.grownBy b row := ⟨h.os, h.tape, h.output, h.size, fun i hi _ => h.block i hi (by simp)⟩
theorem slow_grown (w : World) (s : Nat) : w.grownBy (slowW w s) (some s) := by
  have h1 := grown_set w ⟨s, 4, none⟩ (.int .i32 1)
  have h2 := grown_set (w.setCell ⟨s, 4, none⟩ (.int .i32 1)) ⟨s, 6, none⟩ (.map (some w.heap.size))
  have h3 : World.grownBy _ (slowW0 w s) (some s) := grown_any (grown_alloc ((w.setCell ⟨s, 4, none⟩ (.int .i32 1)).setCell ⟨s, 6, none⟩ (.map (some w.heap.size))) (.map #[] 0))
  have h4 : (slowW0 w s).grownBy (slowW0 w s).drew (some s) := ⟨rfl, rfl, rfl, Nat.le_refl _, fun _ _ _ => rfl⟩
  have h5 := grown_set (slowW0 w s).drew ⟨s, 3, none⟩ (.int .u32 1)
  have h6 := grown_set ((slowW0 w s).drew.setCell ⟨s, 3, none⟩ (.int .u32 1)) ⟨s, 4, none⟩ (.int .i32 0)
  exact grown_trans (grown_trans (grown_trans (grown_trans (grown_trans h1 h2) h3) h4) h5) h6
theorem heap_alloc_old {w : World} {o : Obj} {k : Nat} (h : k < w.heap.size) : (w.alloc o).heap[k]? = w.heap[k]? := (MapKept.heap_alloc w o).2 k h
theorem slow_heap {w : World} {s : Nat} {cs : Array Value} {t : TypeId} (hs : s < w.heap.size) (h : w.heap[s]? = some (.cells cs t (0, 0))) : (slowW w s).heap[s]? = some (.cells ((((cs.setIfInBounds 4 (.int .i32 1)).setIfInBounds 6 (.map (some w.heap.size))).setIfInBounds 3 (.int .u32 1)).setIfInBounds 4 (.int .i32 0)) t (0, 0)) := by
  unfold slowW
  refine heap_set _ (heap_set _ ?_)
  show (slowW0 w s).heap[s]? = _
  unfold slowW0
  rw [heap_alloc_old (by simpa [World.setCell] using hs)]
  exact heap_set _ (heap_set _ h)
theorem slow_new (w : World) (s : Nat) (hs : s < w.heap.size) : (slowW w s).heap[w.heap.size]? = some (.map #[] 0) ∧ (slowW w s).heap.size = w.heap.size + 1 := by
  have e : ((w.setCell ⟨s, 4, none⟩ (.int .i32 1)).setCell ⟨s, 6, none⟩ (.map (some w.heap.size))).heap.size = w.heap.size := by simp [World.setCell]
  have h0 : (slowW0 w s).heap[w.heap.size]? = some (.map #[] 0) := by
    have := (MapKept.heap_alloc ((w.setCell ⟨s, 4, none⟩ (.int .i32 1)).setCell ⟨s, 6, none⟩ (.map (some w.heap.size))) (.map #[] 0)).1
    rw [e] at this
    exact this
  refine ⟨?_, ?_⟩
  · unfold slowW
    rw [Below.heap_setCell _ _ _ _ (by simp; omega), Below.heap_setCell _ _ _ _ (by simp; omega)]
    exact h0
  · simp [slowW, slowW0, World.setCell]
section
variable {M : List Nd} {w w' : World} {o : Nat → Nat} {g : SG}
theorem StoreM.cell (h : StoreM M w o g) {i : Nat} {v : Value} (hv : (sCells g)[i]? = some v) : w.cell? ⟨g.s, i, none⟩ = some v := by
  simp [World.cell?, h.cells, hv]
theorem StoreM.cell0 (h : StoreM M w o g) : w.cell? ⟨g.s, 0, none⟩ = some (.int .i64 (g.V : Int)) := h.cell rfl
theorem StoreM.cell1 (h : StoreM M w o g) : w.cell? ⟨g.s, 1, none⟩ = some (.int .i64 (g.room : Int)) := h.cell rfl
theorem StoreM.cell2 (h : StoreM M w o g) : w.cell? ⟨g.s, 2, none⟩ = some g.val := h.cell rfl
theorem StoreM.cell6 (h : StoreM M w o g) : w.cell? ⟨g.s, 6, none⟩ = some (.map g.num) := h.cell rfl
theorem StoreM.cell7 (h : StoreM M w o g) : w.cell? ⟨g.s, 7, none⟩ = some (.int .u64 (((g.W % 18446744073709551616 : Nat)) : Int)) := h.cell rfl
theorem StoreM.frz (h : StoreM M w o g) (i : Nat) : w.frozen? ⟨g.s, i, none⟩ = false := by simp [World.frozen?, h.cells]
theorem StoreM.alloc (h : StoreM M w o g) (x : Obj) : StoreM M (w.alloc x) o g :=
  h.keep (T := fun _ => false) (Keep.grown (grown_alloc _ _) (by simp) (fun _ _ => rfl)) ⟨rfl, rfl, rfl⟩ (fun b hb => h.new b (by simp at hb; omega))
theorem keep_alloc (T : Nat → Bool) (w : World) (o : Nat → Nat) (x : Obj) : Keep T w o (w.alloc x) o := Keep.grown (grown_alloc _ _) (by simp) (fun _ _ => rfl)
/-- The map is made. -/
theorem StoreM.slow (h : StoreM M w o g) (hn : g.num = none) : ∃ o', StoreM M (slowW w g.s) o' { g with num := some w.heap.size } ∧ Keep (· == 1) w o (slowW w g.s) o' := by
  have hs := h.lts
  have hg := slow_grown w g.s
  obtain ⟨hm, hz⟩ := slow_new w g.s hs
  refine ⟨fun k => if k = w.heap.size then 3 else o k, ?_, ?_⟩
  · have keepb : ∀ k, k < w.heap.size → k ≠ g.s → (slowW w g.s).heap[k]? = w.heap[k]? := fun k hk hne => hg.block k hk (fun e => hne (by simpa using e))
    exact
    { cells := by
        rw [slow_heap hs h.cells]
        simp [sCells, hn]
      os := by show (if g.s = w.heap.size then 3 else o g.s) = 1; rw [if_neg (by omega)]; exact h.os
      row := row_move h.row fun b hb => keepb b (h.row.lt b hb).2 (fun e => by have := h.orow b hb; rw [e, h.os] at this; cases this)
      orow := fun k hk => by
        show (if k = w.heap.size then 3 else o k) = 2
        rw [if_neg (by have := (h.row.lt k hk).2; omega)]
        exact h.orow k hk
      num0 := fun e => by cases e
      num := fun b hb => by
        cases hb
        refine ⟨if_pos rfl, fun _ => none, ⟨#[], 0, hm, by simp, by simp, by simp, by simp⟩, ⟨fun i n hi hn' => ?_, fun v x e => by cases e⟩⟩
        have h2 := h.num0 hn
        have h3 := (List.getElem?_eq_some_iff.1 hn').1
        omega
      wf := h.wf
      bd := h.bd
      new := fun k hk => by
        show (if k = w.heap.size then 3 else o k) = 0
        rw [if_neg (by omega)]
        exact h.new k (by omega) }
  · exact Keep.grown hg (fun k e => by cases e; simp [h.os]) (fun k hk => if_neg (by omega))
def TablePost (M : List Nd) (w : World) (o : Nat → Nat) (g : SG) (e : Ending) (w' : World) : Prop :=
  ∃ mb o', e = .returned (.map (some mb)) ∧ StoreM M w' o' { g with num := some mb } ∧ Keep (· == 1) w o w' o'
theorem table_any (h : StoreM M w o g) : Calls Try.prog 74 #[.pointer (some ⟨g.s, 0, none⟩)] w (TablePost M w o g) := by
  have hmf : ∀ (fn : Fn) (first cap : Array Value) (w : World), (Instr.makeFunc fn first cap).run Try.prog w = .ok (.func fn first cap) w := fun _ _ _ _ => rfl
  have hs := h.lts
  have H1 := h.alloc (.cells #[.pointer (some ⟨g.s, 0, none⟩)] 23)
  obtain ⟨s, hse⟩ : ∃ s, g.s = s := ⟨_, rfl⟩
  cases hn : g.num with
  | some b =>
    have c3 : (w.alloc (.cells #[.pointer (some ⟨g.s, 0, none⟩)] 23)).cell? ⟨g.s, 3, none⟩ = some (.int .u32 1) := H1.cell (by simp [sCells, hn])
    have c6 := H1.cell6
    rw [hn] at c6
    have HP := Lib.hid (show TablePost M w o g (.returned (.map (some b))) (w.alloc (.cells #[.pointer (some ⟨g.s, 0, none⟩)] 23)) from ⟨b, o, rfl, by rw [← hn]; exact H1, keep_alloc _ _ _ _⟩)
    have HD := Lib.hid (do_done ⟨s, 3, none⟩ (.func (.func 79) #[] #[.pointer (some ⟨w.heap.size, 0, none⟩)]) _ (by rw [← hse]; exact c3))
    clear h hn H1
    rw [hse] at hs c3 c6 HP HD ⊢
    clear hse
    go_enter Try.func74, Try.ntmps74
    go_wp2_with (go_at_call 78; refine (HD.out).mono ?_; rintro e w' ⟨rfl, rfl⟩)
    go_ret
    exact HP.out
  | none =>
    have c3 : (w.alloc (.cells #[.pointer (some ⟨g.s, 0, none⟩)] 23)).cell? ⟨g.s, 3, none⟩ = some (.int .u32 0) := H1.cell (by simp [sCells, hn])
    have c4 : (w.alloc (.cells #[.pointer (some ⟨g.s, 0, none⟩)] 23)).cell? ⟨g.s, 4, none⟩ = some (.int .i32 0) := H1.cell rfl
    have c6 := H1.cell6
    have p0 : (w.alloc (.cells #[.pointer (some ⟨g.s, 0, none⟩)] 23)).cell? ⟨w.heap.size, 0, none⟩ = some (.pointer (some ⟨g.s, 0, none⟩)) := by simp
    obtain ⟨o', hst, hk⟩ := H1.slow hn
    have c6' := hst.cell6
    have pb : (slowW (w.alloc (.cells #[.pointer (some ⟨g.s, 0, none⟩)] 23)) g.s).cell? ⟨w.heap.size, 0, none⟩ = some (.pointer (some ⟨g.s, 0, none⟩)) := (World.cell?_of_block ((slow_grown _ _).block _ (by simp) (by simp; omega))).trans p0
    have HP := Lib.hid (show TablePost M w o g (.returned (.map (some (w.alloc (.cells #[.pointer (some ⟨g.s, 0, none⟩)] 23)).heap.size))) (slowW (w.alloc (.cells #[.pointer (some ⟨g.s, 0, none⟩)] 23)) g.s) from ⟨_, o', rfl, hst, (keep_alloc _ _ _ _).trans hk⟩)
    have HD := Lib.hid (do_first g.s ⟨w.heap.size, 0, none⟩ (by simp; omega) _ _ H1.lts p0 c3 c4 c6 (H1.frz 3) (H1.frz 4) (H1.frz 6))
    clear h hn H1 hst hk c3 c4 c6 p0
    rw [hse] at hs c6' HP HD pb ⊢
    clear hse
    go_enter Try.func74, Try.ntmps74
    go_wp2_with fail
    refine (HD.out).mono ?_
    rintro e w' ⟨rfl, hw⟩
    obtain ⟨B, hB⟩ : ∃ B, (w.alloc (.cells #[.pointer (some ⟨s, 0, none⟩)] 23)).heap.size = B := ⟨_, rfl⟩
    rw [← hw] at pb HP c6'
    rw [hB] at c6' HP
    clear hw hB
    go_wp2
    go_ret
    exact HP.out
end
end Go.Proofs.Ytailpphafoamfaa
namespace Go.Proofs.Ytailpphafoamfaa
open Go Go.RowKit Go.Maps
theorem isK63 {n : Nd} (hv : n.v < 2147483648) (ha : n.a < 2147483648) (hb : n.b < 2147483648) : IsK 63 (ndV n) := by
  have h1 : (Lit.int .i32 (n.v : Int)).wf = true := WalkArith.wf_i32 (by omega)
  have h2 : (Lit.int .i32 (n.a : Int)).wf = true := WalkArith.wf_i32 (by omega)
  have h3 : (Lit.int .i32 (n.b : Int)).wf = true := WalkArith.wf_i32 (by omega)
  have hkt : Try.prog.keyType 63 = true := by kernel_rfl
  have c63 : Try.prog.cellsOf 63 = 3 := by kernel_rfl
  have c21 : Try.prog.cellsOf 21 = 1 := by kernel_rfl
  have hts : ∃ k, Try.prog.types.size + 1 = k + 1 + 1 := ⟨Try.prog.types.size - 1, by have h63 : (63 : Nat) < Try.prog.types.size := row63; omega⟩
  obtain ⟨k, hk⟩ := hts
  unfold IsK keyOf
  rw [Try.underlying63]
  simp only [hkt, hk, ndV, Value.formed, Try.underlying63, c63, Value.cells]
  simp [Program.keyLits, Try.underlying63, Try.underlying21, c63, c21, h1, h2, h3]
theorem isK125 {a b c : Nat} (ha : a < 2147483648) (hb : b < 2147483648) (hc : c < 2147483648) : IsK 125 (.agg #[i32 a, i32 b, i32 c]) := by
  have h1 : (Lit.int .i32 (a : Int)).wf = true := WalkArith.wf_i32 (by omega)
  have h2 : (Lit.int .i32 (b : Int)).wf = true := WalkArith.wf_i32 (by omega)
  have h3 : (Lit.int .i32 (c : Int)).wf = true := WalkArith.wf_i32 (by omega)
  have hkt : Try.prog.keyType 125 = true := by kernel_rfl
  have c63 : Try.prog.cellsOf 125 = 3 := by kernel_rfl
  have c21 : Try.prog.cellsOf 21 = 1 := by kernel_rfl
  have hts : ∃ k, Try.prog.types.size + 1 = k + 1 + 1 := ⟨Try.prog.types.size - 1, by have h63 : (63 : Nat) < Try.prog.types.size := row63; omega⟩
  obtain ⟨k, hk⟩ := hts
  unfold IsK keyOf
  rw [Try.underlying125]
  simp only [hkt, hk, Value.formed, Try.underlying125, c63, Value.cells, i32]
  simp [Program.keyLits, Try.underlying125, Try.underlying21, c63, c21, h1, h2, h3, List.range, List.range.loop]
theorem z21 (w : World) : (zeroValue 21).run Try.prog w = .ok (.int .i32 0) w := by kernel_rfl
theorem ndV_inj {n n' : Nd} (h : ndV n = ndV n') : n = n' := by
  unfold ndV at h
  simp at h
  obtain ⟨h1, h2, h3⟩ := h
  cases n; cases n'
  simp only [Nd.mk.injEq] at *
  omega
end Go.Proofs.Ytailpphafoamfaa
namespace Go.Proofs.Ytailpphafoamfaa
open Go Go.RowKit Go.Maps


theorem keep_T {T T' : Nat → Bool} {w w' : World} {o o' : Nat → Nat} (h : Keep T w o w' o') (ht : ∀ t, T' t = false → T t = false) : Keep T' w o w' o' := h.more ht
def FindPost (w : World) (o : Nat → Nat) (g : SG) (n : Nd) (e : Ending) (w' : World) : Prop :=
  ∃ mb o', StoreAt w' o' { g with num := some mb } ∧ Keep (· == 1) w o w' o' ∧
    ((∃ i, 2 ≤ i ∧ g.ns[i]? = some n ∧ e = .returned (.tuple #[i32 i, .bool true])) ∨ ((∀ i, 2 ≤ i → g.ns[i]? ≠ some n) ∧ e = .returned (.tuple #[.int .i32 0, .bool false])))
/-- What is looked up in a map of numbers. -/
theorem NumOk.cases {f : Value → Option Value} {lo : Nat} {L : List Nd} (h : NumOk f lo L) (n : Nd) : (∃ i, lo ≤ i ∧ L[i]? = some n ∧ f (ndV n) = some (i32 i)) ∨ ((∀ i, lo ≤ i → L[i]? ≠ some n) ∧ f (ndV n) = none) := by
  cases hf : f (ndV n) with
  | none => exact .inr ⟨fun i hi hn => (by rw [h.to i n hi hn] at hf; cases hf), rfl⟩
  | some x =>
    obtain ⟨i, n', hi, hn, he, rfl⟩ := h.from_ _ _ hf
    obtain rfl := ndV_inj he
    exact .inl ⟨i, hi, hn, rfl⟩
theorem box3 (w : World) (x y z : Value) (t : TypeId) : (w.alloc (.cells #[x, y, z] t)).cell? ⟨w.heap.size, 0, none⟩ = some x ∧ (w.alloc (.cells #[x, y, z] t)).cell? ⟨w.heap.size, 1, none⟩ = some y ∧ (w.alloc (.cells #[x, y, z] t)).cell? ⟨w.heap.size, 2, none⟩ = some z := by
  have h := (MapKept.heap_alloc w (.cells #[x, y, z] t)).1
  unfold World.cell?
  rw [h]
  exact ⟨rfl, rfl, rfl⟩
set_option maxHeartbeats 8000000 in
set_option maxRecDepth 100000 in
theorem find_any {w : World} {o : Nat → Nat} {g : SG} (h : StoreAt w o g) {n : Nd} (hn : n.v < 2147483648 ∧ n.a < 2147483648 ∧ n.b < 2147483648) : Calls Try.prog 68 #[.pointer (some ⟨g.s, 0, none⟩), ndV n] w (FindPost w o g n) := by
  have HN := Lib.hid hn
  have H1 := Lib.hid (h.alloc (.cells #[.int .i32 (n.v : Int), .int .i32 (n.a : Int), .int .i32 (n.b : Int)] 63))
  have HK := Lib.hid (keep_alloc (· == 1) w o (.cells #[.int .i32 (n.v : Int), .int .i32 (n.a : Int), .int .i32 (n.b : Int)] 63))
  have HO := Lib.hid (h.new w.heap.size (Nat.le_refl _))
  obtain ⟨y0, y1, y2⟩ := box3 w (.int .i32 (n.v : Int)) (.int .i32 (n.a : Int)) (.int .i32 (n.b : Int)) 63
  have HY := Lib.hid (⟨y0, y1, y2⟩ : _ ∧ _ ∧ _)
  have hs := h.lts
  clear h hn y0 y1 y2
  unfold ndV
  go_enter Try.func68, Try.ntmps68
  go_wp2
  obtain ⟨B, hB⟩ : ∃ B, w.heap.size = B := ⟨_, rfl⟩
  obtain ⟨wa, hwa⟩ : ∃ wa, w.alloc (.cells #[.int .i32 (n.v : Int), .int .i32 (n.a : Int), .int .i32 (n.b : Int)] 63) = wa := ⟨_, rfl⟩
  have HBl := Lib.hid (show B < wa.heap.size from by rw [← hwa, ← hB]; simp)
  rw [hwa] at H1 HK HY
  rw [hB] at HO HY hs
  rw [hwa, hB]
  clear hwa hB
  refine wp_region_T (S := fun w' => w'.heap[B]? = wa.heap[B]?) (tail := fun j => decide (3 ≤ j)) (by kernel_rfl) ?_
  change wpAnyT _ _ _ _ _ _ _ _ _ (World.drew wa)
  have BD := Lib.hid (show (World.drew wa).heap[B]? = wa.heap[B]? from rfl)
  have HD := Lib.hid (show StoreAt (World.drew wa) o g from H1.out.keep (T := fun _ => false) (Keep.grown (grown_drewN wa 1) (by simp) (fun _ _ => rfl)) ⟨rfl, rfl, rfl⟩ H1.out.new)
  have HKD := Lib.hid (show Keep (· == 1) w o (World.drew wa) o from HK.out.trans (Keep.grown (grown_drewN wa 1) (by simp) (fun _ _ => rfl)))
  refine tk 0 9 (.pointer (some ⟨g.s, 0, none⟩)) BD.out ?y0 ?_
  case y0 =>
    intro w' hw'
    go_simp
  try simp only [Act.put, List.setIfInBounds_toArray, List.set_cons_zero, List.set_cons_succ]
  refine tk 2 11 (.agg #[.int .i32 (n.v : Int), .int .i32 (n.a : Int), .int .i32 (n.b : Int)]) BD.out ?y2 ?_
  case y2 =>
    intro w' hw'
    obtain ⟨y0, y1, y2⟩ := HY.out
    have z0 := (World.cell?_of_block (a := ⟨B, 0, none⟩) hw').trans y0
    have z1 := (World.cell?_of_block (a := ⟨B, 1, none⟩) hw').trans y1
    have z2 := (World.cell?_of_block (a := ⟨B, 2, none⟩) hw').trans y2
    clear y0 y1 y2
    go_simp
  try simp only [Act.put, List.setIfInBounds_toArray, List.set_cons_zero, List.set_cons_succ]

  refine on 1 (fun K hK => ?_)
  go_simp
  refine (table_any HD.out).mono ?_
  rintro e w1 ⟨mb, o1, rfl, hst, hk⟩
  obtain ⟨-, f, hm, hf⟩ := hst.num mb rfl
  have hfc := hf.cases n
  have hlk := hm.look K63 Try.underlying77 (z21 _) (isK63 HN.out.1 HN.out.2.1 HN.out.2.2)
  have HST := Lib.hid hst
  have HK1 := Lib.hid (HKD.out.trans hk)
  have HF := Lib.hid hfc
  clear hm hf hfc hst
  unfold ndV at hlk
  obtain ⟨x, hx⟩ : ∃ x, (f (.agg #[.int .i32 (n.v : Int), .int .i32 (n.a : Int), .int .i32 (n.b : Int)])).getD (.int .i32 0) = x := ⟨_, rfl⟩
  obtain ⟨y, hy⟩ : ∃ y, (f (.agg #[.int .i32 (n.v : Int), .int .i32 (n.a : Int), .int .i32 (n.b : Int)])).isSome = y := ⟨_, rfl⟩
  rw [hx, hy] at hlk
  have HX := Lib.hid hx
  have HY2 := Lib.hid hy
  refine hK.out _ _ (fun _ => (hk.blk B HBl.out (by rw [HO.out]; rfl)).trans BD.out) ?_
  clear hK K hk hx hy
  try simp only [Act.put, List.setIfInBounds_toArray, List.set_cons_zero, List.set_cons_succ]
  refine on 3 (fun K hK => ?_)
  go_simp
  refine hK.out _ _ (fun h => absurd h (by decide)) ?_
  clear hK K
  try simp only [Act.put, List.setIfInBounds_toArray, List.set_cons_zero, List.set_cons_succ]
  refine tkM 4 8 (.tuple #[x, .bool y]) ?y4 ?_
  case y4 =>
    intro w'
    go_simp
  try simp only [Act.put, List.setIfInBounds_toArray, List.set_cons_zero, List.set_cons_succ]
  refine tkM 5 13 (x) ?y5 ?_
  case y5 =>
    intro w'
    go_simp
  try simp only [Act.put, List.setIfInBounds_toArray, List.set_cons_zero, List.set_cons_succ]
  refine tkM 6 14 (.bool y) ?y6 ?_
  case y6 =>
    intro w'
    go_simp
  try simp only [Act.put, List.setIfInBounds_toArray, List.set_cons_zero, List.set_cons_succ]
  refine tkM 7 6 (x) ?y7 ?_
  case y7 =>
    intro w'
    go_simp
  try simp only [Act.put, List.setIfInBounds_toArray, List.set_cons_zero, List.set_cons_succ]
  refine tkM 8 7 (.bool y) ?y8 ?_
  case y8 =>
    intro w'
    go_simp
  try simp only [Act.put, List.setIfInBounds_toArray, List.set_cons_zero, List.set_cons_succ]
  refine dn ?_
  go_wp2
  go_ret2
  refine ⟨mb, o1, HST.out, HK1.out, ?_⟩
  rcases HF.out with ⟨i, hi, hn, hf⟩ | ⟨hn, hf⟩
  · left
    unfold ndV at hf
    rw [← HX.out, ← HY2.out, hf]
    exact ⟨i, hi, hn, rfl⟩
  · right
    unfold ndV at hf
    rw [← HX.out, ← HY2.out, hf]
    exact ⟨hn, rfl⟩

end Go.Proofs.Ytailpphafoamfaa
namespace Go.Proofs.Ytailpphafoamfaa
open Go Go.RowKit Go.Maps

def ownG (o : Nat → Nat) (b t : Nat) : Nat → Nat := fun k => if k = b then t else o k
theorem ownG_same (o : Nat → Nat) (b t : Nat) : ownG o b t b = t := by simp [ownG]
theorem ownG_other (o : Nat → Nat) {b k : Nat} (t : Nat) (h : k ≠ b) : ownG o b t k = o k := by simp [ownG, h]
theorem cellsN_push (L : List Nd) (n : Nd) : cellsN (L ++ [n]) = cellsN L ++ ndL n := by simp [cellsN]
section
variable {M : List Nd} {w w1 : World} {o : Nat → Nat} {g : SG} {D : DG} {n : Nd} {gg cap : Nat}
/-- A block that is the row's, or new. -/
theorem own_old {v : Value} {t k t' : Nat} (horow : ∀ k, v.ownBlock = some k → o k = t) (hl : v.ownBlock = some gg ∨ w.heap.size ≤ gg) (hk : k < w.heap.size) (ho : o k = t') (hne : t' ≠ t) : ownG o gg t k = t' := by
  rw [ownG_other, ho]
  rintro rfl
  rcases hl with hl | hl
  · exact hne (by rw [← ho, horow k hl])
  · omega
theorem own_keep {v : Value} {t k : Nat} (horow : ∀ k, v.ownBlock = some k → o k = t) (hl : v.ownBlock = some gg ∨ w.heap.size ≤ gg) (hk : k < w.heap.size) : ownG o gg t k = o k := by
  by_cases e : k = gg
  · subst e
    rcases hl with hl | hl
    · rw [ownG_same, horow k hl]
    · omega
  · exact ownG_other _ _ e
theorem StoreM.grow (h : StoreM M w o g) (hrow : w1.ownsRow 0 63 3 (.slice (some ⟨gg, 0, none⟩) (g.ns.length + 1) cap) (g.ns.length + 1) (cellsN g.ns ++ ndL n)) (hg : w.grownBy w1 g.val.ownBlock) (hl : g.val.ownBlock = some gg ∨ w.heap.size ≤ gg) (hlt : gg < w1.heap.size) (wf' : WF g.V (g.ns ++ [n])) (hroom : g.ns.length < g.room) :
    StoreM M (w1.setCell ⟨g.s, 2, none⟩ (.slice (some ⟨gg, 0, none⟩) (g.ns.length + 1) cap)) (ownG o gg 2) { g with ns := g.ns ++ [n], val := .slice (some ⟨gg, 0, none⟩) (g.ns.length + 1) cap } ∧
    Keep (fun t => t == 1 || t == 2) w o (w1.setCell ⟨g.s, 2, none⟩ (.slice (some ⟨gg, 0, none⟩) (g.ns.length + 1) cap)) (ownG o gg 2) := by
  have hg2 := grown_set w1 ⟨g.s, 2, none⟩ (.slice (some ⟨gg, 0, none⟩) (g.ns.length + 1) cap)
  have ne : ∀ {k t' : Nat}, o k = t' → t' ≠ 2 → some k ≠ g.val.ownBlock := fun {k t'} ho hne e => hne (by rw [← ho, h.orow k e.symm])
  have hs1 : w1.heap[g.s]? = some (.cells (sCells g) 82 (0, 0)) := (hg.block g.s h.lts (ne h.os (by decide))).trans h.cells
  have ks : ∀ {k t' : Nat}, k < w.heap.size → o k = t' → t' ≠ 1 → t' ≠ 2 → (w1.setCell ⟨g.s, 2, none⟩ (.slice (some ⟨gg, 0, none⟩) (g.ns.length + 1) cap)).heap[k]? = w.heap[k]? := fun {k t'} hk ho h1 h2 =>
    (hg2.block k (Nat.lt_of_lt_of_le hk hg.size) (fun e => h1 (by cases e; rw [← ho, h.os]))).trans (hg.block k hk (ne ho h2))
  have hne : gg ≠ g.s := by
    rintro rfl
    rcases hl with hl | hl
    · have := h.orow _ hl; rw [h.os] at this; cases this
    · have := h.lts; omega
  refine ⟨⟨?_, own_old h.orow hl h.lts h.os (by decide), ?_, fun k hk => ?_, h.num0, fun b hb => ?_, wf', ⟨h.bd.1, h.bd.2.1, ?_⟩, fun k hk => ?_⟩, ⟨hg2.os.trans hg.os, hg2.tape.trans hg.tape, hg2.output.trans hg.output, Nat.le_trans hg.size hg2.size, fun k hk => own_keep h.orow hl hk, fun k hk h0 => ?_⟩⟩
  · rw [heap_set _ hs1]
    rfl
  · show World.ownsRow _ 0 63 3 _ (g.ns ++ [n]).length (cellsN (g.ns ++ [n]))
    rw [List.length_append, List.length_singleton, cellsN_push]
    exact row_move hrow fun k hk => hg2.block k (by cases hk; exact hlt) (by cases hk; simp [hne])
  · cases hk
    exact ownG_same _ _ _
  · obtain ⟨h1, f, h2, h3⟩ := h.num b hb
    exact ⟨own_old h.orow hl h2.lt h1 (by decide), f, h2.move (ks h2.lt h1 (by decide) (by decide)), h3⟩
  · simp only [List.length_append, List.length_singleton]; omega
  · have h1 := hg.size
    have h2 := hg2.size
    rw [ownG_other _ _ (by omega)]
    exact h.new k (by omega)
  · simp only [Bool.or_eq_false_iff, beq_eq_false_iff_ne] at h0
    exact ks hk rfl h0.1 h0.2
theorem DraftAt.grow (h : DraftAt w o g D) (hS : StoreM M w o g) (hrow : w1.ownsRow 0 63 3 (.slice (some ⟨gg, 0, none⟩) (D.ds.length + 1) cap) (D.ds.length + 1) (cellsN D.ds ++ ndL n)) (hg : w.grownBy w1 D.val.ownBlock) (hl : D.val.ownBlock = some gg ∨ w.heap.size ≤ gg) (hlt : gg < w1.heap.size) :
    (w1.setCell ⟨D.d, 2, none⟩ (.slice (some ⟨gg, 0, none⟩) (D.ds.length + 1) cap)).heap[D.d]? = some (.cells (dCells g { D with ds := D.ds ++ [n], val := .slice (some ⟨gg, 0, none⟩) (D.ds.length + 1) cap }) 114 (0, 0)) ∧
    (w1.setCell ⟨D.d, 2, none⟩ (.slice (some ⟨gg, 0, none⟩) (D.ds.length + 1) cap)).ownsRow 0 63 3 (.slice (some ⟨gg, 0, none⟩) (D.ds.length + 1) cap) (D.ds ++ [n]).length (cellsN (D.ds ++ [n])) ∧
    Keep (fun t => t == 4 || t == 5) w o (w1.setCell ⟨D.d, 2, none⟩ (.slice (some ⟨gg, 0, none⟩) (D.ds.length + 1) cap)) (ownG o gg 5) ∧
    ∀ k, (w1.setCell ⟨D.d, 2, none⟩ (.slice (some ⟨gg, 0, none⟩) (D.ds.length + 1) cap)).heap.size ≤ k → ownG o gg 5 k = 0 := by
  have hg2 := grown_set w1 ⟨D.d, 2, none⟩ (.slice (some ⟨gg, 0, none⟩) (D.ds.length + 1) cap)
  have ne : ∀ {k t' : Nat}, o k = t' → t' ≠ 5 → some k ≠ D.val.ownBlock := fun {k t'} ho hne e => hne (by rw [← ho, h.orow k e.symm])
  have hs1 : w1.heap[D.d]? = some (.cells (dCells g D) 114 (0, 0)) := (hg.block D.d h.ltd (ne h.od (by decide))).trans h.cells
  have ks : ∀ {k t' : Nat}, k < w.heap.size → o k = t' → t' ≠ 4 → t' ≠ 5 → (w1.setCell ⟨D.d, 2, none⟩ (.slice (some ⟨gg, 0, none⟩) (D.ds.length + 1) cap)).heap[k]? = w.heap[k]? := fun {k t'} hk ho h1 h2 =>
    (hg2.block k (Nat.lt_of_lt_of_le hk hg.size) (fun e => h1 (by cases e; rw [← ho, h.od]))).trans (hg.block k hk (ne ho h2))
  have hne : gg ≠ D.d := by
    rintro rfl
    rcases hl with hl | hl
    · have := h.orow _ hl; rw [h.od] at this; cases this
    · have := h.ltd; omega
  refine ⟨?_, ?_, ⟨hg2.os.trans hg.os, hg2.tape.trans hg.tape, hg2.output.trans hg.output, Nat.le_trans hg.size hg2.size, fun k hk => own_keep h.orow hl hk, fun k hk h0 => ?_⟩, fun k hk => ?_⟩
  · rw [heap_set _ hs1]
    rfl
  · rw [List.length_append, List.length_singleton, cellsN_push]
    exact row_move hrow fun k hk => hg2.block k (by cases hk; exact hlt) (by cases hk; simp [hne])
  · simp only [Bool.or_eq_false_iff, beq_eq_false_iff_ne] at h0
    exact ks hk rfl h0.1 h0.2
  · have h1 := hg.size
    have h2 := hg2.size
    rw [ownG_other _ _ (by omega)]
    exact hS.new k (by omega)
end
/-- A number more in a map. -/
theorem NumOk.push {f : Value → Option Value} {lo : Nat} {L : List Nd} (h : NumOk f lo L) (n : Nd) (hlo : lo ≤ L.length) (hnew : ∀ i, lo ≤ i → L[i]? ≠ some n) : NumOk (updV f (ndV n) (i32 L.length)) lo (L ++ [n]) := by
  refine ⟨fun i n' hi hn => ?_, fun v x hv => ?_⟩
  · by_cases hl : i < L.length
    · rw [List.getElem?_append_left hl] at hn
      rw [updV_other]
      · exact h.to i n' hi hn
      · intro e
        rw [ndV_inj e] at hn
        exact hnew i hi hn
    · have hle := (List.getElem?_eq_some_iff.1 hn).1
      simp at hle
      obtain rfl : i = L.length := by omega
      simp at hn
      subst hn
      exact updV_same _ _ _
  · by_cases e : v = ndV n
    · subst e
      rw [updV_same] at hv
      cases hv
      exact ⟨L.length, n, hlo, by simp, rfl, rfl⟩
    · rw [updV_other _ _ e] at hv
      obtain ⟨i, n', hi, hn, h1, h2⟩ := h.from_ v x hv
      exact ⟨i, n', hi, by rw [List.getElem?_append_left (List.getElem?_eq_some_iff.1 hn).1]; exact hn, h1, h2⟩
end Go.Proofs.Ytailpphafoamfaa
namespace Go.Proofs.Ytailpphafoamfaa
open Go Go.RowKit Go.Maps


theorem info63 : (Try.prog.info? 63).map (fun i => (i.zero, i.size, i.bytes)) = some (some (.agg #[.int .i32 0, .int .i32 0, .int .i32 0]), 3, 12) := by kernel_rfl
section
variable {M M' : List Nd} {w w' : World} {o : Nat → Nat} {g : SG} {D : DG}
theorem keep_drew (T : Nat → Bool) (w : World) (o : Nat → Nat) : Keep T w o (World.drew w) o := Keep.grown (grown_drewN w 1) (by simp) (fun _ _ => rfl)
theorem StoreM.drew (h : StoreM M w o g) : StoreM M (World.drew w) o g := h.keep (T := fun _ => false) (keep_drew _ w o) ⟨rfl, rfl, rfl⟩ h.new
theorem DraftAt.drew (h : DraftAt w o g D) : DraftAt (World.drew w) o g D := h.keep (T := fun _ => false) (keep_drew _ w o) ⟨rfl, rfl, rfl⟩
theorem DraftAt.alloc (h : DraftAt w o g D) (x : Obj) : DraftAt (w.alloc x) o g D := h.keep (T := fun _ => false) (keep_alloc _ w o x) ⟨rfl, rfl, rfl⟩
theorem StoreM.mapped (h : StoreM M w o g) {mb : Nat} {f : Value → Option Value} (hn : g.num = some mb) (hm : MapIs 63 w' mb f) (hf : NumOk f 2 M') (ht : w.mapTurned w' mb) : StoreM M' w' o g ∧ Keep (· == 3) w o w' o := by
  have hg := ht.grown
  obtain ⟨om, f0, hm0, -⟩ := h.num mb hn
  have hr : ∀ k, some mb = some k → o k = 3 := fun k e => by cases e; exact om
  have ks : ∀ {k t' : Nat}, k < w.heap.size → o k = t' → t' ≠ 3 → w'.heap[k]? = w.heap[k]? := fun {k t'} hk ho h1 => hg.block k hk (fun e => h1 (by rw [← ho, hr k e.symm]))
  exact ⟨⟨(ks h.lts h.os (by decide)).trans h.cells, h.os, row_move h.row fun b hb => ks (h.row.lt b hb).2 (h.orow b hb) (by decide), h.orow, fun e => (by rw [hn] at e; cases e),
    fun b hb => (by rw [hn] at hb; cases hb; exact ⟨om, f, hm, hf⟩), h.wf, h.bd, fun k hk => h.new k (Nat.le_trans hg.size hk)⟩, Keep.grown hg (fun k e => by rw [hr k e]; rfl) (fun _ _ => rfl)⟩
def PutPost (w : World) (o : Nat → Nat) (g : SG) (n : Nd) (e : Ending) (w' : World) : Prop :=
  ∃ mb o' val, e = .returned (.int .i32 (g.ns.length : Int)) ∧ StoreAt w' o' { g with ns := g.ns ++ [n], val := val, num := some mb } ∧ Keep (fun t => t == 1 || t == 2 || t == 3) w o w' o'
theorem lies63 {v : Value} {gg H : Nat} {w : World} (h : v.ownBlock = some gg ∨ gg = H) (hH : w.heap.size ≤ H) : v.ownBlock = some gg ∨ w.heap.size ≤ gg := by
  rcases h with h | h
  · exact .inl h
  · exact .inr (by omega)
theorem wrap32_id {n : Nat} (h : n < 2147483648) : wrap32 (n : Int) = (n : Int) := by
  unfold wrap32
  omega
set_option maxHeartbeats 8000000 in
set_option maxRecDepth 100000 in
theorem put_any (h : StoreAt w o g) {n : Nd} (wf' : WF g.V (g.ns ++ [n])) (hnew : ∀ i, 2 ≤ i → g.ns[i]? ≠ some n) (hroom : g.ns.length < g.room) (hn : n.v < 2147483648 ∧ n.a < 2147483648 ∧ n.b < 2147483648) : Calls Try.prog 62 #[.pointer (some ⟨g.s, 0, none⟩), ndV n] w (PutPost w o g n) := by
  obtain ⟨i0, hi, hz0, hz1, hz2⟩ := info_parts info63
  have HN := Lib.hid hn
  have HW := Lib.hid wf'
  have HNEW := Lib.hid hnew
  have HROOM := Lib.hid hroom
  have hbd := h.bd
  have h2 := h.wf.two
  have HBD := Lib.hid (show g.ns.length + 1 ≤ maxLen ∧ (g.ns.length + 1) * 12 ≤ 140737488355328 ∧ 2 ≤ g.ns.length by unfold maxLen; omega)
  have HWR := Lib.hid (wrap32_id (n := g.ns.length) (by omega))
  have H1 := Lib.hid (h.alloc (.cells #[.int .i32 (n.v : Int), .int .i32 (n.a : Int), .int .i32 (n.b : Int)] 63))
  have HK := Lib.hid (keep_alloc (fun t => t == 1 || t == 2 || t == 3) w o (.cells #[.int .i32 (n.v : Int), .int .i32 (n.a : Int), .int .i32 (n.b : Int)] 63))
  have HO := Lib.hid (h.new w.heap.size (Nat.le_refl _))
  obtain ⟨y0, y1, y2⟩ := box3 w (.int .i32 (n.v : Int)) (.int .i32 (n.a : Int)) (.int .i32 (n.b : Int)) 63
  have HY := Lib.hid (⟨y0, y1, y2⟩ : _ ∧ _ ∧ _)
  obtain ⟨A, c, hv⟩ : ∃ A c, g.val = .slice A g.ns.length c := by
    obtain ⟨-, h1⟩ := h.row
    rcases h1 with ⟨h1, h3⟩ | ⟨gx, cap, cur, h1, -⟩
    · exact ⟨none, 0, by rw [h1, h3]⟩
    · exact ⟨_, _, h1⟩
  have HV := Lib.hid hv
  have hs := h.lts
  have c2 := H1.out.cell2
  rw [hv] at c2
  clear h hn y0 y1 y2 wf' hnew hroom hbd h2 hv
  unfold ndV
  go_enter Try.func62, Try.ntmps62
  go_wp2
  rw [HWR.out]
  obtain ⟨B, hB⟩ : ∃ B, w.heap.size = B := ⟨_, rfl⟩
  obtain ⟨wa, hwa⟩ : ∃ wa, w.alloc (.cells #[.int .i32 (n.v : Int), .int .i32 (n.a : Int), .int .i32 (n.b : Int)] 63) = wa := ⟨_, rfl⟩
  have HBl := Lib.hid (show B < wa.heap.size from by rw [← hwa, ← hB]; simp)
  rw [hwa] at H1 HK HY c2
  rw [hB] at HO HY hs
  rw [hwa, hB]
  clear hwa hB
  refine wp_region_T (S := fun w' => ∀ k ∈ [g.s, B], w'.heap[k]? = wa.heap[k]?) (tail := fun j => decide (10 ≤ j)) (by kernel_rfl) ?_
  change wpAnyT _ _ _ _ _ _ _ _ _ (World.drew wa)
  have BD := Lib.hid (show ∀ k ∈ [g.s, B], (World.drew wa).heap[k]? = wa.heap[k]? from fun _ _ => rfl)
  refine tk 0 12 (.pointer (some ⟨g.s, 0, none⟩)) BD.out ?y0 ?_
  case y0 =>
    intro w' hw'
    go_simp
  try simp only [Act.put, List.setIfInBounds_toArray, List.set_cons_zero, List.set_cons_succ]
  refine tk 1 13 (.pointer (some ⟨g.s, 0, none⟩)) BD.out ?y1 ?_
  case y1 =>
    intro w' hw'
    go_simp
  try simp only [Act.put, List.setIfInBounds_toArray, List.set_cons_zero, List.set_cons_succ]
  refine tk 2 14 (.pointer (some ⟨g.s, 0, none⟩)) BD.out ?y2 ?_
  case y2 =>
    intro w' hw'
    go_simp
  try simp only [Act.put, List.setIfInBounds_toArray, List.set_cons_zero, List.set_cons_succ]
  refine tk 3 15 (.pointer (some ⟨g.s, 2, none⟩)) BD.out ?y3 ?_
  case y3 =>
    intro w' hw'
    go_simp
  try simp only [Act.put, List.setIfInBounds_toArray, List.set_cons_zero, List.set_cons_succ]
  refine tk 4 16 (.slice A g.ns.length c) BD.out ?y4 ?_
  case y4 =>
    intro w' hw'
    have y0 := (World.cell?_of_block (a := ⟨g.s, 2, none⟩) (hw' _ (by simp))).trans c2
    go_simp
  try simp only [Act.put, List.setIfInBounds_toArray, List.set_cons_zero, List.set_cons_succ]
  refine tk 5 17 (.agg #[.int .i32 (n.v : Int), .int .i32 (n.a : Int), .int .i32 (n.b : Int)]) BD.out ?y5 ?_
  case y5 =>
    intro w' hw'
    obtain ⟨y0, y1, y2⟩ := HY.out
    have z0 := (World.cell?_of_block (a := ⟨B, 0, none⟩) (hw' B (by simp))).trans y0
    have z1 := (World.cell?_of_block (a := ⟨B, 1, none⟩) (hw' B (by simp))).trans y1
    have z2 := (World.cell?_of_block (a := ⟨B, 2, none⟩) (hw' B (by simp))).trans y2
    clear y0 y1 y2
    go_simp
  try simp only [Act.put, List.setIfInBounds_toArray, List.set_cons_zero, List.set_cons_succ]
  have HD := Lib.hid H1.out.drew
  have HKD := Lib.hid (HK.out.trans (keep_drew _ wa o))
  have HBW := Lib.hid (show B < (World.drew wa).heap.size from HBl.out)
  have HWZ := Lib.hid (show (World.drew wa).heap.size = wa.heap.size from rfl)
  generalize World.drew wa = wd at *
  refine on 6 (fun K hK => ?_)
  go_simp
  have BA := Lib.hid (show ∀ k ∈ [g.s, B], (wd.alloc (.cells #[.int .i32 (n.v : Int), .int .i32 (n.a : Int), .int .i32 (n.b : Int)] 63)).heap[k]? = wa.heap[k]? from fun k hk => (heap_alloc_old (by
    have h1 := HD.out.lts
    have h2 := HBW.out
    simp at hk
    rcases hk with rfl | rfl <;> assumption)).trans (BD.out k hk))
  refine hK.out _ _ (fun _ => BA.out) ?_
  clear hK K
  try simp only [Act.put, List.setIfInBounds_toArray, List.set_cons_zero, List.set_cons_succ]
  have HA := Lib.hid (HD.out.alloc (.cells #[.int .i32 (n.v : Int), .int .i32 (n.a : Int), .int .i32 (n.b : Int)] 63))
  have HKA := Lib.hid (HKD.out.trans (keep_alloc _ wd o (.cells #[.int .i32 (n.v : Int), .int .i32 (n.a : Int), .int .i32 (n.b : Int)] 63)))
  refine on 7 (fun K hK => ?_)
  refine wp_append_lies (wd.alloc (.cells #[.int .i32 (n.v : Int), .int .i32 (n.a : Int), .int .i32 (n.b : Int)] 63)) (.tmp 16) (.tmp 18) 64 rfl 0 63 i0 (.agg #[.int .i32 0, .int .i32 0, .int .i32 0]) 3 12 Try.underlying64 hi hz0 hz1 hz2 rfl (by decide) g.val g.ns.length (cellsN g.ns) (HV.out.symm) HA.out.row ⟨wd.heap.size, 0, none⟩ 1 1 [.int .i32 (n.v : Int), .int .i32 (n.a : Int), .int .i32 (n.b : Int)] rfl rfl (World.news_of_block (cs := #[.int .i32 (n.v : Int), .int .i32 (n.a : Int), .int .i32 (n.b : Int)]) (t := 63) (fr := (0, 0)) (MapKept.heap_alloc wd _).1) (by simp [Value.oneCell']) (by decide) HBD.out.1 HBD.out.2.1 (Nat.zero_le _) _ rfl ?_
  intro gg cap w2 hown2 hgrow2 hloc2 hlt2
  have HGR := Lib.hid (HA.out.grow (n := n) hown2 hgrow2 (lies63 hloc2 (Nat.le_refl _)) hlt2 HW.out HROOM.out)
  have B2 := Lib.hid (show ∀ k ∈ [g.s, B], w2.heap[k]? = wa.heap[k]? from fun k hk => (hgrow2.block k (by
    have h1 := HD.out.lts
    have h2 := HBW.out
    simp at hk ⊢
    rcases hk with rfl | rfl <;> omega) (fun e => by
    have h1 := HA.out.orow k e.symm
    have h2 := HO.out
    have h3 := HA.out.os
    simp at hk
    rcases hk with rfl | rfl <;> omega)).trans (BA.out k hk))
  have fr2 : w2.frozen? ⟨g.s, 2, none⟩ = false := (World.frozen?_of_block (a := ⟨g.s, 2, none⟩) (B2.out g.s (by simp))).trans (H1.out.frz 2)
  have cc2 := (World.cell?_of_block (a := ⟨g.s, 2, none⟩) (B2.out g.s (by simp))).trans c2
  clear hown2 hgrow2 hloc2 hlt2
  refine hK.out _ _ (fun _ => B2.out) ?_
  clear hK K
  try simp only [Act.put, List.setIfInBounds_toArray, List.set_cons_zero, List.set_cons_succ]
  refine tk 8 20 (.pointer (some ⟨g.s, 0, none⟩)) B2.out ?y8 ?_
  case y8 =>
    intro w' hw'
    go_simp
  try simp only [Act.put, List.setIfInBounds_toArray, List.set_cons_zero, List.set_cons_succ]
  refine tk 9 21 (.pointer (some ⟨g.s, 2, none⟩)) B2.out ?y9 ?_
  case y9 =>
    intro w' hw'
    go_simp
  try simp only [Act.put, List.setIfInBounds_toArray, List.set_cons_zero, List.set_cons_succ]
  refine on 10 (fun K hK => ?_)
  go_simp
  refine hK.out _ _ (fun h => absurd h (by decide)) ?_
  clear hK K
  try simp only [Act.put, List.setIfInBounds_toArray, List.set_cons_zero, List.set_cons_succ]
  refine dn ?_
  obtain ⟨hs3, hk3⟩ := HGR.out
  obtain ⟨w3, hw3⟩ : ∃ w3, w2.setCell ⟨g.s, 2, none⟩ (.slice (some ⟨gg, 0, none⟩) (g.ns.length + 1) cap) = w3 := ⟨_, rfl⟩
  rw [hw3] at hs3 hk3 ⊢
  have HS3 := Lib.hid hs3
  have HK3 := Lib.hid (HKA.out.trans (hk3.more (fun t ht => by simp at ht ⊢; exact ht.1)))
  have HY3 := Lib.hid (show w3.heap[B]? = wa.heap[B]? from by
    rw [← hw3]
    rw [Below.heap_setCell _ _ _ _ (by
      have := HO.out
      have h3 := HA.out.os
      intro e
      simp only at e
      rw [e] at this
      omega)]
    exact B2.out B (by simp))
  have HB3 := Lib.hid (show B < w3.heap.size from Nat.lt_of_lt_of_le HBl.out (by
    have h1 := hk3.size
    have h2 := HKA.out.size
    have h4 : wd.heap.size = wa.heap.size := HWZ.out
    simp at h1
    omega))
  have HO3 := Lib.hid (show ownG o gg 2 B = 0 from by
    rw [hk3.own B (by simp; have := HBW.out; omega)]
    exact HO.out)
  clear hs3 hk3 hw3 HGR cc2 fr2 B2 BA c2 BD
  go_wp2
  refine wp_region_T (S := fun w' => ∀ k ∈ [B], w'.heap[k]? = w3.heap[k]?) (tail := fun j => decide (4 ≤ j)) (by kernel_rfl) ?_
  change wpAnyT _ _ _ _ _ _ _ _ _ (World.drew w3)
  have BD := Lib.hid (show ∀ k ∈ [B], (World.drew w3).heap[k]? = w3.heap[k]? from fun _ _ => rfl)
  have HD3 := Lib.hid HS3.out.drew
  have HKD3 := Lib.hid (HK3.out.trans (keep_drew _ w3 _))
  refine tk 0 22 (.pointer (some ⟨g.s, 0, none⟩)) BD.out ?y0 ?_
  case y0 =>
    intro w' hw'
    go_simp
  try simp only [Act.put, List.setIfInBounds_toArray, List.set_cons_zero, List.set_cons_succ]
  refine tk 2 24 (.agg #[.int .i32 (n.v : Int), .int .i32 (n.a : Int), .int .i32 (n.b : Int)]) BD.out ?y2 ?_
  case y2 =>
    intro w' hw'
    obtain ⟨y0, y1, y2⟩ := HY.out
    have e3 := (hw' B (by simp)).trans HY3.out
    have z0 := (World.cell?_of_block (a := ⟨B, 0, none⟩) e3).trans y0
    have z1 := (World.cell?_of_block (a := ⟨B, 1, none⟩) e3).trans y1
    have z2 := (World.cell?_of_block (a := ⟨B, 2, none⟩) e3).trans y2
    clear y0 y1 y2 e3
    go_simp
  try simp only [Act.put, List.setIfInBounds_toArray, List.set_cons_zero, List.set_cons_succ]
  refine tk 3 25 (.int .i32 (g.ns.length : Int)) BD.out ?y3 ?_
  case y3 =>
    intro w' hw'
    go_simp
  try simp only [Act.put, List.setIfInBounds_toArray, List.set_cons_zero, List.set_cons_succ]
  refine on 1 (fun K hK => ?_)
  go_simp
  refine (table_any HD3.out).mono ?_
  rintro e w4 ⟨mb, o4, rfl, hst, hk⟩
  have HST := Lib.hid hst
  have HK4 := Lib.hid (HKD3.out.trans (hk.more (fun t ht => by simp at ht ⊢; exact ht.1.1)))
  refine hK.out _ _ (fun _ k hk2 => (by
    obtain rfl : k = B := by simpa using hk2
    exact (hk.blk k HB3.out (by rw [HO3.out]; rfl)).trans (BD.out k (by simp)))) ?_
  clear hK K hk hst
  try simp only [Act.put, List.setIfInBounds_toArray, List.set_cons_zero, List.set_cons_succ]
  obtain ⟨hom, f, hm, hf⟩ := HST.out.num mb rfl
  obtain ⟨w5, hrun, hm5, ht5⟩ := hm.store K63 Try.underlying77 (isK63 HN.out.1 HN.out.2.1 HN.out.2.2) (.int .i32 (g.ns.length : Int))
  unfold ndV at hrun
  obtain ⟨hs5, hk5⟩ := HST.out.mapped rfl hm5 (hf.push n HBD.out.2.2 HNEW.out) ht5
  have HFIN := Lib.hid (show PutPost w o g n (.returned (.int .i32 (g.ns.length : Int))) w5 from ⟨mb, o4, _, rfl, hs5, HK4.out.trans (hk5.more (fun t ht => by simp at ht ⊢; exact ht.2))⟩)
  clear hm hf hm5 ht5 hs5 hk5 hom
  refine on 4 (fun K hK => ?_)
  go_simp
  refine hK.out _ _ (fun h => absurd h (by decide)) ?_
  clear hK K
  try simp only [Act.put, List.setIfInBounds_toArray, List.set_cons_zero, List.set_cons_succ]
  refine dn ?_
  go_wp2
  go_ret
  exact HFIN.out
end

end Go.Proofs.Ytailpphafoamfaa
namespace Go.Proofs.Ytailpphafoamfaa
open Go Go.RowKit Go.Maps


section
variable {M : List Nd} {w w' : World} {o : Nat → Nat} {g : SG} {D : DG}
def DraftPost (w : World) (o : Nat → Nat) (g : SG) (e : Ending) (w' : World) : Prop :=
  ∃ d dm o', e = .returned (.pointer (some ⟨d, 0, none⟩)) ∧ StoreAt w' o' g ∧ DraftAt w' o' g ⟨d, [], .slice none 0 0, dm, max 65536 (g.room - g.ns.length), false⟩ ∧ Keep (fun _ => false) w o w' o'
theorem draft_new (h : StoreAt w o g) (x : DG) (hx : x = ⟨w.heap.size + 1, [], .slice none 0 0, w.heap.size, max 65536 (g.room - g.ns.length), false⟩) : DraftPost w o g (.returned (.pointer (some ⟨w.heap.size + 1, 0, none⟩))) ((w.alloc (.map #[] 0)).alloc (.cells (dCells g x) 114)) := by
  have e1 : (w.alloc (.map #[] 0)).heap.size = w.heap.size + 1 := by simp
  have e2 : ((w.alloc (.map #[] 0)).alloc (.cells (dCells g x) 114)).heap.size = w.heap.size + 2 := by simp
  have hk : Keep (fun _ => false) w o ((w.alloc (.map #[] 0)).alloc (.cells (dCells g x) 114)) (ownG (ownG o w.heap.size 6) (w.heap.size + 1) 4) :=
    Keep.grown (grown_trans (grown_alloc _ _) (grown_alloc _ _)) (by simp) (fun k hk => by rw [ownG_other _ _ (by omega), ownG_other _ _ (by omega)])
  have hnew : ∀ b, w.heap.size + 2 ≤ b → ownG (ownG o w.heap.size 6) (w.heap.size + 1) 4 b = 0 := fun b hb => by
    rw [ownG_other _ _ (by omega), ownG_other _ _ (by omega)]
    exact h.new b (by omega)
  have h0 : ((w.alloc (.map #[] 0)).alloc (.cells (dCells g x) 114)).heap[w.heap.size]? = some (.map #[] 0) := (heap_alloc_old (by omega)).trans (MapKept.heap_alloc w _).1
  have hd : ((w.alloc (.map #[] 0)).alloc (.cells (dCells g x) 114)).heap[w.heap.size + 1]? = some (.cells (dCells g x) 114 (0, 0)) := by
    have := (MapKept.heap_alloc (w.alloc (.map #[] 0)) (.cells (dCells g x) 114)).1
    rw [e1] at this
    exact this
  have hbd := h.bd
  have h2 := h.wf.two
  refine ⟨w.heap.size + 1, w.heap.size, _, rfl, h.keep hk ⟨rfl, rfl, rfl⟩ (fun b hb => hnew b (by omega)), ?_, hk⟩
  subst hx
  exact
  { cells := hd
    od := ownG_same _ _ _
    row := World.ownsRow_nil _ _ _ _
    orow := fun k hk => by cases hk
    om := by rw [ownG_other _ _ (by simp), ownG_same]
    map := ⟨fun _ => none, ⟨#[], 0, h0, by simp, by simp, by simp, by simp⟩, ⟨fun i n hi hn => by
      simp only [List.append_nil] at hn
      have := (List.getElem?_eq_some_iff.1 hn).1
      omega, fun v x e => by cases e⟩⟩
    wf := by simp only [List.append_nil]; exact h.wf
    most := ⟨by simp, by simp; omega⟩
    fl := fun e => by cases e }
theorem ite_max {a : Nat} (n : Nat) (h : n ≤ a) : (if (65536 : Int) < ((a : Int) - (n : Int)) then ((a : Int) - (n : Int)) else 65536) = ((max 65536 (a - n) : Nat) : Int) := by
  split <;> omega
set_option maxHeartbeats 8000000 in
set_option maxRecDepth 100000 in
theorem draft_any (h : StoreAt w o g) : Calls Try.prog 47 #[.pointer (some ⟨g.s, 0, none⟩)] w (DraftPost w o g) := by
  have hmm := @run_makeMap Try.prog
  have HD := Lib.hid (draft_new h.drew _ rfl)
  have c1 := h.cell1
  have c2 := h.cell2
  obtain ⟨A, c, hv⟩ : ∃ A c, g.val = .slice A g.ns.length c := by
    obtain ⟨-, h1⟩ := h.row
    rcases h1 with ⟨h1, h3⟩ | ⟨gx, cap, cur, h1, -⟩
    · exact ⟨none, 0, by rw [h1, h3]⟩
    · exact ⟨_, _, h1⟩
  rw [hv] at c2
  have hbd := h.bd
  have HB := Lib.hid hbd
  have HWR := Lib.hid (wrap32_id (n := g.ns.length) (by omega))
  have HWR6 := Lib.hid (IntWalk.i32_in (g.ns.length : Int) (by omega))
  have HW17 := Lib.hid (IntWalk.i64_in ((g.room : Int) - (g.ns.length : Int)) (by omega))
  have HRM : (g.ns.length : Int) ≤ (g.room : Int) ∧ (g.room : Int) ≤ 16777216 := by omega
  obtain ⟨hr1, hr2⟩ := HRM
  have hlts := h.lts
  clear h hv hbd
  go_enter Try.func47, Try.ntmps47
  go_wp2
  refine wp_region_T (S := fun w' => ∀ k ∈ [g.s], w'.heap[k]? = w.heap[k]?) (tail := fun j => decide (19 ≤ j)) (by kernel_rfl) ?_
  change wpAnyT _ _ _ _ _ _ _ _ _ (World.drew w)
  have BD := Lib.hid (show ∀ k ∈ [g.s], (World.drew w).heap[k]? = w.heap[k]? from fun _ _ => rfl)
  refine tk 0 3 (.pointer (some ⟨g.s, 0, none⟩)) BD.out ?y0 ?_
  case y0 =>
    intro w' hw'
    go_simp
  try simp only [Act.put, List.setIfInBounds_toArray, List.set_cons_zero, List.set_cons_succ]
  refine tk 1 4 (.pointer (some ⟨g.s, 0, none⟩)) BD.out ?y1 ?_
  case y1 =>
    intro w' hw'
    go_simp
  try simp only [Act.put, List.setIfInBounds_toArray, List.set_cons_zero, List.set_cons_succ]
  refine tk 2 5 (.pointer (some ⟨g.s, 0, none⟩)) BD.out ?y2 ?_
  case y2 =>
    intro w' hw'
    go_simp
  try simp only [Act.put, List.setIfInBounds_toArray, List.set_cons_zero, List.set_cons_succ]
  refine tk 3 6 (.pointer (some ⟨g.s, 2, none⟩)) BD.out ?y3 ?_
  case y3 =>
    intro w' hw'
    go_simp
  try simp only [Act.put, List.setIfInBounds_toArray, List.set_cons_zero, List.set_cons_succ]
  refine tk 4 7 (.slice A g.ns.length c) BD.out ?y4 ?_
  case y4 =>
    intro w' hw'
    have y0 := (World.cell?_of_block (a := ⟨g.s, 2, none⟩) (hw' _ (by simp))).trans c2
    go_simp
  try simp only [Act.put, List.setIfInBounds_toArray, List.set_cons_zero, List.set_cons_succ]
  refine tk 5 8 (.int .i64 ((g.ns.length : Nat) : Int)) BD.out ?y5 ?_
  case y5 =>
    intro w' hw'
    go_simp
  try simp only [Act.put, List.setIfInBounds_toArray, List.set_cons_zero, List.set_cons_succ]
  refine tk 6 9 (.int .i32 ((g.ns.length : Nat) : Int)) BD.out ?y6 ?_
  case y6 =>
    intro w' hw'
    go_simp
    exact HWR6.out
  try simp only [Act.put, List.setIfInBounds_toArray, List.set_cons_zero, List.set_cons_succ]
  refine tk 8 11 (.pointer (some ⟨g.s, 0, none⟩)) BD.out ?y8 ?_
  case y8 =>
    intro w' hw'
    go_simp
  try simp only [Act.put, List.setIfInBounds_toArray, List.set_cons_zero, List.set_cons_succ]
  refine tk 9 12 (.pointer (some ⟨g.s, 0, none⟩)) BD.out ?y9 ?_
  case y9 =>
    intro w' hw'
    go_simp
  try simp only [Act.put, List.setIfInBounds_toArray, List.set_cons_zero, List.set_cons_succ]
  refine tk 10 13 (.pointer (some ⟨g.s, 1, none⟩)) BD.out ?y10 ?_
  case y10 =>
    intro w' hw'
    go_simp
  try simp only [Act.put, List.setIfInBounds_toArray, List.set_cons_zero, List.set_cons_succ]
  refine tk 11 14 (.int .i64 ((g.room : Nat) : Int)) BD.out ?y11 ?_
  case y11 =>
    intro w' hw'
    have y0 := (World.cell?_of_block (a := ⟨g.s, 1, none⟩) (hw' _ (by simp))).trans c1
    go_simp
  try simp only [Act.put, List.setIfInBounds_toArray, List.set_cons_zero, List.set_cons_succ]
  refine tk 12 15 (.pointer (some ⟨g.s, 0, none⟩)) BD.out ?y12 ?_
  case y12 =>
    intro w' hw'
    go_simp
  try simp only [Act.put, List.setIfInBounds_toArray, List.set_cons_zero, List.set_cons_succ]
  refine tk 13 16 (.pointer (some ⟨g.s, 0, none⟩)) BD.out ?y13 ?_
  case y13 =>
    intro w' hw'
    go_simp
  try simp only [Act.put, List.setIfInBounds_toArray, List.set_cons_zero, List.set_cons_succ]
  refine tk 14 17 (.pointer (some ⟨g.s, 2, none⟩)) BD.out ?y14 ?_
  case y14 =>
    intro w' hw'
    go_simp
  try simp only [Act.put, List.setIfInBounds_toArray, List.set_cons_zero, List.set_cons_succ]
  refine tk 15 18 (.slice A g.ns.length c) BD.out ?y15 ?_
  case y15 =>
    intro w' hw'
    have y0 := (World.cell?_of_block (a := ⟨g.s, 2, none⟩) (hw' _ (by simp))).trans c2
    go_simp
  try simp only [Act.put, List.setIfInBounds_toArray, List.set_cons_zero, List.set_cons_succ]
  refine tk 16 19 (.int .i64 ((g.ns.length : Nat) : Int)) BD.out ?y16 ?_
  case y16 =>
    intro w' hw'
    go_simp
  try simp only [Act.put, List.setIfInBounds_toArray, List.set_cons_zero, List.set_cons_succ]
  refine tk 17 20 (.int .i64 (((g.room : Nat) : Int) - ((g.ns.length : Nat) : Int))) BD.out ?y17 ?_
  case y17 =>
    intro w' hw'
    go_simp
    exact HW17.out
  try simp only [Act.put, List.setIfInBounds_toArray, List.set_cons_zero, List.set_cons_succ]
  refine tk 18 21 (.int .i64 ((max 65536 (g.room - g.ns.length) : Nat) : Int)) BD.out ?y18 ?_
  case y18 =>
    intro w' hw'
    go_simp
    exact ite_max _ HB.out.2.2
  try simp only [Act.put, List.setIfInBounds_toArray, List.set_cons_zero, List.set_cons_succ]
  have HKD := Lib.hid (keep_drew (fun _ => false) w o)
  have hlts : g.s < (World.drew w).heap.size := hlts
  generalize World.drew w = wd at *
  refine on 7 (fun K hK => ?_)
  go_simp
  refine hK.out _ _ (fun _ k hk => (heap_alloc_old (by
    simp at hk
    subst hk
    exact hlts)).trans (BD.out k hk)) ?_
  clear hK K
  try simp only [Act.put, List.setIfInBounds_toArray, List.set_cons_zero, List.set_cons_succ]
  refine on 19 (fun K hK => ?_)
  go_simp
  refine hK.out _ _ (fun h => absurd h (by decide)) ?_
  clear hK K
  try simp only [Act.put, List.setIfInBounds_toArray, List.set_cons_zero, List.set_cons_succ]
  refine on 20 (fun K hK => ?_)
  go_simp
  refine hK.out _ _ (fun h => absurd h (by decide)) ?_
  clear hK K
  try simp only [Act.put, List.setIfInBounds_toArray, List.set_cons_zero, List.set_cons_succ]
  refine tkM 21 2 (.pointer (some ⟨wd.heap.size + 1, 0, none⟩)) ?y21 ?_
  case y21 =>
    intro w'
    go_simp
  try simp only [Act.put, List.setIfInBounds_toArray, List.set_cons_zero, List.set_cons_succ]
  refine dn ?_
  go_wp2
  go_ret
  obtain ⟨d, dm, o', he, h1, h2, h3⟩ := HD.out
  exact ⟨d, dm, o', he, h1, h2, HKD.out.trans h3⟩
end

end Go.Proofs.Ytailpphafoamfaa
namespace Go.Proofs.Ytailpphafoamfaa
open Go Go.RowKit Go.Maps


section
variable {M : List Nd} {w w' : World} {o : Nat → Nat} {g : SG} {D : DG}
theorem keep_none (T : Nat → Bool) {w w' : World} (o : Nat → Nat) (h : w.grownBy w' none) : Keep T w o w' o := Keep.grown h (by simp) (fun _ _ => rfl)
theorem StoreM.grown (h : StoreM M w o g) (hg : w.grownBy w' none) : StoreM M w' o g := h.keep (T := fun _ => false) (keep_none _ o hg) ⟨rfl, rfl, rfl⟩ (fun b hb => h.new b (Nat.le_trans hg.size hb))
theorem DraftAt.grown (h : DraftAt w o g D) (hg : w.grownBy w' none) : DraftAt w' o g D := h.keep (T := fun _ => false) (keep_none _ o hg) ⟨rfl, rfl, rfl⟩
theorem row_node {v : Value} {L : List Nd} (h : w.ownsRow 0 63 3 v L.length (cellsN L)) {i : Nat} {n : Nd} (hn : L[i]? = some n) :
    ∃ gx c, v = .slice (some ⟨gx, 0, none⟩) L.length c ∧ w.cell? ⟨gx, i * 3, none⟩ = some (.int .i32 (n.v : Int)) ∧ w.cell? ⟨gx, i * 3 + 1, none⟩ = some (.int .i32 (n.a : Int)) ∧ w.cell? ⟨gx, i * 3 + 2, none⟩ = some (.int .i32 (n.b : Int)) ∧ gx < w.heap.size := by
  have hi := (List.getElem?_eq_some_iff.1 hn).1
  obtain ⟨gx, c, rfl, -, hlt⟩ := h.form (by omega)
  obtain ⟨h1, h2, h3⟩ := cellsN_at hn
  refine ⟨gx, c, rfl, ?_, ?_, ?_, hlt⟩
  · rw [h.cellAt _ (by omega), Nat.mul_comm]; exact h1
  · rw [h.cellAt _ (by omega), Nat.mul_comm]; exact h2
  · rw [h.cellAt _ (by omega), Nat.mul_comm]; exact h3
theorem DraftAt.cell (h : DraftAt w o g D) {i : Nat} {v : Value} (hv : (dCells g D)[i]? = some v) : w.cell? ⟨D.d, i, none⟩ = some v := by
  simp [World.cell?, h.cells, hv]
theorem DraftAt.frz (h : DraftAt w o g D) (i : Nat) : w.frozen? ⟨D.d, i, none⟩ = false := by simp [World.frozen?, h.cells]
theorem DraftAt.c0 (h : DraftAt w o g D) : w.cell? ⟨D.d, 0, none⟩ = some (.pointer (some ⟨g.s, 0, none⟩)) := h.cell rfl
theorem DraftAt.c1 (h : DraftAt w o g D) : w.cell? ⟨D.d, 1, none⟩ = some (.int .i32 (g.ns.length : Int)) := h.cell rfl
theorem DraftAt.c2 (h : DraftAt w o g D) : w.cell? ⟨D.d, 2, none⟩ = some D.val := h.cell rfl
theorem DraftAt.c3 (h : DraftAt w o g D) : w.cell? ⟨D.d, 3, none⟩ = some (.map (some D.dm)) := h.cell rfl
theorem DraftAt.c4 (h : DraftAt w o g D) : w.cell? ⟨D.d, 4, none⟩ = some (.int .i64 (D.most : Int)) := h.cell rfl
theorem DraftAt.c5 (h : DraftAt w o g D) : w.cell? ⟨D.d, 5, none⟩ = some (.bool D.full) := h.cell rfl
def AtPost (w : World) (n : Nd) (e : Ending) (w' : World) : Prop := e = .returned (ndV n) ∧ w.grownBy w' none
set_option maxHeartbeats 8000000 in
set_option maxRecDepth 100000 in
theorem at_any (h : StoreAt w o g) (hd : DraftAt w o g D) {i : Nat} {n : Nd} (hn : (g.ns ++ D.ds)[i]? = some n) : Calls Try.prog 70 #[.pointer (some ⟨D.d, 0, none⟩), .int .i32 (i : Int)] w (AtPost w n) := by
  have c0 := hd.c0
  have c1 := hd.c1
  have hs := h.lts
  have hsd := hd.ltd
  have hbd := h.bd
  have hmost := hd.most
  by_cases hi : i < g.ns.length
  · rw [List.getElem?_append_left hi] at hn
    obtain ⟨gx, c, hv, k0, k1, k2, hx⟩ := row_node h.row hn
    have s2 := h.cell2
    rw [hv] at s2
    have q1 : (i : Int) < (g.ns.length : Int) := by omega
    clear h hd hn hv hmost hbd
    go_enter Try.func70, Try.ntmps70
    go_wp2
    refine bodyPost_ret (v := ndV n) ?_ rfl ⟨rfl, grown_alloc _ _⟩
    obtain ⟨y0, y1, y2⟩ := box3 w (.int .i32 (n.v : Int)) (.int .i32 (n.a : Int)) (.int .i32 (n.b : Int)) 63
    simp [results, Try.results70, go_sem, y0, y1, y2, ndV]
  · obtain ⟨j, rfl⟩ : ∃ j, i = g.ns.length + j := ⟨i - g.ns.length, by omega⟩
    rw [List.getElem?_append_right (by omega), Nat.add_sub_cancel_left] at hn
    obtain ⟨gx, c, hv, k0, k1, k2, hx⟩ := row_node hd.row hn
    have d2 := hd.c2
    rw [hv] at d2
    have hj := (List.getElem?_eq_some_iff.1 hn).1
    have q1 : ¬ ((g.ns.length + j : Nat) : Int) < (g.ns.length : Int) := by omega
    have QW := Lib.hid (show IntKind.i32.wrap (((g.ns.length + j : Nat) : Int) - (g.ns.length : Int)) = (j : Int) from (IntWalk.i32_in _ (by omega)).trans (by omega))
    have q2 : (j : Int) < (D.ds.length : Int) := by omega
    have HGA := Lib.hid (grown_alloc w (.cells #[.int .i32 0, .int .i32 0, .int .i32 0] 63))
    have HY := Lib.hid (box3 w (.int .i32 0) (.int .i32 0) (.int .i32 0) 63)
    have HH := Lib.hid (MapKept.heap_alloc w (.cells #[.int .i32 0, .int .i32 0, .int .i32 0] 63)).1
    have hne : gx ≠ w.heap.size := by omega
    have hne2 : D.d ≠ w.heap.size := by omega
    clear h hd hv hmost hbd hi hn hj
    generalize g.ns.length + j = i at *
    go_enter Try.func70, Try.ntmps70
    go_wp2
    obtain ⟨B, hB⟩ : ∃ B, w.heap.size = B := ⟨_, rfl⟩
    obtain ⟨wa, hwa⟩ : ∃ wa, w.alloc (.cells #[.int .i32 0, .int .i32 0, .int .i32 0] 63) = wa := ⟨_, rfl⟩
    rw [hwa] at HGA HY HH
    rw [hB] at HY HH hne hne2
    rw [hwa, hB]
    have HBS := Lib.hid hB
    have HBA := Lib.hid (show B < wa.heap.size from by rw [← hwa, ← hB]; simp)
    have hc := HGA.out
    replace c1 := (World.cell?_of_block (a := ⟨D.d, 1, none⟩) (hc.block _ (by show D.d < _; omega) (by simp))).trans c1
    replace d2 := (World.cell?_of_block (a := ⟨D.d, 2, none⟩) (hc.block _ (by show D.d < _; omega) (by simp))).trans d2
    replace k0 := (World.cell?_of_block (a := ⟨gx, j * 3, none⟩) (hc.block _ (by show gx < _; omega) (by simp))).trans k0
    replace k1 := (World.cell?_of_block (a := ⟨gx, j * 3 + 1, none⟩) (hc.block _ (by show gx < _; omega) (by simp))).trans k1
    replace k2 := (World.cell?_of_block (a := ⟨gx, j * 3 + 2, none⟩) (hc.block _ (by show gx < _; omega) (by simp))).trans k2
    clear hwa hB hc c0
    refine wp_region_T (S := fun w' => ∀ k ∈ [D.d, gx], w'.heap[k]? = wa.heap[k]?) (tail := fun j => decide (12 ≤ j)) (by kernel_rfl) ?_
    change wpAnyT _ _ _ _ _ _ _ _ _ (World.drew wa)
    have BD := Lib.hid (show ∀ k ∈ [D.d, gx], (World.drew wa).heap[k]? = wa.heap[k]? from fun _ _ => rfl)
    refine tk 0 21 (.pointer (some ⟨D.d, 0, none⟩)) BD.out ?y0 ?_
    case y0 =>
      intro w' hw'
      go_simp
    try simp only [Act.put, List.setIfInBounds_toArray, List.set_cons_zero, List.set_cons_succ]
    refine tk 1 22 (.pointer (some ⟨D.d, 0, none⟩)) BD.out ?y1 ?_
    case y1 =>
      intro w' hw'
      go_simp
    try simp only [Act.put, List.setIfInBounds_toArray, List.set_cons_zero, List.set_cons_succ]
    refine tk 2 23 (.pointer (some ⟨D.d, 2, none⟩)) BD.out ?y2 ?_
    case y2 =>
      intro w' hw'
      go_simp
    try simp only [Act.put, List.setIfInBounds_toArray, List.set_cons_zero, List.set_cons_succ]
    refine tk 3 24 (.slice (some ⟨gx, 0, none⟩) D.ds.length c) BD.out ?y3 ?_
    case y3 =>
      intro w' hw'
      have y0 := (World.cell?_of_block (a := ⟨D.d, 2, none⟩) (hw' _ (by simp))).trans d2
      go_simp
    try simp only [Act.put, List.setIfInBounds_toArray, List.set_cons_zero, List.set_cons_succ]
    refine tk 4 25 (.int .i32 ((i : Nat) : Int)) BD.out ?y4 ?_
    case y4 =>
      intro w' hw'
      go_simp
    try simp only [Act.put, List.setIfInBounds_toArray, List.set_cons_zero, List.set_cons_succ]
    refine tk 5 26 (.pointer (some ⟨D.d, 0, none⟩)) BD.out ?y5 ?_
    case y5 =>
      intro w' hw'
      go_simp
    try simp only [Act.put, List.setIfInBounds_toArray, List.set_cons_zero, List.set_cons_succ]
    refine tk 6 27 (.pointer (some ⟨D.d, 0, none⟩)) BD.out ?y6 ?_
    case y6 =>
      intro w' hw'
      go_simp
    try simp only [Act.put, List.setIfInBounds_toArray, List.set_cons_zero, List.set_cons_succ]
    refine tk 7 28 (.pointer (some ⟨D.d, 1, none⟩)) BD.out ?y7 ?_
    case y7 =>
      intro w' hw'
      go_simp
    try simp only [Act.put, List.setIfInBounds_toArray, List.set_cons_zero, List.set_cons_succ]
    refine tk 8 29 (.int .i32 (g.ns.length : Int)) BD.out ?y8 ?_
    case y8 =>
      intro w' hw'
      have y0 := (World.cell?_of_block (a := ⟨D.d, 1, none⟩) (hw' _ (by simp))).trans c1
      go_simp
    try simp only [Act.put, List.setIfInBounds_toArray, List.set_cons_zero, List.set_cons_succ]
    refine tk 9 30 (.int .i32 (j : Int)) BD.out ?y9 ?_
    case y9 =>
      intro w' hw'
      go_simp
      exact QW.out
    try simp only [Act.put, List.setIfInBounds_toArray, List.set_cons_zero, List.set_cons_succ]
    refine tk 10 31 (.pointer (some ⟨gx, j * 3, none⟩)) BD.out ?y10 ?_
    case y10 =>
      intro w' hw'
      go_simp
    try simp only [Act.put, List.setIfInBounds_toArray, List.set_cons_zero, List.set_cons_succ]
    refine tk 11 32 (.agg #[.int .i32 (n.v : Int), .int .i32 (n.a : Int), .int .i32 (n.b : Int)]) BD.out ?y11 ?_
    case y11 =>
      intro w' hw'
      have z0 := (World.cell?_of_block (a := ⟨gx, j * 3, none⟩) (hw' gx (by simp))).trans k0
      have z1 := (World.cell?_of_block (a := ⟨gx, j * 3 + 1, none⟩) (hw' gx (by simp))).trans k1
      have z2 := (World.cell?_of_block (a := ⟨gx, j * 3 + 2, none⟩) (hw' gx (by simp))).trans k2
      go_simp
    try simp only [Act.put, List.setIfInBounds_toArray, List.set_cons_zero, List.set_cons_succ]
    obtain ⟨y0, y1, y2⟩ := HY.out
    have f0 : wa.frozen? ⟨B, 0, none⟩ = false := by simp [World.frozen?, HH.out]
    have f1 : wa.frozen? ⟨B, 1, none⟩ = false := by simp [World.frozen?, HH.out]
    have f2 : wa.frozen? ⟨B, 2, none⟩ = false := by simp [World.frozen?, HH.out]
    refine on 12 (fun K hK => ?_)
    go_simp
    refine hK.out _ _ (fun h => absurd h (by decide)) ?_
    clear hK K
    try simp only [Act.put, List.setIfInBounds_toArray, List.set_cons_zero, List.set_cons_succ]
    refine dn ?_
    go_wp2
    have e0 : (((wa.setCell ⟨B, 0, none⟩ (.int .i32 (n.v : Int))).setCell ⟨B, 1, none⟩ (.int .i32 (n.a : Int))).setCell ⟨B, 2, none⟩ (.int .i32 (n.b : Int))).heap[B]? = some (.cells #[.int .i32 (n.v : Int), .int .i32 (n.a : Int), .int .i32 (n.b : Int)] 63 (0, 0)) := heap_set _ (heap_set _ (heap_set _ HH.out))
    refine bodyPost_ret (v := ndV n) ?_ rfl ⟨rfl, ?_⟩
    · have z : ∀ i v, (#[.int .i32 (n.v : Int), .int .i32 (n.a : Int), .int .i32 (n.b : Int)] : Array Value)[i]? = some v → (World.drew (((wa.setCell ⟨B, 0, none⟩ (.int .i32 (n.v : Int))).setCell ⟨B, 1, none⟩ (.int .i32 (n.a : Int))).setCell ⟨B, 2, none⟩ (.int .i32 (n.b : Int)))).cell? ⟨B, i, none⟩ = some v := fun i v hv => by
        rw [World.cell?_drew]
        unfold World.cell?
        rw [e0]
        exact hv
      have z0 := z 0 _ rfl
      have z1 := z 1 _ rfl
      have z2 := z 2 _ rfl
      clear z e0 y0 y1 y2 HH f0 f1 f2
      generalize World.drew (((wa.setCell ⟨B, 0, none⟩ (.int .i32 (n.v : Int))).setCell ⟨B, 1, none⟩ (.int .i32 (n.a : Int))).setCell ⟨B, 2, none⟩ (.int .i32 (n.b : Int))) = wz at *
      simp [results, Try.results70, go_sem, z0, z1, z2, ndV]
    · have h1 := grown_set wa ⟨B, 0, none⟩ (.int .i32 (n.v : Int))
      have h2 := grown_set (wa.setCell ⟨B, 0, none⟩ (.int .i32 (n.v : Int))) ⟨B, 1, none⟩ (.int .i32 (n.a : Int))
      have h3 := grown_set ((wa.setCell ⟨B, 0, none⟩ (.int .i32 (n.v : Int))).setCell ⟨B, 1, none⟩ (.int .i32 (n.a : Int))) ⟨B, 2, none⟩ (.int .i32 (n.b : Int))
      have h4 := grown_trans (grown_trans (grown_trans (grown_any (row := some B) HGA.out) h1) h2) h3
      exact ⟨h4.os, h4.tape, h4.output, h4.size, fun k hk _ => h4.block k hk (by rw [← HBS.out]; simp; omega)⟩
end

end Go.Proofs.Ytailpphafoamfaa
namespace Go.Proofs.Ytailpphafoamfaa

def leadN (n : Nd) (b : Bool) : Nat := if b then n.b else n.a
def NodeIs (L : List Nd) (n : Nd) (r : Nat) : Prop := (n.a = n.b ∧ r = n.a) ∨ (n.a ≠ n.b ∧ 2 ≤ r ∧ L[r]? = some n)
def dec (L : List Nd) (f v : Nat) (b : Bool) : Nat := match L[f]? with
  | none => f
  | some n => if n.v = v then leadN n b else f
def chosenN (f g h : Nat) : Nat × Bool := if f = 1 ∨ g = h then (g, true) else if f = 0 then (h, true) else if (g = 1 ∨ g = f) ∧ (h = 0 ∨ h = f) then (f, true) else (0, false)
def alikeN (f g : Nat) : Nat × Bool := if f = g then (1, true) else if f = 1 then (g, true) else if g = 1 then (f, true) else (0, decide (f ≤ 1 ∧ g ≤ 1))
def m3 (L : List Nd) (f g h : Nat) : Nat := min (ask L f) (min (ask L g) (ask L h))
/-- What is settled at once is right; what isn't has a node among the three. -/
structure Settles (st : Nat → Nat → Nat → Nat × Bool) (op : Bool → Bool → Bool → Bool) : Prop where
  yes : ∀ {V : Nat} {L : List Nd}, WF V L → ∀ f g h, f < L.length → g < L.length → h < L.length → (st f g h).2 = true → (st f g h).1 < L.length ∧ m3 L f g h ≤ ask L (st f g h).1 ∧ ∀ m, ev L (st f g h).1 m = op (ev L f m) (ev L g m) (ev L h m)
  no : ∀ f g h, (st f g h).2 = false → 2 ≤ f ∨ 2 ≤ g ∨ 2 ≤ h
structure CombIs (op : Bool → Bool → Bool → Bool) (L : List Nd) (f g h r : Nat) : Prop where
  lt : r < L.length
  ask : m3 L f g h ≤ ask L r
  ev : ∀ m, ev L r m = op (ev L f m) (ev L g m) (ev L h m)
def iteB (x y z : Bool) : Bool := if x then y else z
def iffB (x y _ : Bool) : Bool := x == y
theorem m3_le {V : Nat} {L : List Nd} (h : WF V L) {a b c : Nat} (ha : a < L.length) : m3 L a b c ≤ V := by
  have := h.ask_le ha
  unfold m3
  omega
theorem chosen_settles : Settles chosenN iteB where
  yes := fun {V L} w f g h hf hg hh hs => by
    have h2 := w.two
    have hv := m3_le w (b := g) (c := h) hf
    by_cases e1 : f = 1 ∨ g = h
    · have e : chosenN f g h = (g, true) := if_pos e1
      rw [e]
      refine ⟨hg, by simp only [m3]; omega, fun m => ?_⟩
      rcases e1 with rfl | rfl
      · rw [ev1]; rfl
      · cases ev L f m <;> rfl
    · by_cases e2 : f = 0
      · have e : chosenN f g h = (h, true) := by unfold chosenN; rw [if_neg e1, if_pos e2]
        rw [e]
        refine ⟨hh, by simp only [m3]; omega, fun m => ?_⟩
        rw [e2, ev0]; rfl
      · by_cases e3 : (g = 1 ∨ g = f) ∧ (h = 0 ∨ h = f)
        · have e : chosenN f g h = (f, true) := by unfold chosenN; rw [if_neg e1, if_neg e2, if_pos e3]
          rw [e]
          refine ⟨hf, by simp only [m3]; omega, fun m => ?_⟩
          obtain ⟨e4, e5⟩ := e3
          rcases e4 with rfl | rfl <;> rcases e5 with rfl | rfl <;> simp [iteB, ev1, ev0] <;> cases ev L _ m <;> rfl
        · have e : chosenN f g h = (0, false) := by unfold chosenN; rw [if_neg e1, if_neg e2, if_neg e3]
          rw [e] at hs
          cases hs
  no := fun f g h hs => by
    apply Classical.byContradiction
    intro hc
    unfold chosenN at hs
    split at hs
    · cases hs
    · split at hs
      · cases hs
      · omega
theorem alike_settles : Settles (fun f g _ => alikeN f g) iffB where
  yes := fun {V L} w f g h hf hg hh hs => by
    have h2 := w.two
    have hv := m3_le w (b := g) (c := h) hf
    by_cases e1 : f = g
    · have e : alikeN f g = (1, true) := if_pos e1
      rw [e]
      refine ⟨by simp only; omega, by rw [w.ask1]; exact hv, fun m => ?_⟩
      rw [ev1, e1]
      simp [iffB]
    · by_cases e2 : f = 1
      · have e : alikeN f g = (g, true) := by unfold alikeN; rw [if_neg e1, if_pos e2]
        rw [e]
        refine ⟨hg, by simp only [m3]; omega, fun m => ?_⟩
        rw [e2, ev1]
        simp [iffB]
      · by_cases e3 : g = 1
        · have e : alikeN f g = (f, true) := by unfold alikeN; rw [if_neg e1, if_neg e2, if_pos e3]
          rw [e]
          refine ⟨hf, by simp only [m3]; omega, fun m => ?_⟩
          rw [e3, ev1]
          simp [iffB]
        · have e : alikeN f g = (0, decide (f ≤ 1 ∧ g ≤ 1)) := by unfold alikeN; rw [if_neg e1, if_neg e2, if_neg e3]
          rw [e] at hs
          simp at hs
          omega
  no := fun f g h hs => by
    apply Classical.byContradiction
    intro hc
    have hs : (alikeN f g).2 = false := hs
    unfold alikeN at hs
    split at hs
    · cases hs
    · split at hs
      · cases hs
      · split at hs
        · cases hs
        · simp at hs
          omega
section
variable {V : Nat} {L K : List Nd} {op : Bool → Bool → Bool → Bool}
theorem m3_app {f g h : Nat} (hf : f < L.length) (hg : g < L.length) (hh : h < L.length) : m3 (L ++ K) f g h = m3 L f g h := by
  unfold m3
  rw [ask_app hf, ask_app hg, ask_app hh]
theorem CombIs.app {f g h r : Nat} (c : CombIs op L f g h r) (w : WF V L) (w' : WF V (L ++ K)) (hf : f < L.length) (hg : g < L.length) (hh : h < L.length) : CombIs op (L ++ K) f g h r :=
  ⟨by have := c.lt; simp only [List.length_append]; omega, by rw [m3_app hf hg hh, ask_app c.lt]; exact c.ask, fun m => by rw [ev_app w w' m r c.lt, ev_app w w' m f hf, ev_app w w' m g hg, ev_app w w' m h hh]; exact c.ev m⟩
theorem dec_app {f v : Nat} {b : Bool} (hf : f < L.length) : dec (L ++ K) f v b = dec L f v b := by
  unfold dec
  rw [List.getElem?_append_left hf]
theorem WF.dec_lt (w : WF V L) {f v : Nat} (b : Bool) (hf : f < L.length) (hv : v < V) : dec L f v b < L.length := by
  obtain ⟨n, hn⟩ := get_lt hf
  unfold dec
  rw [hn]
  simp only
  split
  · rename_i e
    by_cases h2 : 2 ≤ f
    · obtain ⟨a1, a2, a3, -⟩ := w.nd f n h2 hn
      unfold leadN
      split <;> omega
    · have := ask_at hn
      rw [w.ask_end (by omega)] at this
      omega
  · exact hf
theorem WF.dec_ask (w : WF V L) {f v : Nat} (b : Bool) (hf : f < L.length) (hv : v < V) (hle : v ≤ ask L f) : v < ask L (dec L f v b) := by
  obtain ⟨n, hn⟩ := get_lt hf
  have ha := ask_at hn
  unfold dec
  rw [hn]
  simp only
  split
  · rename_i e
    by_cases h2 : 2 ≤ f
    · obtain ⟨a1, a2, a3, a4, a5, a6⟩ := w.nd f n h2 hn
      unfold leadN
      split <;> omega
    · rw [w.ask_end (by omega)] at ha
      omega
  · omega
theorem WF.dec_ev (w : WF V L) {f v : Nat} (b : Bool) (hf : f < L.length) (hv : v < V) (m : Nat → Bool) (hm : m v = b) : ev L (dec L f v b) m = ev L f m := by
  obtain ⟨n, hn⟩ := get_lt hf
  unfold dec
  rw [hn]
  simp only
  split
  · rename_i e
    by_cases h2 : 2 ≤ f
    · rw [w.ev_node m h2 hn, e, hm]
      unfold leadN
      cases b <;> rfl
    · have := ask_at hn
      rw [w.ask_end (by omega)] at this
      omega
  · rfl
/-- A node of two that are right for a variable's two ways is right. -/
theorem WF.comb (w : WF V L) {f g h v r0 r1 r : Nat} (hf : f < L.length) (hg : g < L.length) (hh : h < L.length) (hv : v < V) (hm : m3 L f g h = v)
    (c0 : CombIs op L (dec L f v false) (dec L g v false) (dec L h v false) r0) (c1 : CombIs op L (dec L f v true) (dec L g v true) (dec L h v true) r1) (hr : NodeIs L ⟨v, r0, r1⟩ r) : CombIs op L f g h r := by
  have hev : ∀ m, (if m v then ev L r1 m else ev L r0 m) = op (ev L f m) (ev L g m) (ev L h m) := by
    intro m
    by_cases hb : m v = true
    · rw [if_pos hb, c1.ev, w.dec_ev true hf hv m hb, w.dec_ev true hg hv m hb, w.dec_ev true hh hv m hb]
    · have hb' : m v = false := by simpa using hb
      rw [if_neg hb, c0.ev, w.dec_ev false hf hv m hb', w.dec_ev false hg hv m hb', w.dec_ev false hh hv m hb']
  have hk : ∀ b, v < m3 L (dec L f v b) (dec L g v b) (dec L h v b) := fun b => by
    have h1 : v ≤ ask L f ∧ v ≤ ask L g ∧ v ≤ ask L h := by unfold m3 at hm; omega
    have := w.dec_ask b hf hv h1.1
    have := w.dec_ask b hg hv h1.2.1
    have := w.dec_ask b hh hv h1.2.2
    unfold m3
    omega
  rcases hr with ⟨e1, e2⟩ | ⟨e1, h2, hn⟩
  · simp only at e1 e2
    subst e2
    have h0 := hk false
    have h3 := c0.ask
    refine ⟨c0.lt, by rw [hm]; omega, fun m => ?_⟩
    rw [← hev m]
    rw [← e1]
    split <;> rfl
  · refine ⟨(List.getElem?_eq_some_iff.1 hn).1, by rw [hm, ask_at hn]; exact Nat.le_refl _, fun m => ?_⟩
    rw [w.ev_node m h2 hn]
    exact hev m
theorem WF.m3_dec (w : WF V L) {f g h v : Nat} (b : Bool) (hf : f < L.length) (hg : g < L.length) (hh : h < L.length) (hv : v < V) (hm : m3 L f g h = v) : v < m3 L (dec L f v b) (dec L g v b) (dec L h v b) := by
  have h1 : v ≤ ask L f ∧ v ≤ ask L g ∧ v ≤ ask L h := by unfold m3 at hm; omega
  have := w.dec_ask b hf hv h1.1
  have := w.dec_ask b hg hv h1.2.1
  have := w.dec_ask b hh hv h1.2.2
  unfold m3
  omega
theorem pow_two {V v a b : Nat} (hv : v < V) (ha : v < a) (hb : v < b) : 2 ^ (V - a) + 2 ^ (V - b) ≤ 2 ^ (V - v) := by
  have h1 : 2 ^ (V - a) ≤ 2 ^ (V - v - 1) := Nat.pow_le_pow_right (by decide) (by omega)
  have h2 : 2 ^ (V - b) ≤ 2 ^ (V - v - 1) := Nat.pow_le_pow_right (by decide) (by omega)
  have h3 : 2 ^ (V - v) = 2 ^ (V - v - 1) + 2 ^ (V - v - 1) := by
    obtain ⟨k, hk⟩ : ∃ k, V - v = k + 1 := ⟨V - v - 1, by omega⟩
    rw [hk, Nat.add_sub_cancel, Nat.pow_succ]
    omega
  omega
theorem pow_pos' (k : Nat) : 1 ≤ 2 ^ k := Nat.one_le_two_pow
end
end Go.Proofs.Ytailpphafoamfaa
