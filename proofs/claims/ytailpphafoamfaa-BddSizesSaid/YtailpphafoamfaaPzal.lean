/- Which variables a diagram asks for. A range over a map: whichever entry comes next. Whether a renaming keeps variables apart: the plain part. Whether a renaming keeps variables apart. Renaming: what joins a node. Renaming: what does it. Rename. The laws: a number that fits. The reference: whether two rows are the same. -/
import Derived.Maps.RangeRun
import Derived.Maps.Range
import Derived.Test.YtailpphafoamfaaPzak
set_option linter.all false
namespace Go.Proofs.Ytailpphafoamfaa
open Go Go.RowKit Go.Maps


structure ADone (ns : List Nd) (l : List Nat) (mp : Value → Option Value) : Prop where
  to : ∀ j ∈ l, ∀ n, ns[j]? = some n → mp (.int .i64 (n.v : Int)) = some (.agg #[])
  al : ∀ v x, mp v = some x → x = .agg #[] ∧ ∃ j ∈ l, ∃ n, ns[j]? = some n ∧ v = .int .i64 (n.v : Int)
/-- Gathering which variables are asked for. -/
structure AskJ (bx bd : Nat) (w : World) (o : Nat → Nat) (g : SG) (l : List Nat) : Prop where
  cell : w.cell? ⟨bx, 0, none⟩ = some (.map (some bd))
  ox : o bx = 0
  od : o bd = 10
  map : ∃ mp, MapIs 3 w bd mp ∧ ADone g.ns l mp
section
variable {M : List Nd} {w w' w2 : World} {o o' o2 : Nat → Nat} {g : SG} {l l' : List Nat}
theorem AskJ.keep {bx bd : Nat} (h : AskJ bx bd w o g l) {T : Nat → Bool} (k : Keep T w o w' o') (t0 : T 0 = false) (ht : T 10 = false) : AskJ bx bd w' o' g l := by
  obtain ⟨mp, hm, hd⟩ := h.map
  exact ⟨(k.box h.cell h.ox t0).1, (k.box h.cell h.ox t0).2, (k.own _ hm.lt).trans h.od, mp, hm.move (k.blk _ hm.lt (by rw [h.od]; exact ht)), hd⟩
theorem ADone.more {ns : List Nd} {mp : Value → Option Value} (h : ADone ns l mp) {i : Nat} {n : Nd} (hn : ns[i]? = some n) : ADone ns (l ++ [i]) (updV mp (.int .i64 (n.v : Int)) (.agg #[])) := by
  refine ⟨fun j hj m hm => ?_, fun v x hv => ?_⟩
  · by_cases e : (.int .i64 (m.v : Int) : Value) = .int .i64 (n.v : Int)
    · rw [e, updV_same]
    · rw [updV_other _ _ e]
      rcases List.mem_append.1 hj with hj | hj
      · exact h.to j hj m hm
      · simp at hj
        subst hj
        rw [hn] at hm
        cases hm
        exact absurd rfl e
  · by_cases e : v = .int .i64 (n.v : Int)
    · rw [e, updV_same] at hv
      cases hv
      exact ⟨rfl, i, by simp, n, hn, e⟩
    · rw [updV_other _ _ e] at hv
      obtain ⟨h1, j, h2, h3⟩ := h.al v x hv
      exact ⟨h1, j, List.mem_append.2 (.inl h2), h3⟩
set_option maxHeartbeats 8000000 in
set_option maxRecDepth 100000 in
theorem asked1_any {bx bd : Nat} (h : StoreM M w o g) (hj : AskJ bx bd w o g l) (i : Nat) (n : Nd) (h2 : 2 ≤ i) (hn : g.ns[i]? = some n) : Calls Try.prog 76 #[ndV n, .pointer (some ⟨bx, 0, none⟩)] w fun e w' => e = .returned (.tuple #[]) ∧ ∃ o', StoreM M w' o' g ∧ AskJ bx bd w' o' g (l ++ [i]) ∧ Keep (· == 10) w o w' o' := by
  have hc := hj.cell
  have hbl := lt_cell hc
  obtain ⟨mp, hm, hd⟩ := hj.map
  have hv : n.v < g.V := (h.wf.nd i n h2 hn).1
  have hV := h.bd
  obtain ⟨w9, hrun, hm9, ht9⟩ := (hm.move (heap_alloc_old (o := .cells #[.int .i32 (n.v : Int), .int .i32 (n.a : Int), .int .i32 (n.b : Int)] 63) hm.lt)).store K3 Try.underlying119 (isK3 (x := (n.v : Int)) (by omega)) (.agg #[])
  have k2 : Keep (· == 10) w o w9 o := (keep_alloc (· == 10) w o (.cells #[.int .i32 (n.v : Int), .int .i32 (n.a : Int), .int .i32 (n.b : Int)] 63)).trans (Keep.grown ht9.grown (fun k hk => by cases hk; rw [hj.od]; rfl) (fun _ _ => rfl))
  have HR := Lib.hid (show ∃ o', StoreM M w9 o' g ∧ AskJ bx bd w9 o' g (l ++ [i]) ∧ Keep (· == 10) w o w9 o' from ⟨o, h.keep k2 ⟨rfl, rfl, rfl⟩ (fun b hb => h.new b (Nat.le_trans k2.size hb)), ⟨(k2.box hj.cell hj.ox rfl).1, hj.ox, hj.od, _, hm9, hd.more hn⟩, k2⟩)
  have qw2 : IntKind.i64.wrap (n.v : Int) = (n.v : Int) := IntWalk.i64_in _ (by omega)
  have qw : wrap64 (n.v : Int) = (n.v : Int) := by unfold wrap64; omega
  unfold ndV
  clear h hj hm hd hm9 ht9 k2 hn
  go_enter Try.func76, Try.ntmps76
  go_wp2
  first | go_end0 | (simp only [Exit.inBlock, Exit.then]; refine bodyPost_ret (results_none rfl _ _ _) rfl ?_) | refine bodyPost_ret (results_none rfl _ _ _) rfl ?_
  exact ⟨rfl, HR.out⟩
theorem asked_see (bx bd : Nat) : SeeS 76 (.pointer (some ⟨bx, 0, none⟩)) (AskJ bx bd) where
  enters := enters_of Try.func76 (by kernel_rfl) rfl
  keep := fun w w' o o' g l h k => h.keep k rfl rfl
  run := fun M w o g l i n h hj h2 hn => asked1_any h hj i n h2 hn
def AskedPost (M : List Nd) (w : World) (o : Nat → Nat) (g : SG) (f : Nat) (e : Ending) (w' : World) : Prop :=
  ∃ bd o' mp, e = .returned (.map (some bd)) ∧ StoreM M w' o' g ∧ Keep T0 w o w' o' ∧ o' bd = 10 ∧ MapIs 3 w' bd mp ∧ ADone g.ns (vis g.ns [] f) mp
set_option maxHeartbeats 8000000 in
set_option maxRecDepth 100000 in
theorem asked_any (h : StoreM M w o g) (f : Nat) (hv : f < g.ns.length) : Calls Try.prog 65 #[.pointer (some ⟨g.s, 0, none⟩), .int .i64 (f : Int)] w (AskedPost M w o g f) := by
  have hmm := @run_makeMap Try.prog
  have hmf : ∀ (fn : Fn) (first cap : Array Value) (w : World), (Instr.makeFunc fn first cap).run Try.prog w = .ok (.func fn first cap) w := fun _ _ _ _ => rfl
  obtain ⟨t1, t2⟩ := tagged h (.map #[] 0) 10
  obtain ⟨wa, hwa⟩ : ∃ wa, (w.alloc (.map #[] 0)).alloc (.cells #[.map (some w.heap.size)] 119) = wa := ⟨_, rfl⟩
  have k2 : Keep (fun _ => false) (w.alloc (.map #[] 0)) (ownG o w.heap.size 10) wa (ownG o w.heap.size 10) := by rw [← hwa]; exact keep_alloc _ _ _ _
  have hm0 := (MapIs.made (k := 3) w).move (k2.blk _ (by simp) rfl)
  have hcx : wa.heap[w.heap.size + 1]? = some (.cells #[.map (some w.heap.size)] 119 (0, 0)) := by
    have := (MapKept.heap_alloc (w.alloc (.map #[] 0)) (.cells #[.map (some w.heap.size)] 119)).1
    rw [hwa] at this
    have e : (w.alloc (.map #[] 0)).heap.size = w.heap.size + 1 := by simp
    rw [e] at this
    exact this
  have hsa : StoreM M wa (ownG o w.heap.size 10) g := t1.keep k2 ⟨rfl, rfl, rfl⟩ (fun b hb => t1.new b (Nat.le_trans k2.size hb))
  have hj : AskJ (w.heap.size + 1) w.heap.size wa (ownG o w.heap.size 10) g [] := ⟨(cell_of hcx).trans rfl, t1.new _ (by simp), ownG_same _ _ _, _, hm0, ⟨fun j hj => (by cases hj), fun v x hv => (by cases hv)⟩⟩
  have HVI := Lib.hid (visit_any (asked_see (w.heap.size + 1) w.heap.size) hsa hj f hv)
  have HKV := Lib.hid (show Keep T0 w o wa _ from (t2.more (t0_of rfl)).trans (k2.more (t0_of rfl)))
  rw [← hwa] at HVI HKV
  clear h hv t1 t2 hwa k2 hm0 hcx hsa hj
  go_enter Try.func65, Try.ntmps65
  go_wp2_with fail
  refine (HVI.out).mono ?_
  rintro e w2 ⟨rfl, o2, hs2, hj2, hk2⟩
  obtain ⟨mp, hm, hd⟩ := hj2.map
  have hc := hj2.cell
  have HFIN := Lib.hid (show AskedPost M w o g f (.returned (.map (some w.heap.size))) w2 from ⟨_, o2, mp, rfl, hs2, HKV.out.trans (hk2.more (t0_of rfl)), hj2.od, hm, hd⟩)
  clear hs2 hj2 hk2 hm hd
  go_wp2
  go_ret
  exact HFIN.out
end

end Go.Proofs.Ytailpphafoamfaa
namespace Go.Proofs.Ytailpphafoamfaa
open Go Go.RowKit Go.Maps Go.ChangeMaps

/-- The iterator in block r over the map in block b, with what is left. -/
def IterIs (w : World) (r b : Nat) (f : Value → Option Value) (left : List Value) : Prop :=
  r ≠ b ∧ ∃ es clock since seen c0, w.heap[r]? = some (.mapIter (some b) since seen c0) ∧ w.heap[b]? = some (.map es clock) ∧ (∀ x ∈ es.toList, x.born < since) ∧ since ≤ c0 ∧ since ≤ clock ∧ (es.toList.map (·.born)).Nodup ∧
    es.toList.Pairwise (fun x y => x.key ≠ y.key) ∧ (∀ x ∈ es.toList, f x.key = some x.val) ∧ left = (leftOf es seen).toList.map (·.key)
theorem IterIs.lt {w : World} {r b : Nat} {f : Value → Option Value} {left : List Value} (h : IterIs w r b f left) : r < w.heap.size ∧ b < w.heap.size := by
  obtain ⟨-, es, clock, since, seen, c0, h1, h2, -⟩ := h
  exact ⟨(Array.getElem?_eq_some_iff.1 h1).1, (Array.getElem?_eq_some_iff.1 h2).1⟩
theorem IterIs.move {w w' : World} {r b : Nat} {f : Value → Option Value} {left : List Value} (h : IterIs w r b f left) (hr : w'.heap[r]? = w.heap[r]?) (hb : w'.heap[b]? = w.heap[b]?) : IterIs w' r b f left := by
  obtain ⟨hne, es, clock, since, seen, c0, h1, h2, h3⟩ := h
  exact ⟨hne, es, clock, since, seen, c0, hr.trans h1, hb.trans h2, h3⟩
theorem MapIs.range {k t e : TypeId} {w : World} {b : Nat} {f : Value → Option Value} (h : MapIs k w b f) (ht : Try.prog.underlying t = some (.map k e)) :
    ∃ w' left, (Instr.range t (.map (some b))).run Try.prog w = .ok (.pointer (some ⟨w.heap.size, 0, none⟩)) w' ∧ w.grownBy w' none ∧ w'.heap.size = w.heap.size + 1 ∧ IterIs w' w.heap.size b f left ∧ ∀ v, v ∈ left ↔ (f v).isSome = true := by
  have hlt := h.lt
  obtain ⟨es, clock, hb, hkeys, hpw, h1, h2, h3, h4⟩ := h
  refine ⟨_, es.toList.map (·.key), run_range_map w t k e b es clock ht hb, World.grownBy_alloc w _ none, by simp, ⟨by omega, es, clock, clock, #[], clock, (MapKept.heap_alloc w _).1, ((MapKept.heap_alloc w _).2 b hlt).trans hb, h3, Nat.le_refl _, Nat.le_refl _, h4, hpw, h1, ?_⟩, fun v => ?_⟩
  · simp only [leftOf, Array.toList_filter]
    rw [List.filter_eq_self.2 (fun _ _ => by simp)]
  · rw [List.mem_map]
    constructor
    · rintro ⟨x, hx, rfl⟩
      rw [h1 x hx]; rfl
    · intro hv
      obtain ⟨y, hy⟩ := Option.isSome_iff_exists.1 hv
      obtain ⟨x, hx, e⟩ := h2 v y hy
      exact ⟨x, hx, e⟩
theorem IterIs.next {w : World} {r b : Nat} {f : Value → Option Value} {left : List Value} (h : IterIs w r b f left) (ty : TypeId) :
    (left = [] ∧ (Instr.next (.pointer (some ⟨r, 0, none⟩)) false ty).run Try.prog w = .ok (.tuple #[.bool false]) w) ∨
    ∃ key val left' w', key ∈ left ∧ f key = some val ∧ (Instr.next (.pointer (some ⟨r, 0, none⟩)) false ty).run Try.prog w = .ok (.tuple #[.bool true, key, val]) w' ∧ w.grownBy w' (some r) ∧ IterIs w' r b f left' ∧ (∀ v, v ∈ left ↔ v = key ∨ v ∈ left') ∧ key ∉ left' ∧ left'.length < left.length ∧
      ∀ w2 : World, w2.heap[r]? = w'.heap[r]? → w2.heap[b]? = w'.heap[b]? → (Instr.entry (.pointer (some ⟨r, 0, none⟩))).run Try.prog w2 = .ok (.tuple #[key, val]) w2 := by
  have hlt := h.lt
  obtain ⟨hne, es, clock, since, seen, c0, hr, hb, hold, hsc, hsl, hnd, hpw, h1, rfl⟩ := h
  rcases run_next_at (P := Try.prog) w ty r b since c0 seen es clock hr hb hold hsc with ⟨h0, hrun⟩ | ⟨e, he, w1, hw1, hrun⟩
  · left
    refine ⟨?_, hrun⟩
    have : leftOf es seen = #[] := Array.eq_empty_of_size_eq_zero h0
    rw [this]; rfl
  · right
    obtain ⟨hee, hes⟩ := mem_left he
    have hr1 : w1.heap = w.heap := by rcases hw1 with rfl | rfl <;> rfl
    have hr9 : (setBlock w1 r (.mapIter (some b) since (seen.push e.born) clock)).heap[r]? = some (.mapIter (some b) since (seen.push e.born) clock) := by
      simp only [setBlock, Array.getElem?_setIfInBounds, hr1]
      rw [if_pos trivial, if_pos hlt.1]
    have hb9 : (setBlock w1 r (.mapIter (some b) since (seen.push e.born) clock)).heap[b]? = some (.map es clock) := by
      simp only [setBlock, Array.getElem?_setIfInBounds, hr1]
      rw [if_neg hne]
      exact hb
    have hmem : ∀ x, x ∈ (leftOf es (seen.push e.born)).toList ↔ x ∈ (leftOf es seen).toList ∧ x ≠ e := by
      intro x
      simp only [leftOf, Array.toList_filter, List.mem_filter, contains_push]
      constructor
      · rintro ⟨hx, hc⟩
        simp at hc
        exact ⟨⟨hx, by simpa using hc.1⟩, fun e2 => hc.2 (by rw [e2])⟩
      · rintro ⟨⟨hx, hc⟩, hx2⟩
        refine ⟨hx, ?_⟩
        have : x.born ≠ e.born := fun e2 => hx2 (born_inj hnd hx hee e2)
        simp at hc ⊢
        exact ⟨hc, this⟩
    have kinj : ∀ x ∈ es.toList, x.key = e.key → x = e := fun x hx hk => entry_eq_of_key hpw hx hee hk
    refine ⟨e.key, e.val, (leftOf es (seen.push e.born)).toList.map (·.key), _, List.mem_map.2 ⟨e, he, rfl⟩, h1 e hee, hrun, ?_, ⟨hne, es, clock, since, _, clock, hr9, hb9, hold, hsl, hsl, hnd, hpw, h1, rfl⟩, fun v => ?_, ?_, ?_, fun w2 h2 h3 => ?_⟩
    · refine ⟨?_, ?_, ?_, ?_, ?_⟩
      · rcases hw1 with rfl | rfl <;> rfl
      · rcases hw1 with rfl | rfl <;> rfl
      · rcases hw1 with rfl | rfl <;> rfl
      · simp [setBlock, hr1]
      · intro k hk hne2
        simp only [setBlock, Array.getElem?_setIfInBounds, hr1]
        rw [if_neg (fun e2 => hne2 (by rw [e2]))]
    · rw [List.mem_map, List.mem_map]
      constructor
      · rintro ⟨x, hx, rfl⟩
        by_cases e2 : x = e
        · exact .inl (by rw [e2])
        · exact .inr ⟨x, (hmem x).2 ⟨hx, e2⟩, rfl⟩
      · rintro (rfl | ⟨x, hx, rfl⟩)
        · exact ⟨e, he, rfl⟩
        · exact ⟨x, ((hmem x).1 hx).1, rfl⟩
    · intro hc
      obtain ⟨x, hx, hk⟩ := List.mem_map.1 hc
      obtain ⟨hx1, hx2⟩ := (hmem x).1 hx
      exact hx2 (kinj x (mem_left hx1).1 hk)
    · rw [List.length_map, List.length_map]
      exact left_shrinks es seen e he
    · exact run_entry_at w2 r b since seen es clock e (h2.trans hr9) (h3.trans hb9) hee hnd
end Go.Proofs.Ytailpphafoamfaa
namespace Go.Proofs.Ytailpphafoamfaa
open Go Go.RowKit Go.Maps


/-- The variable v is asked for by a node of the list S. -/
def AskedV (ns : List Nd) (S : List Nat) (v : Nat) : Prop := ∃ j ∈ S, ∃ n, ns[j]? = some n ∧ n.v = v
/-- No two variables that are asked for become one. -/
def ApartIs (ns : List Nd) (S : List Nat) (l : List Int) : Prop := ∀ u v, AskedV ns S u → AskedV ns S v → l.getD u 0 = l.getD v 0 → u = v
structure ApR (ns : List Nd) (S : List Nat) (l : List Int) (left : List Value) (tkf : Value → Option Value) : Prop where
  le : ∀ x ∈ left, ∃ v : Nat, x = .int .i64 (v : Int) ∧ AskedV ns S v
  tk : ∀ z : Int, (tkf (.int .i64 z)).isSome = true ↔ ∃ v : Nat, AskedV ns S v ∧ (.int .i64 (v : Int)) ∉ left ∧ l.getD v 0 = z
  ag : ∀ k x, tkf k = some x → x = .agg #[]
  inj : ∀ u v, AskedV ns S u → AskedV ns S v → (.int .i64 (u : Int)) ∉ left → (.int .i64 (v : Int)) ∉ left → l.getD u 0 = l.getD v 0 → u = v
section
variable {ns : List Nd} {S : List Nat} {l : List Int} {left left' : List Value} {tkf mp : Value → Option Value}
theorem ApR.start (hd : ADone ns S mp) (hl : ∀ v, v ∈ left ↔ (mp v).isSome = true) : ApR ns S l left (fun _ => none) := by
  have hin : ∀ v, AskedV ns S v → (.int .i64 (v : Int) : Value) ∈ left := by
    rintro v ⟨j, hj, n, hn, rfl⟩
    rw [hl, hd.to j hj n hn]; rfl
  refine ⟨fun x hx => ?_, fun z => ?_, fun k x h => (by cases h), fun u v hu _ h1 => absurd (hin u hu) h1⟩
  · rw [hl] at hx
    obtain ⟨y, hy⟩ := Option.isSome_iff_exists.1 hx
    obtain ⟨-, j, hj, n, hn, e⟩ := hd.al x y hy
    exact ⟨n.v, e, j, hj, n, hn, rfl⟩
  · constructor
    · intro h; cases h
    · rintro ⟨v, h1, h2, -⟩
      exact absurd (hin v h1) h2
theorem ApR.step (h : ApR ns S l left tkf) {v : Nat} (hm : ∀ x, x ∈ left ↔ x = .int .i64 (v : Int) ∨ x ∈ left') (hn : (.int .i64 (v : Int) : Value) ∉ left') (hv : AskedV ns S v) (hf : (tkf (.int .i64 (l.getD v 0))).isSome = false) : ApR ns S l left' (updV tkf (.int .i64 (l.getD v 0)) (.agg #[])) := by
  have hout : ∀ u : Nat, (.int .i64 (u : Int) : Value) ∉ left' → u = v ∨ (.int .i64 (u : Int) : Value) ∉ left := by
    intro u hu
    by_cases e : u = v
    · exact .inl e
    · right
      rw [hm]
      rintro (e2 | e2)
      · simp at e2; omega
      · exact hu e2
  have hno : ∀ u, AskedV ns S u → (.int .i64 (u : Int) : Value) ∉ left → l.getD u 0 ≠ l.getD v 0 := by
    intro u hu hul e
    have := (h.tk (l.getD v 0)).2 ⟨u, hu, hul, e⟩
    rw [hf] at this
    cases this
  refine ⟨fun x hx => h.le x ((hm x).2 (.inr hx)), fun z => ?_, fun k x hk => ?_, fun u u' hu hu' h1 h2 he => ?_⟩
  · by_cases e : z = l.getD v 0
    · subst e
      rw [updV_same]
      exact ⟨fun _ => ⟨v, hv, hn, rfl⟩, fun _ => rfl⟩
    · rw [updV_other _ _ (by intro e2; simp at e2; exact e e2), h.tk]
      constructor
      · rintro ⟨u, h1, h2, h3⟩
        exact ⟨u, h1, fun h4 => h2 ((hm _).2 (.inr h4)), h3⟩
      · rintro ⟨u, h1, h2, h3⟩
        rcases hout u h2 with rfl | h4
        · exact absurd h3.symm e
        · exact ⟨u, h1, h4, h3⟩
  · by_cases e : k = .int .i64 (l.getD v 0)
    · rw [e, updV_same] at hk
      cases hk; rfl
    · rw [updV_other _ _ e] at hk
      exact h.ag k x hk
  · rcases hout u h1 with rfl | h3
    · rcases hout u' h2 with rfl | h4
      · rfl
      · exact absurd he.symm (hno u' hu' h4)
    · rcases hout u' h2 with rfl | h4
      · exact absurd he (hno u hu h3)
      · exact h.inj u u' hu hu' h3 h4 he
theorem ApR.found (h : ApR ns S l left tkf) {v : Nat} (hin : (.int .i64 (v : Int) : Value) ∈ left) (hv : AskedV ns S v) (hf : (tkf (.int .i64 (l.getD v 0))).isSome = true) : ¬ ApartIs ns S l := by
  intro ha
  obtain ⟨u, h1, h2, h3⟩ := (h.tk _).1 hf
  have := ha u v h1 hv h3
  subst this
  exact h2 hin
theorem ApR.done (h : ApR ns S l [] tkf) : ApartIs ns S l := fun u v hu hv he => h.inj u v hu hv (by simp) (by simp) he
end

end Go.Proofs.Ytailpphafoamfaa
namespace Go.Proofs.Ytailpphafoamfaa
open Go Go.RowKit Go.Maps


/-- A slice value that reads as whole numbers, in a block that is the caller's. -/
def NumsO (w : World) (o : Nat → Nat) (v : Value) (l : List Int) : Prop := ∃ A c, v = .slice A l.length c ∧ (l ≠ [] → ∃ b off, A = some ⟨b, off, none⟩ ∧ b < w.heap.size ∧ o b = 0 ∧ ∀ j x, l[j]? = some x → w.cell? ⟨b, off + j, none⟩ = some (.int .i64 x))
theorem NumsO.keep {T : Nat → Bool} {w w' : World} {o o' : Nat → Nat} {v : Value} {l : List Int} (h : NumsO w o v l) (k : Keep T w o w' o') (t0 : T 0 = false) : NumsO w' o' v l := by
  obtain ⟨A, c, h1, h2⟩ := h
  refine ⟨A, c, h1, fun hne => ?_⟩
  obtain ⟨b, off, h3, h4, h5, h6⟩ := h2 hne
  exact ⟨b, off, h3, Nat.lt_of_lt_of_le h4 k.size, (k.own b h4).trans h5, fun j x hx => (World.cell?_of_block (a := ⟨b, off + j, none⟩) (k.blk b h4 (by rw [h5]; exact t0))).trans (h6 j x hx)⟩
theorem NumsO.nums {w : World} {o : Nat → Nat} {v : Value} {l : List Int} (h : NumsO w o v l) : Nums w v l := by
  obtain ⟨A, c, h1, h2⟩ := h
  exact ⟨A, c, h1, fun hne => by obtain ⟨b, off, h3, h4, -, h6⟩ := h2 hne; exact ⟨b, off, h3, h4, h6⟩⟩
section
variable {M : List Nd} {w w' w1 wr wr' : World} {o o' o1 : Nat → Nat} {g : SG} {S : List Nat} {l : List Int} {left left' : List Value} {tkf mp : Value → Option Value} {bt bd r : Nat}
structure ApW (w1 wr : World) (ns : List Nd) (S : List Nat) (l : List Int) (r bt bd : Nat) (mp : Value → Option Value) (left : List Value) (tkf : Value → Option Value) : Prop where
  it : IterIs wr r bd mp left
  tm : MapIs 3 wr bt tkf
  gr : w1.grownBy wr (some bt)
  rr : ApR ns S l left tkf
def ApartPost (M : List Nd) (w : World) (o : Nat → Nat) (g : SG) (f : Nat) (l : List Int) (e : Ending) (w' : World) : Prop :=
  ∃ b : Bool, e = .returned (.bool b) ∧ (b = true ↔ ApartIs g.ns (vis g.ns [] f) l) ∧ ∃ o', StoreM M w' o' g ∧ Keep T0 w o w' o'
theorem ap_end (h1 : StoreM M w1 o1 g) (k1 : Keep T0 w o w1 o1) (hbt : w.heap.size ≤ bt) (ho : o1 bt = 0) (hg : w1.grownBy wr (some bt)) : ∃ o', StoreM M wr o' g ∧ Keep T0 w o wr o' := by
  refine ⟨o1, h1.keep (T := (· == 0)) (Keep.grown hg (fun k hk => by cases hk; rw [ho]; rfl) (fun _ _ => rfl)) ⟨rfl, rfl, rfl⟩ (fun b hb => h1.new b (Nat.le_trans hg.size hb)), ⟨hg.os.trans k1.os, hg.tape.trans k1.tape, hg.output.trans k1.output, Nat.le_trans k1.size hg.size, k1.own, fun k hk h0 => ?_⟩⟩
  exact (hg.block k (Nat.lt_of_lt_of_le hk k1.size) (by intro e; cases e; omega)).trans (k1.blk k hk h0)
def leftN (w : World) (r : Nat) : Nat := match w.heap[r]? with
  | some (.mapIter (some b) _ seen _) => (match w.heap[b]? with
    | some (.map es _) => (leftOf es seen).size
    | _ => 0)
  | _ => 0
theorem IterIs.leftN {b : Nat} (h : IterIs w r b mp left) : leftN w r = left.length := by
  obtain ⟨-, es, clock, since, seen, c0, h1, h2, -, -, -, -, -, -, rfl⟩ := h
  simp [Ytailpphafoamfaa.leftN, h1, h2]
theorem allB_at {n : Nat} (hall : allB n l = true) {j : Nat} {x : Int} (hx : l[j]? = some x) : 0 ≤ x ∧ x < (n : Int) := by
  have := List.all_eq_true.1 hall x (List.mem_of_getElem? hx)
  obtain ⟨k, rfl, hk⟩ := okB_nat this
  omega
set_option maxHeartbeats 8000000 in
set_option maxRecDepth 100000 in
theorem apart_any (h : StoreM M w o g) (f : Nat) (hv : f < g.ns.length) {vv : Value} (hl : NumsO w o vv l) (hlen : l.length = g.V) (hall : allB g.V l = true) : Calls Try.prog 50 #[.pointer (some ⟨g.s, 0, none⟩), .int .i64 (f : Int), vv] w (ApartPost M w o g f l) := by
  have hmm := @run_makeMap Try.prog
  have hm0 := MapIs.made (k := 3) w
  have HASK := Lib.hid (asked_any (h.alloc (.map #[] 0)) f hv)
  have HH := Lib.hid h
  have HF := Lib.hid hv
  obtain ⟨A, c, rfl, hcell⟩ := hl
  have HCE := Lib.hid hcell
  have HLV := Lib.hid (show l.length = g.V ∧ allB g.V l = true from ⟨hlen, hall⟩)
  have HM0 := Lib.hid hm0
  clear h hv hlen hall hm0 hcell
  go_enter Try.func50, Try.ntmps50
  go_wp2_with fail
  refine (HASK.out).mono ?_
  rintro e w1 ⟨bd, o1, mp, rfl, hs1, hk1, ho1, hm1, hd1⟩
  obtain ⟨w2, left0, hrg, hg2, hz2, hit, hleft⟩ := hm1.range Try.underlying119
  have HK1 := Lib.hid (show Keep T0 w o w1 o1 from (keep_alloc T0 w o _).trans hk1)
  obtain ⟨bt, hbt⟩ : ∃ bt, w.heap.size = bt := ⟨_, rfl⟩
  have hotw : o bt = 0 := HH.out.new bt (by omega)
  have htm1 : MapIs 3 w1 bt (fun _ => none) ∧ o1 bt = 0 := by
    rw [← hbt] at hotw ⊢
    exact ⟨HM0.out.move (hk1.blk _ HM0.out.lt (by rw [hotw]; rfl)), (hk1.own _ HM0.out.lt).trans hotw⟩
  have HW0 := Lib.hid (show ApW w1 w2 g.ns (vis g.ns [] f) l w1.heap.size bt bd mp left0 (fun _ => none) from ⟨hit, htm1.1.move (grown_far hg2 htm1.1.lt), ⟨hg2.os, hg2.tape, hg2.output, hg2.size, fun k hk _ => hg2.block k hk (by simp)⟩, ApR.start hd1 hleft⟩)
  have HEND := Lib.hid (fun (wr : World) (hg : w1.grownBy wr (some bt)) => ap_end hs1 HK1.out (by omega) htm1.2 hg)
  have HBD := Lib.hid (show bd ≠ bt ∧ bd < w1.heap.size ∧ bt < w1.heap.size from ⟨fun e => (by rw [e, htm1.2] at ho1; cases ho1), hm1.lt, htm1.1.lt⟩)
  have HAD := Lib.hid hd1
  have HWF := Lib.hid hs1
  rw [hbt]
  clear hs1 hk1 ho1 hm1 hd1 hg2 hz2 hit hleft htm1 hotw
  go_wp2
  go_loopw [8] (fun _ wr => ∃ left tkf, Hid (ApW w1 wr g.ns (vis g.ns [] f) l w1.heap.size bt bd mp left tkf)) (fun _ wr => leftN wr w1.heap.size)
  case atStart => exact ⟨left0, _, HW0⟩
  case round =>
    obtain ⟨left, tkf, hW⟩ := hrel
    have HW := hW
    have hmeas := HW.out.it.leftN
    rcases HW.out.it.next 0 with ⟨hemp, hrun⟩ | ⟨key, val, left', w5, hin, hval, hrun, hg5, hit5, hmem, hnin, hlt, hen⟩
    · have HR := Lib.hid (show ApartPost M w o g f l (.returned (.bool true)) wr from ⟨true, rfl, ⟨fun _ => (by have h1 := HW.out.rr; rw [hemp] at h1; exact h1.done), fun _ => rfl⟩, HEND.out wr HW.out.gr⟩)
      clear hemp hmeas hW
      go_wp2
      go_ret
      exact HR.out
    · obtain ⟨v, rfl, hav⟩ := HW.out.rr.le key hin
      have hvV : v < l.length := by
        obtain ⟨j, hj, n, hn, rfl⟩ := hav
        have h2 := HWF.out.wf.vis_ok f [] HF.out (by simp) (by simp)
        have h3 : 2 ≤ j := by rcases h2.2.2.2.1 j hj with h4 | h4; cases h4; exact h4.1
        have := (HWF.out.wf.nd j n h3 hn).1
        rw [HLV.out.1]; exact this
      obtain ⟨b, off, rfl, hbl, hob, hcl⟩ := HCE.out (by intro e; rw [e] at hvV; simp at hvV)
      obtain ⟨x, hx⟩ : ∃ x, l[v]? = some x := ⟨_, List.getElem?_eq_getElem hvV⟩
      have hgx : l.getD v 0 = x := by simp [List.getD_eq_getElem?_getD, hx]
      have hxb := allB_at HLV.out.2 hx
      have hVb := HWF.out.bd.1
      have hb5 : b < w5.heap.size ∧ w5.cell? ⟨b, off + v, none⟩ = some (.int .i64 x) := by
        have hb1 : b < w1.heap.size := Nat.lt_of_lt_of_le hbl HK1.out.size
        have e1 := HK1.out.blk b hbl (by rw [hob]; rfl)
        have e2 := HW.out.gr.block b hb1 (by intro e; cases e; omega)
        have hb2 : b < wr.heap.size := Nat.lt_of_lt_of_le hb1 HW.out.gr.size
        have e3 := hg5.block b hb2 (by intro e; cases e; omega)
        exact ⟨Nat.lt_of_lt_of_le hb2 hg5.size, (World.cell?_of_block (a := ⟨b, off + v, none⟩) (e3.trans (e2.trans e1))).trans (hcl v x hx)⟩
      obtain ⟨hb5l, hb5c⟩ := hb5
      have htm5 : MapIs 3 w5 bt tkf := HW.out.tm.move (hg5.block bt (Nat.lt_of_lt_of_le HBD.out.2.2 HW.out.gr.size) (by intro e; cases e; have := HBD.out.2.2; omega))
      have hgr5 : w1.grownBy w5 (some bt) := HW.out.gr.andThen hg5 (fun j hj => by cases hj; exact .inl (Nat.le_refl _))
      have hlk := htm5.look K3 Try.underlying119 (z65 _) (isK3 (x := x) (by omega))
      have hge : (tkf (.int .i64 x)).getD (.agg #[]) = .agg #[] := by
        cases h : tkf (.int .i64 x) with
        | none => rfl
        | some y => exact HW.out.rr.ag _ _ h
      rw [hge] at hlk
      have hent := hen w5 rfl rfl
      have q1 : (v : Int) < (l.length : Int) := by omega
      have q0 : (0 : Int) ≤ (v : Int) := by omega
      by_cases hs : (tkf (.int .i64 x)).isSome = true
      · rw [hs] at hlk
        have HR := Lib.hid (fun (X : Obj) => show ApartPost M w o g f l (.returned (.bool false)) (w5.alloc X) from ⟨false, rfl, ⟨fun h => (by cases h), fun h => absurd h (HW.out.rr.found hin hav (by rw [hgx]; exact hs))⟩, HEND.out _ (hgr5.andThen (grown_alloc w5 X) (fun j hj => by cases hj))⟩)
        clear hs hge hgr5 htm5 hmem hnin hit5 hlt hen hmeas hcl hbl hx hgx hxb hVb hav hin hval hg5 hW hvV
        go_wp2
        go_ret
        exact HR.out _
      · have hs' : (tkf (.int .i64 x)).isSome = false := by simpa using hs
        rw [hs'] at hlk
        obtain ⟨w9, hst, hm9, ht9⟩ := (htm5.move (heap_alloc_old (o := .cells #[] 65) htm5.lt)).store K3 Try.underlying119 (isK3 (x := x) (by omega)) (.agg #[])
        have hbtr : w1.heap.size ≠ bt := by have := HBD.out.2.2; omega
        have h59 : ∀ k, k < w5.heap.size → k ≠ bt → w9.heap[k]? = w5.heap[k]? := fun k hk hne => (ht9.grown.block k (by simp; omega) (by intro e; cases e; exact hne rfl)).trans (heap_alloc_old hk)
        have H9 := Lib.hid (show ApW w1 w9 g.ns (vis g.ns [] f) l w1.heap.size bt bd mp left' (updV tkf (.int .i64 x) (.agg #[])) ∧ left'.length < left.length from ⟨⟨hit5.move (h59 _ hit5.lt.1 hbtr) (h59 _ hit5.lt.2 HBD.out.1), hm9, (hgr5.andThen (grown_alloc w5 _) (fun j hj => by cases hj)).andThen ht9.grown (fun j hj => .inr hj), by
          have := HW.out.rr.step hmem hnin hav (by rw [hgx]; exact hs')
          rw [hgx] at this
          exact this⟩, hlt⟩)
        clear hs hs' hge hgr5 htm5 hmem hnin hit5 hlt hen hcl hbl hx hgx hxb hVb hav hin hval hg5 hW hvV hm9 ht9 h59 hbtr
        go_wp2
        refine ⟨⟨left', _, Lib.hid H9.out.1⟩, ?_⟩
        rw [hmeas, H9.out.1.it.leftN]
        exact H9.out.2
end

end Go.Proofs.Ytailpphafoamfaa
namespace Go.Proofs.Ytailpphafoamfaa
open Go Go.RowKit Go.Maps


/-- What the closure that renames has caught. -/
structure JRn (V : Nat) (E : Env) (bc b2 bq : Nat) (vv : Value) (l : List Int) (w : World) (o : Nat → Nat) (g : SG) (D : DG) : Prop where
  V : g.V = V
  at_ : ∃ mp, CombAt w o D.d E mp ∧ (D.full = true ∨ DoneOk iteB (lst g D) mp)
  cq : w.cell? ⟨bq, 0, none⟩ = some vv
  cc : w.cell? ⟨bc, 0, none⟩ = some (combV E)
  c2 : w.cell? ⟨b2, 0, none⟩ = some (.pointer (some ⟨D.d, 0, none⟩))
  nums : NumsO w o vv l
  oq : o bq = 0
  oc : o bc = 0
  o2 : o b2 = 0
theorem small32 {t : Nat} (h : t < 256) : wrap32 (t : Int) = (t : Int) ∧ IntKind.i32.wrap (t : Int) = (t : Int) := ⟨wrap32_id (by omega), IntWalk.i32_in _ (by omega)⟩
def toL (l : List Int) (v : Nat) : Nat := (l.getD v 0).toNat
section
variable {V : Nat} {E : Env} {bq bc b2 : Nat} {vv : Value} {l : List Int} {w w' : World} {o o' : Nat → Nat} {g g' : SG} {D D' : DG}
theorem JRn.keeps {T : Nat → Bool} (h : JRn V E bc b2 bq vv l w o g D) (k : Keep T w o w' o') (t0 : T 0 = false) (t7 : T 7 = false) : JRn V E bc b2 bq vv l w' o' g D := by
  obtain ⟨mp, h1, h2⟩ := h.at_
  exact ⟨h.V, ⟨mp, h1.keep k t0 t7, h2⟩, (k.box h.cq h.oq t0).1, (k.box h.cc h.oc t0).1, (k.box h.c2 h.o2 t0).1, h.nums.keep k t0, (k.box h.cq h.oq t0).2, (k.box h.cc h.oc t0).2, (k.box h.c2 h.o2 t0).2⟩
theorem JRn.after (h : JRn V E bc b2 bq vv l w o g D) (k : Keep Tc w o w' o') (e : Ext g D g' D') (ha : ∃ mp, CombAt w' o' D.d E mp ∧ (D'.full = true ∨ DoneOk iteB (lst g' D') mp)) : JRn V E bc b2 bq vv l w' o' g' D' := by
  obtain ⟨mp, h1, h2⟩ := ha
  exact ⟨e.V.trans h.V, ⟨mp, by rw [e.d]; exact h1, h2⟩, (k.box h.cq h.oq rfl).1, (k.box h.cc h.oc rfl).1, by rw [e.d]; exact (k.box h.c2 h.o2 rfl).1, h.nums.keep k rfl, (k.box h.cq h.oq rfl).2, (k.box h.cc h.oc rfl).2, (k.box h.c2 h.o2 rfl).2⟩
set_option maxHeartbeats 8000000 in
set_option maxRecDepth 100000 in
theorem renamed1_call (hfv : E.fv = CHO) (hlen : l.length = V) (hall : allB V l = true) (hs : DS w o g D) (hj : JRn V E bc b2 bq vv l w o g D) {j : Nat} {n : Nd} {x y : Nat} (h2 : 2 ≤ j) (hn : (lst g D)[j]? = some n) (hx : x < (lst g D).length) (hy : y < (lst g D).length) (hR : D.full = true ∨ (RN (toL l) (lst g D) n.a x ∧ RN (toL l) (lst g D) n.b y)) :
    Calls Try.prog 66 #[.int .i32 (n.v : Int), .int .i32 (x : Int), .int .i32 (y : Int), .pointer (some ⟨bc, 0, none⟩), .pointer (some ⟨b2, 0, none⟩), .pointer (some ⟨bq, 0, none⟩)] w (JoinPost (JRn V E bc b2 bq vv l) (RN (toL l)) (2 ^ V) w o g D j) := by
  have hnd := hs.wf.nd j n h2 hn
  have hbd := hs.st.bd
  have hV := hj.V
  have hvl : n.v < l.length := by omega
  obtain ⟨A, cap, rfl, hcell⟩ := hj.nums
  obtain ⟨bl, off, rfl, hbl, hob, hcl⟩ := hcell (by intro e; rw [e] at hvl; simp at hvl)
  obtain ⟨z, hz⟩ : ∃ z, l[n.v]? = some z := ⟨_, List.getElem?_eq_getElem hvl⟩
  have hzb := allB_at hall hz
  obtain ⟨tv, rfl⟩ : ∃ tv : Nat, z = (tv : Int) := ⟨z.toNat, by omega⟩
  have kz := hcl _ _ hz
  have htv : toL l n.v = tv := by simp [toL, List.getD_eq_getElem?_getD, hz]
  have cq := hj.cq
  have cc := hj.cc
  have c2 := hj.c2
  have HS := Lib.hid hs
  have HJ := Lib.hid hj
  have HN := Lib.hid hn
  have HND := Lib.hid hnd
  have HXY := Lib.hid (show x < (lst g D).length ∧ y < (lst g D).length ∧ 2 ≤ j ∧ tv < g.V from ⟨hx, hy, h2, by omega⟩)
  have HRR := Lib.hid hR
  have HF := Lib.hid hfv
  have HTV := Lib.hid htv
  have HLT := Lib.hid (show bc < w.heap.size ∧ b2 < w.heap.size ∧ bq < w.heap.size ∧ bl < w.heap.size from ⟨lt_cell cc, lt_cell c2, lt_cell cq, hbl⟩)
  have HOO := Lib.hid (show o bc = 0 ∧ o b2 = 0 ∧ o bq = 0 ∧ o bl = 0 from ⟨hj.oc, hj.o2, hj.oq, hob⟩)
  have hb8 : tv < 256 := by omega
  obtain ⟨qw, qw2⟩ := small32 hb8
  have q1 : (n.v : Int) < (l.length : Int) := by omega
  have q0 : (0 : Int) ≤ (n.v : Int) := by omega
  have hVV := pow_pos' V
  unfold combV at cc
  clear hs hj hn hnd hx hy hR hfv h2 hbd hcell hcl hz hzb hob hbl hlen hall htv hvl hV hb8
  go_enter Try.func66, Try.ntmps66
  go_wp2
  refine wp_region_T (S := fun w' => ∀ k ∈ [bc, b2, bq, bl], w'.heap[k]? = w.heap[k]?) (tail := fun j => decide (10 ≤ j)) (by kernel_rfl) ?_
  change wpAnyT _ _ _ _ _ _ _ _ _ (World.drew w)
  have BD := Lib.hid (show ∀ k ∈ [bc, b2, bq, bl], (World.drew w).heap[k]? = w.heap[k]? from fun _ _ => rfl)
  refine tk 0 10 (.func (.func 69) #[] #[.pointer (some ⟨E.b2, 0, none⟩), .pointer (some ⟨E.b3, 0, none⟩), .pointer (some ⟨E.b5, 0, none⟩), .pointer (some ⟨E.b6, 0, none⟩)]) BD.out ?y0 ?_
  case y0 =>
    intro w' hw'
    have y0 := (World.cell?_of_block (a := ⟨bc, 0, none⟩) (hw' _ (by simp))).trans cc
    go_simp
  try simp only [Act.put, List.setIfInBounds_toArray, List.set_cons_zero, List.set_cons_succ]
  refine tk 1 11 (.pointer (some ⟨D.d, 0, none⟩)) BD.out ?y1 ?_
  case y1 =>
    intro w' hw'
    have y0 := (World.cell?_of_block (a := ⟨b2, 0, none⟩) (hw' _ (by simp))).trans c2
    go_simp
  try simp only [Act.put, List.setIfInBounds_toArray, List.set_cons_zero, List.set_cons_succ]
  refine tk 2 12 (.slice (some ⟨bl, off, none⟩) l.length cap) BD.out ?y2 ?_
  case y2 =>
    intro w' hw'
    have y0 := (World.cell?_of_block (a := ⟨bq, 0, none⟩) (hw' _ (by simp))).trans cq
    go_simp
  try simp only [Act.put, List.setIfInBounds_toArray, List.set_cons_zero, List.set_cons_succ]
  refine tk 3 13 (.int .i32 (n.v : Int)) BD.out ?y3 ?_
  case y3 =>
    intro w' hw'
    go_simp
  try simp only [Act.put, List.setIfInBounds_toArray, List.set_cons_zero, List.set_cons_succ]
  refine tk 4 14 (.pointer (some ⟨bl, off + n.v, none⟩)) BD.out ?y4 ?_
  case y4 =>
    intro w' hw'
    go_simp
  try simp only [Act.put, List.setIfInBounds_toArray, List.set_cons_zero, List.set_cons_succ]
  refine tk 5 15 (.int .i64 (tv : Int)) BD.out ?y5 ?_
  case y5 =>
    intro w' hw'
    have z0 := (World.cell?_of_block (a := ⟨bl, off + n.v, none⟩) (hw' bl (by simp))).trans kz
    go_simp
  try simp only [Act.put, List.setIfInBounds_toArray, List.set_cons_zero, List.set_cons_succ]
  refine tk 6 16 (.int .i32 (tv : Int)) BD.out ?y6 ?_
  case y6 =>
    intro w' hw'
    go_simp
  try simp only [Act.put, List.setIfInBounds_toArray, List.set_cons_zero, List.set_cons_succ]
  refine tk 8 18 (.int .i32 (y : Int)) BD.out ?y8 ?_
  case y8 =>
    intro w' hw'
    go_simp
  try simp only [Act.put, List.setIfInBounds_toArray, List.set_cons_zero, List.set_cons_succ]
  refine tk 9 19 (.int .i32 (x : Int)) BD.out ?y9 ?_
  case y9 =>
    intro w' hw'
    go_simp
  try simp only [Act.put, List.setIfInBounds_toArray, List.set_cons_zero, List.set_cons_succ]
  refine on 7 (fun K hK => ?_)
  go_simp
  refine (node_any (n := ⟨tv, 0, 1⟩) HS.out.drew ⟨by have := HS.out.wf.two; show 0 < _; omega, by have := HS.out.wf.two; show 1 < _; omega, by have h1 := HXY.out.2.2.2; have h2 := HS.out.st.bd; show tv < _; omega, fun _ _ => ⟨HXY.out.2.2.2, by rw [HS.out.wf.ask0]; exact HXY.out.2.2.2, by rw [HS.out.wf.ask1]; exact HXY.out.2.2.2⟩⟩).mono ?_
  rintro e w4 ⟨q, o4, g4, D4, rfl, hout⟩
  have HO := Lib.hid hout
  have HKd := Lib.hid (show Keep Td w o w4 o4 from (keep_drew _ w o).trans hout.keep)
  have HK4 := Lib.hid (show Keep Tc w o w4 o4 from HKd.out.more td_tc)
  obtain ⟨mp, hca, hdn⟩ := HJ.out.at_
  have hca4 := hca.keep HKd.out rfl rfl
  have hdn4 : D4.full = true ∨ DoneOk iteB (lst g4 D4) mp := by
    cases hfu : D4.full with
    | true => exact .inl rfl
    | false => exact .inr (hout.ext.edone HS.out hout.ds (hdn.resolve_left (by rw [full_false hout.ext hfu]; simp)))
  have HJ4 := Lib.hid (HJ.out.after HK4.out hout.ext ⟨mp, hca4, hdn4⟩)
  have HCA := Lib.hid (show CombAt w4 o4 D4.d E mp ∧ (D4.full = true ∨ DoneOk iteB (lst g4 D4) mp) from ⟨by rw [hout.ext.d]; exact hca4, hdn4⟩)
  refine hK.out _ _ (fun _ k hk2 => (HK4.out.blk k (by
    have hL := HLT.out
    rcases (by simpa using hk2 : k = bc ∨ k = b2 ∨ k = bq ∨ k = bl) with rfl | rfl | rfl | rfl
    · exact hL.1
    · exact hL.2.1
    · exact hL.2.2.1
    · exact hL.2.2.2) (by
    have hL := HOO.out
    rcases (by simpa using hk2 : k = bc ∨ k = b2 ∨ k = bq ∨ k = bl) with rfl | rfl | rfl | rfl
    · rw [hL.1]; rfl
    · rw [hL.2.1]; rfl
    · rw [hL.2.2.1]; rfl
    · rw [hL.2.2.2]; rfl))) ?_
  clear hK K hout hca hdn hca4 hdn4
  try simp only [Act.put, List.setIfInBounds_toArray, List.set_cons_zero, List.set_cons_succ]
  refine on 10 (fun K hK => ?_)
  go_simp
  refine (combC_any chosen_settles g4.V w4 o4 g4 D4 E mp q y x HO.out.ds HCA.out.1 (by rw [HF.out]; exact set_chosen) HCA.out.2 HO.out.lt (Nat.lt_of_lt_of_le HXY.out.2.1 HO.out.ext.len_le) (Nat.lt_of_lt_of_le HXY.out.1 HO.out.ext.len_le) (by omega)).mono ?_
  rintro e w5 ⟨r, o5, g5, D5, mp5, rfl, hc⟩
  have hJ5 := HJ4.out.after hc.keep hc.ext ⟨mp5, by have := hc.at_; exact this, hc.mp⟩
  have HR := Lib.hid (show JoinPost (JRn V E bc b2 bq (.slice (some ⟨bl, off, none⟩) l.length cap) l) (RN (toL l)) (2 ^ V) w o g D j (.returned (.int .i32 (r : Int))) w5 from ⟨r, o5, g5, D5, rfl, hc.ds, hJ5, HK4.out.trans hc.keep, HO.out.ext.trans hc.ext, hc.lt, (by
    cases hfu : D5.full with
    | true => exact .inl rfl
    | false =>
      right
      have hf4 := full_false hc.ext hfu
      have hD := full_false HO.out.ext hf4
      obtain ⟨ra, rb⟩ := HRR.out.resolve_left (by rw [hD]; simp)
      obtain ⟨K4, hK4, hw1, hw2⟩ := HO.out.ext.emore HS.out HO.out.ds
      obtain ⟨K5, hK5, hw3, hw4⟩ := hc.ext.emore HO.out.ds hc.ds
      have ci := hc.is.resolve_left (by rw [hfu]; simp)
      have qi := HO.out.is.resolve_left (by rintro ⟨-, h2⟩; rw [hf4] at h2; cases h2)
      have hjl := (List.getElem?_eq_some_iff.1 HN.out).1
      have hle := HO.out.ext.len_le
      have hxy := HXY.out
      have hla := Nat.lt_trans HND.out.2.1 hjl
      have hlb := Nat.lt_trans HND.out.2.2.1 hjl
      have qi5 : NodeIs (lst g5 D5) ⟨toL l n.v, 0, 1⟩ q := by
        rw [HTV.out]
        rcases qi with ⟨e1, -⟩ | ⟨e1, e2, e3⟩
        · cases e1
        · exact .inr ⟨e1, e2, by rw [hK5, List.getElem?_append_left (List.getElem?_eq_some_iff.1 e3).1]; exact e3⟩
      have hn5 : (lst g5 D5)[j]? = some n := by
        rw [hK5, List.getElem?_append_left (Nat.lt_of_lt_of_le hjl hle), hK4, List.getElem?_append_left hjl]
        exact HN.out
      have ra4 : RN (toL l) (lst g4 D4) n.a x := by rw [hK4]; exact ra.mono hw1 hw2 hla hxy.1
      have rb4 : RN (toL l) (lst g4 D4) n.b y := by rw [hK4]; exact rb.mono hw1 hw2 hlb hxy.2.1
      have ra5 : RN (toL l) (lst g5 D5) n.a x := by rw [hK5]; exact ra4.mono hw3 hw4 (Nat.lt_of_lt_of_le hla hle) (Nat.lt_of_lt_of_le hxy.1 hle)
      have rb5 : RN (toL l) (lst g5 D5) n.b y := by rw [hK5]; exact rb4.mono hw3 hw4 (Nat.lt_of_lt_of_le hlb hle) (Nat.lt_of_lt_of_le hxy.2.1 hle)
      exact RN.node hc.ds.wf hxy.2.2.1 hn5 ra5 rb5 qi5 ci), by
    have h1 := hc.len
    have h2 := HO.out.len
    have h3 := pow_le_V g4.V (m3 (lst g4 D4) q y x)
    have h4 := HJ.out.V
    have h5 : g4.V = g.V := HO.out.ext.V
    rw [← h4, ← h5]; omega, by
    have h1 := hc.W
    have h2 := HO.out.W1
    have h3 := pow_le_V g4.V (m3 (lst g4 D4) q y x)
    have h4 := HJ.out.V
    have h5 : g4.V = g.V := HO.out.ext.V
    rw [← h4, ← h5]; omega⟩)
  refine hK.out _ _ (fun h => absurd h (by decide)) ?_
  clear hK K hc hJ5
  try simp only [Act.put, List.setIfInBounds_toArray, List.set_cons_zero, List.set_cons_succ]
  refine tkM 11 9 (.int .i32 (r : Int)) ?y11 ?_
  case y11 =>
    intro w'
    go_simp
  try simp only [Act.put, List.setIfInBounds_toArray, List.set_cons_zero, List.set_cons_succ]
  refine dn ?_
  go_wp2
  go_ret
  exact HR.out
theorem renamed1_join (hfv : E.fv = CHO) (hlen : l.length = V) (hall : allB V l = true) : JoinS 66 (.pointer (some ⟨bc, 0, none⟩)) (.pointer (some ⟨b2, 0, none⟩)) (.pointer (some ⟨bq, 0, none⟩)) (JRn V E bc b2 bq vv l) (RN (toL l)) (2 ^ V) where
  enters := enters_of Try.func66 (by kernel_rfl) rfl
  keeps := fun h k t0 t7 => h.keeps k t0 t7
  call := fun w o g D j n x y hs hj h2 hn hx hy hR => renamed1_call hfv hlen hall hs hj h2 hn hx hy hR
  mono := fun hw hw' hj hr h => h.mono hw hw' hj hr
  r0 := fun _ => RN.zero
  r1 := fun _ => RN.one
end

end Go.Proofs.Ytailpphafoamfaa
namespace Go.Proofs.Ytailpphafoamfaa
open Go Go.RowKit Go.Maps


section
variable {w w' : World} {o o' : Nat → Nat} {g g' : SG} {D D' : DG} {l : List Int}
def RenamedPost (w : World) (o : Nat → Nat) (g : SG) (D : DG) (vv : Value) (l : List Int) (e : Ending) (w' : World) : Prop :=
  ∃ (R : REnv) (E : Env) (bc b2 bq : Nat) (o' : Nat → Nat), e = .returned (rebV R) ∧ R.jv = .func (.func 66) #[] #[.pointer (some ⟨bc, 0, none⟩), .pointer (some ⟨b2, 0, none⟩), .pointer (some ⟨bq, 0, none⟩)] ∧ DS w' o' g D ∧ RebAt w' o' D.d R mp01 ∧ JRn g.V E bc b2 bq vv l w' o' g D ∧ E.fv = CHO ∧ Keep (fun _ => false) w o w' o'
set_option maxHeartbeats 8000000 in
set_option maxRecDepth 100000 in
theorem renamed_any (hs : DS w o g D) {vv : Value} (hv : NumsO w o vv l) : Calls Try.prog 51 #[.pointer (some ⟨D.d, 0, none⟩), vv] w (RenamedPost w o g D vv l) := by
  have hmf : ∀ (fn : Fn) (first cap : Array Value) (w : World), (Instr.makeFunc fn first cap).run Try.prog w = .ok (.func fn first cap) w := fun _ _ _ _ => rfl
  have HNM := Lib.hid hv
  obtain ⟨A, c, rfl, -⟩ := hv
  obtain ⟨wr, hwr⟩ : ∃ wr, (w.alloc (.cells #[.pointer (some ⟨D.d, 0, none⟩)] 94)).alloc (.cells #[.slice A l.length c] 28) = wr := ⟨_, rfl⟩
  have hgr : w.grownBy wr none := by rw [← hwr]; exact grown_trans (grown_alloc _ _) (grown_alloc _ _)
  have hz : wr.heap.size = w.heap.size + 2 := by rw [← hwr]; simp
  have hc2 : wr.cell? ⟨w.heap.size, 0, none⟩ = some (.pointer (some ⟨D.d, 0, none⟩)) := by
    have e : wr.heap[w.heap.size]? = some (.cells #[.pointer (some ⟨D.d, 0, none⟩)] 94 (0, 0)) := by
      rw [← hwr, heap_alloc_old (by simp)]
      exact (MapKept.heap_alloc w _).1
    exact (cell_of e).trans rfl
  have hcq : wr.cell? ⟨w.heap.size + 1, 0, none⟩ = some (.slice A l.length c) := by
    have := (MapKept.heap_alloc (w.alloc (.cells #[.pointer (some ⟨D.d, 0, none⟩)] 94)) (.cells #[.slice A l.length c] 28)).1
    have e : (w.alloc (.cells #[.pointer (some ⟨D.d, 0, none⟩)] 94)).heap.size = w.heap.size + 1 := by simp
    rw [e, hwr] at this
    exact (cell_of this).trans rfl
  have HS := Lib.hid hs
  have HG := Lib.hid hgr
  have HSR := Lib.hid (hs.grown hgr)
  have HCB := Lib.hid (combiner_any HSR.out CHO set_chosen)
  have HZ := Lib.hid hz
  have HC2 := Lib.hid hc2
  have HCQ := Lib.hid hcq
  rw [← hwr] at HCB
  have HWR := Lib.hid hwr
  clear hs hwr hgr hz hc2 hcq
  unfold CHO at HCB
  go_enter Try.func51, Try.ntmps51
  go_wp2_with fail
  refine (HCB.out).mono ?_
  rintro e w3 ⟨E, o3, rfl, hfv, hs3, hc3, hk3⟩
  rw [HWR.out] at hk3
  unfold combV
  obtain ⟨b2, hb2⟩ : ∃ b2, w.heap.size = b2 := ⟨_, rfl⟩
  obtain ⟨bq, hbq⟩ : ∃ bq, b2 + 1 = bq := ⟨_, rfl⟩
  rw [hb2] at HZ HC2 HCQ ⊢
  rw [hbq] at HCQ ⊢
  have hwz := HZ.out
  have HO := Lib.hid (show o3 b2 = 0 ∧ o3 bq = 0 from ⟨(hk3.own b2 (by omega)).trans (HS.out.st.new b2 (by omega)), (hk3.own bq (by omega)).trans (HS.out.st.new bq (by omega))⟩)
  have HFV := Lib.hid hfv
  have c2' : w3.cell? ⟨b2, 0, none⟩ = some (.pointer (some ⟨D.d, 0, none⟩)) := (World.cell?_of_block (a := ⟨b2, 0, none⟩) (hk3.blk _ (by show b2 < _; omega) rfl)).trans HC2.out
  have cq' : w3.cell? ⟨bq, 0, none⟩ = some (.slice A l.length c) := (World.cell?_of_block (a := ⟨bq, 0, none⟩) (hk3.blk _ (by show bq < _; omega) rfl)).trans HCQ.out
  obtain ⟨w4, hw4⟩ : ∃ w4, w3.alloc (.cells #[combV E] 100) = w4 := ⟨_, rfl⟩
  have hg4 : w3.grownBy w4 none := by rw [← hw4]; exact grown_alloc _ _
  have hcc : w4.cell? ⟨w3.heap.size, 0, none⟩ = some (combV E) := by rw [← hw4]; simp
  have HK4 := Lib.hid (show Keep (fun _ => false) w o w4 o3 from (keep_none _ o HG.out).trans (hk3.trans (keep_none _ o3 hg4)))
  have HJ4 := Lib.hid (show JRn g.V E w3.heap.size b2 bq (.slice A l.length c) l w4 o3 g D from ⟨rfl, ⟨_, hc3.keep (keep_none (fun _ => false) o3 hg4) rfl rfl, .inr (done_none _ _)⟩,
    (World.cell?_of_block (a := ⟨bq, 0, none⟩) (grown_far hg4 (lt_cell cq'))).trans cq', hcc, (World.cell?_of_block (a := ⟨b2, 0, none⟩) (grown_far hg4 (lt_cell c2'))).trans c2', HNM.out.keep HK4.out rfl, HO.out.2, hs3.st.new _ (Nat.le_refl _), HO.out.1⟩)
  have HS4 := Lib.hid (hs3.grown hg4)
  have lb2 : b2 < w3.heap.size := lt_cell c2'
  have HRB := Lib.hid (rebuilder_any HS4.out 66 (.pointer (some ⟨w3.heap.size, 0, none⟩)) (.pointer (some ⟨b2, 0, none⟩)) (.pointer (some ⟨bq, 0, none⟩)))
  have hz1 : ((w3.alloc (.cells #[.nilFunc] 100)).cell? ⟨w3.heap.size, 0, none⟩) = some .nilFunc := by simp
  have hz2 : ((w3.alloc (.cells #[.nilFunc] 100)).frozen? ⟨w3.heap.size, 0, none⟩) = false := frz_of (MapKept.heap_alloc w3 _).1
  clear hfv hs3 hc3 hk3 cq' hg4 hcc hwz
  go_wp2_with fail
  change Calls _ _ _ (w3.alloc (.cells #[combV E] 100)) _
  rw [hw4]
  clear hw4
  refine (HRB.out).mono ?_
  rintro e w5 ⟨R, o5, rfl, hjv, hs5, ha5, hk5⟩
  have HR := Lib.hid (show RenamedPost w o g D (.slice A l.length c) l (.returned (rebV R)) w5 from ⟨R, E, w3.heap.size, b2, bq, o5, rfl, hjv, hs5, ha5, HJ4.out.keeps hk5 rfl rfl, HFV.out, HK4.out.trans hk5⟩)
  unfold rebV at HR
  unfold rebV
  clear hjv hs5 ha5 hk5
  go_wp2
  go_ret
  exact HR.out
end

end Go.Proofs.Ytailpphafoamfaa
namespace Go.Proofs.Ytailpphafoamfaa
open Go Go.RowKit Go.Maps


section
variable {w w' : World} {o o' : Nat → Nat} {g g' : SG} {D D' : DG} {l : List Int}
/-- What a renaming must be. -/
def RenOk (g : SG) (f : Nat) (l : List Int) : Prop := l.length = g.V ∧ allB g.V l = true ∧ ApartIs g.ns (vis g.ns [] f) l
def RenamePost (w : World) (o : Nat → Nat) (g : SG) (f : Int) (l : List Int) (e : Ending) (w' : World) : Prop :=
  (okB g.ns.length f = false → bad92 w e w') ∧ (okB g.ns.length f = true → ¬ RenOk g f.toNat l → e = .returned (.tuple #[.int .i64 0, .int .i64 91]) ∧ ∃ o', StoreAt w' o' g ∧ Keep T0 w o w' o') ∧
    (okB g.ns.length f = true → RenOk g f.toNat l → OpPost w o g (fun m => ev g.ns f.toNat (fun x => m (toL l x))) (2 ^ g.V * 2 ^ (g.V - ask g.ns f.toNat) - 2 ^ g.V) 0 e w')
set_option maxHeartbeats 8000000 in
set_option maxRecDepth 100000 in
theorem rename_bad92 (h : StoreAt w o g) (f : Int) (hv : okB g.ns.length f = false) {vv : Value} (hl : NumsO w o vv l) : Calls Try.prog 29 #[.pointer (some ⟨g.s, 0, none⟩), .int .i64 f, vv] w (RenamePost w o g f l) := by
  have HV := Lib.hid (hasNodes_any (h.alloc (.cells #[.int .i64 f] 3)) (nums_one w f) (by simp))
  have e0 : allB g.ns.length [f] = false := by simp [allB, hv]
  rw [e0] at HV
  have HE := Lib.hid (show RenamePost w o g f l (.returned (.tuple #[.int .i64 0, .int .i64 92])) (w.alloc (.cells #[.int .i64 f] 3)) from ⟨fun _ => ⟨rfl, grown_alloc _ _⟩, fun h1 => (by rw [hv] at h1; cases h1), fun h1 => (by rw [hv] at h1; cases h1)⟩)
  have hnot : ∀ (x : Bool) (w : World), (Op.unary .not (.bool x)).run Try.prog w = .ok (.bool (!x)) w := fun _ _ => rfl
  obtain ⟨A, c, rfl, -⟩ := hl
  clear h hv e0
  go_enter Try.func29, Try.ntmps29
  go_wp2_with fail
  refine (HV.out).mono ?_
  rintro e w1 ⟨rfl, rfl⟩
  go_wp2
  go_ret2
  exact HE.out
set_option maxHeartbeats 8000000 in
set_option maxRecDepth 100000 in
theorem rename_good (h : StoreAt w o g) (f : Nat) (hf : f < g.ns.length) {vv : Value} (hl : NumsO w o vv l) (hll : l.length ≤ 1000000) : Calls Try.prog 29 #[.pointer (some ⟨g.s, 0, none⟩), .int .i64 (f : Int), vv] w (RenamePost w o g (f : Int) l) := by
  have HV := Lib.hid (hasNodes_any (h.alloc (.cells #[.int .i64 (f : Int)] 3)) (nums_one w (f : Int)) (by simp))
  have e1 := okB_of hf
  have e0 : allB g.ns.length [(f : Int)] = true := by simp [allB, e1]
  rw [e0] at HV
  have HA := Lib.hid (h.alloc (.cells #[.int .i64 (f : Int)] 3))
  have HKA := Lib.hid (keep_alloc T0 w o (.cells #[.int .i64 (f : Int)] 3))
  have hl1 := hl.keep (keep_alloc (fun _ => false) w o (.cells #[.int .i64 (f : Int)] 3)) rfl
  have HQ := Lib.hid (hasVars_any (h.alloc (.cells #[.int .i64 (f : Int)] 3)) hl1.nums hll)
  have HNL := Lib.hid hl1
  have HE := Lib.hid e1
  have s0 := HA.out.cell0
  have hbd := h.bd
  have qw : wrap32 (f : Int) = (f : Int) := wrap32_id (by omega)
  have HH := Lib.hid h
  have HF := Lib.hid hf
  have hnot : ∀ (x : Bool) (w : World), (Op.unary .not (.bool x)).run Try.prog w = .ok (.bool (!x)) w := fun _ _ => rfl
  have HBAD := Lib.hid (fun (w' : World) (o' : Nat → Nat) (h1 : StoreAt w' o' g) (h2 : Keep T0 w o w' o') (h3 : ¬ RenOk g f l) => show RenamePost w o g (f : Int) l (.returned (.tuple #[.int .i64 0, .int .i64 91])) w' from ⟨fun h4 => (by rw [e1] at h4; cases h4), fun _ _ => ⟨rfl, o', h1, h2⟩, fun _ h4 => absurd h4 h3⟩)
  obtain ⟨A, c, rfl, -⟩ := hl
  by_cases hlen : l.length = g.V
  · have qn : (((l.length : Nat) : Int) != ((g.V : Nat) : Int)) = false := by simp; omega
    have HLEN := Lib.hid hlen
    cases hall : allB g.V l with
    | false =>
      rw [hall] at HQ
      have HR := Lib.hid (HBAD.out _ o HA.out HKA.out (fun h => by have := h.2.1; rw [hall] at this; cases this))
      clear h e1 e0 hll hbd hf hl1 hlen hall
      go_enter Try.func29, Try.ntmps29
      go_wp2_with fail
      refine (HV.out).mono ?_
      rintro e w1 ⟨rfl, hw1⟩
      rw [hw1] at HQ HR s0
      clear hw1
      go_wp2_with fail
      refine (HQ.out).mono ?_
      rintro e w2 ⟨rfl, rfl⟩
      go_wp2
      go_ret2
      exact HR.out
    | true =>
      rw [hall] at HQ
      have HALL := Lib.hid hall
      have HAP := Lib.hid (apart_any HA.out f HF.out HNL.out hlen hall)
      clear h e1 e0 hll hbd hf hl1 hlen hall
      go_enter Try.func29, Try.ntmps29
      go_wp2_with fail
      refine (HV.out).mono ?_
      rintro e w1 ⟨rfl, hw1⟩
      rw [hw1] at HQ HAP s0 HKA HNL
      clear hw1
      go_wp2_with fail
      refine (HQ.out).mono ?_
      rintro e w2 ⟨rfl, hw2⟩
      rw [hw2] at HAP HKA HNL
      clear hw2 s0
      go_wp2_with fail
      refine (HAP.out).mono ?_
      rintro e w3 ⟨b, rfl, hb, o3, hs3, hk3⟩
      cases b with
      | false =>
        have HR := Lib.hid (HBAD.out w3 o3 hs3 (HKA.out.trans hk3) (fun h => by have := hb.2 h.2.2; cases this))
        clear hb hs3 hk3
        go_wp2
        go_ret2
        exact HR.out
      | true =>
        have HOK := Lib.hid (show RenOk g f l from ⟨HLEN.out, HALL.out, hb.1 rfl⟩)
        have HK3 := Lib.hid (show Keep T0 w o w3 o3 from HKA.out.trans hk3)
        have HDR := Lib.hid (draft_any hs3)
        have HN3 := Lib.hid (HNL.out.keep hk3 rfl)
        clear hb hs3 hk3
        go_wp2_with fail
        refine (HDR.out).mono ?_
        rintro e w4 ⟨d, dm, o4, rfl, hst, hdr, hk⟩
        have HS2 := Lib.hid (show DS w4 o4 g _ from ⟨hst, hdr⟩)
        have HK2 := Lib.hid (show Keep T0 w o w4 o4 from HK3.out.trans (hk.more (t0_of rfl)))
        have HN2 := Lib.hid (HN3.out.keep hk rfl)
        clear hst hdr hk
        have HWT := Lib.hid (renamed_any HS2.out HN2.out)
        go_wp2_with fail
        refine (HWT.out).mono ?_
        rintro e w5 ⟨R, E, bc, b2, bq, o5, rfl, hjv, hs5, ha5, hj5, hfv, hk5⟩
        have HK5 := Lib.hid hk5
        have HJS := Lib.hid (renamed1_join (V := g.V) (bq := bq) (bc := bc) (b2 := b2) (vv := .slice A l.length c) hfv HLEN.out HALL.out)
        have HRB := Lib.hid (reb_any HJS.out f w5 o5 g _ R mp01 hs5 hj5 ha5 hjv (rdone_start HJS.out hs5.wf _) (by unfold lst; simp; exact HF.out))
        clear hjv hs5 ha5 hj5 hfv hk5
        unfold rebV
        go_wp2_with fail
        refine (HRB.out).mono ?_
        rintro e w6 ⟨r, o6, g6, D6, mp6, rfl, hout⟩
        have HO := Lib.hid hout
        have hkp := keep_any hout.ds hout.lt
        rw [hout.ext.d] at hkp
        have HKP := Lib.hid hkp
        clear hout hkp
        go_wp2_with fail
        refine (HKP.out).mono ?_
        intro e w7 hp
        have hop := op_reb (F := fun m => ev g.ns f (fun x => m (toL l x))) HK2.out HS2.out ⟨rfl, Nat.le_max_left _ _⟩ HK5.out HF.out HO.out (fun L K hw hL hR m => by
          rw [hR m, hL]
          exact ev_app HH.out.wf (by rw [← hL]; exact hw) _ f HF.out) hp
        have HFIN := Lib.hid (show RenamePost w o g (f : Int) l e w7 from ⟨fun h4 => (by have := HE.out; rw [this] at h4; cases h4), fun _ h4 => absurd HOK.out h4, fun _ _ => hop⟩)
        clear hop
        rcases hp with ⟨rfl, -⟩ | ⟨r', o', g', rfl, -⟩
        · go_wp2
          go_ret2
          exact HFIN.out
        · go_wp2
          go_ret2
          exact HFIN.out
  · have qn : (((l.length : Nat) : Int) != ((g.V : Nat) : Int)) = true := by simp; omega
    have HR := Lib.hid (HBAD.out _ o HA.out HKA.out (fun h => hlen h.1))
    clear h e1 e0 hll hbd hf hl1 hlen
    go_enter Try.func29, Try.ntmps29
    go_wp2_with fail
    refine (HV.out).mono ?_
    rintro e w1 ⟨rfl, hw1⟩
    rw [hw1] at HR s0
    clear hw1
    go_wp2
    go_ret2
    exact HR.out
theorem rename_any (h : StoreAt w o g) (f : Int) {vv : Value} (hl : NumsO w o vv l) (hll : l.length ≤ 1000000) : Calls Try.prog 29 #[.pointer (some ⟨g.s, 0, none⟩), .int .i64 f, vv] w (RenamePost w o g f l) := by
  cases hv : okB g.ns.length f with
  | false => exact rename_bad92 h f hv hl
  | true =>
    obtain ⟨k, rfl, hk⟩ := okB_nat hv
    exact rename_good h k hk hl hll
end

end Go.Proofs.Ytailpphafoamfaa
namespace Go.Proofs.Ytailpphafoamfaa
open Go Go.RowKit Go.Maps


theorem tmod_bounds (x n : Int) (hn : 0 < n) : -n < x.tmod n ∧ x.tmod n < n := by
  have h1 := Int.tmod_lt_of_pos x hn
  have h2 := Int.tmod_lt_of_pos (-x) hn
  rw [Int.neg_tmod] at h2
  omega
theorem tmod_emod (x n : Int) : x % n = x.tmod n % n := by
  have h := Int.mul_tdiv_add_tmod x n
  have h2 : x.tmod n % n = (x.tmod n + n * x.tdiv n) % n := by rw [Int.add_mul_emod_self_left]
  rw [h2, Int.add_comm, h]
theorem fit_eq (x n : Int) (hn : 0 < n) : x % n = if x.tmod n < 0 then x.tmod n + n else x.tmod n := by
  obtain ⟨h1, h2⟩ := tmod_bounds x n hn
  rw [tmod_emod]
  split
  · have : x.tmod n % n = (x.tmod n + n) % n := by simp
    rw [this, Int.emod_eq_of_lt (by omega) (by omega)]
  · rw [Int.emod_eq_of_lt (by omega) (by omega)]
set_option maxHeartbeats 8000000 in
set_option maxRecDepth 100000 in
theorem fit_any (w : World) (x n : Int) (hn : 0 < n ∧ n ≤ 1000000) : Calls Try.prog 42 #[.int .i64 x, .int .i64 n] w fun e w' => e = .returned (.int .i64 (x % n)) ∧ w = w' := by
  have hfe := fit_eq x n hn.1
  obtain ⟨hb1, hb2⟩ := tmod_bounds x n hn.1
  have hn0 : n ≠ 0 := by omega
  obtain ⟨h1, h2⟩ := hn
  rw [hfe]
  by_cases hneg : x.tmod n < 0
  · rw [if_pos hneg]
    obtain ⟨t, ht⟩ : ∃ t, x.tmod n = t := ⟨_, rfl⟩
    rw [ht] at hneg hb1 hb2 ⊢
    clear hfe
    go_enter Try.func42, Try.ntmps42
    go_wp2
    go_ret
    exact ⟨rfl, rfl⟩
  · rw [if_neg hneg]
    obtain ⟨t, ht⟩ : ∃ t, x.tmod n = t := ⟨_, rfl⟩
    rw [ht] at hneg hb1 hb2 ⊢
    clear hfe
    go_enter Try.func42, Try.ntmps42
    go_wp2
    go_ret
    exact ⟨rfl, rfl⟩

end Go.Proofs.Ytailpphafoamfaa
namespace Go.Proofs.Ytailpphafoamfaa
open Go Go.RowKit Go.Maps


section
variable {w : World} {va vb : Value} {la lb : List Bool}
theorem take_next {l : List Bool} {k : Nat} {x : Bool} (hx : l[k]? = some x) : l.take (k + 1) = l.take k ++ [x] := by
  obtain ⟨h1, h2⟩ := List.getElem?_eq_some_iff.1 hx
  rw [List.take_succ_eq_append_getElem h1, h2]
set_option maxHeartbeats 8000000 in
set_option maxRecDepth 100000 in
theorem same_any (ha : Bools w va la) (hb : Bools w vb lb) (hl : la.length ≤ 1000000 ∧ lb.length ≤ 1000000) : Calls Try.prog 15 #[va, vb] w fun e w' => e = .returned (.bool (decide (la = lb))) ∧ w.grownBy w' none := by
  have HA := Lib.hid ha
  have HB := Lib.hid hb
  obtain ⟨A, ca, rfl, -⟩ := ha
  obtain ⟨B, cb, rfl, -⟩ := hb
  have HL := Lib.hid hl
  by_cases hlen : la.length = lb.length
  · have HLEN := Lib.hid hlen
    have qn : (((la.length : Nat) : Int) != ((lb.length : Nat) : Int)) = false := by simp; omega
    obtain ⟨n, hn⟩ : ∃ n, la.length = n := ⟨_, rfl⟩
    obtain ⟨n2, hn2⟩ : ∃ n2, lb.length = n2 := ⟨_, rfl⟩
    rw [hn, hn2] at qn ⊢
    have HN := Lib.hid (show la.length = n ∧ lb.length = n2 ∧ n = n2 from ⟨hn, hn2, by omega⟩)
    have hnb : n ≤ 1000000 := by omega
    clear hlen hl hn hn2
    go_enter Try.func15, Try.ntmps15
    go_wp2
    go_loopw [5] (fun v wr => ∃ k : Nat, v = .int .i64 (k : Int) ∧ k ≤ n ∧ Hid (la.take k = lb.take k ∧ w.grownBy wr none)) (fun v _ => n - (intOf v).toNat)
    case atStart => exact ⟨0, rfl, Nat.zero_le _, Lib.hid ⟨rfl, World.grownBy.refl _ _⟩⟩
    case round =>
      obtain ⟨k, rfl, hk, hI⟩ := hrel
      have HI := hI
      by_cases hlt : k < n
      · obtain ⟨A', ca', hA', hca⟩ := HA.out.grown HI.out.2
        rw [HN.out.1] at hA'
        simp at hA'
        obtain ⟨rfl, rfl⟩ := hA'
        obtain ⟨B', cb', hB', hcb⟩ := HB.out.grown HI.out.2
        rw [HN.out.2.1] at hB'
        simp at hB'
        obtain ⟨rfl, rfl⟩ := hB'
        have hka : k < la.length := by have := HN.out; omega
        have hkb : k < lb.length := by have := HN.out; omega
        obtain ⟨ba, oa, rfl, hba, hcla⟩ := hca (by intro e; rw [e] at hka; simp at hka)
        obtain ⟨bb, ob, rfl, hbb, hclb⟩ := hcb (by intro e; rw [e] at hkb; simp at hkb)
        obtain ⟨x, hx⟩ : ∃ x, la[k]? = some x := ⟨_, List.getElem?_eq_getElem hka⟩
        obtain ⟨y, hy⟩ : ∃ y, lb[k]? = some y := ⟨_, List.getElem?_eq_getElem hkb⟩
        have kx := hcla _ _ hx
        have ky := hclb _ _ hy
        have HXY := Lib.hid (show la[k]? = some x ∧ lb[k]? = some y ∧ k < n from ⟨hx, hy, hlt⟩)
        have q1 : (k : Int) < (n : Int) := by omega
        have q2 : (k : Int) < (n2 : Int) := by have := HN.out; omega
        have HD := Lib.hid (grown_trans HI.out.2 (grown_drewN wr 1))
        obtain ⟨d, hd⟩ : ∃ d, (x != y) = d := ⟨_, rfl⟩
        have HDD := Lib.hid hd
        clear hcla hclb hx hy hka hkb hca hcb hI hd
        go_wp2
        refine wp_region_T (S := fun w' => ∀ k ∈ [ba, bb], w'.heap[k]? = wr.heap[k]?) (tail := fun _ => false) (by kernel_rfl) ?_
        change wpAnyT _ _ _ _ _ _ _ _ _ (World.drew wr)
        have BD := Lib.hid (show ∀ k ∈ [ba, bb], (World.drew wr).heap[k]? = wr.heap[k]? from fun _ _ => rfl)
        refine tk 0 17 (.slice (some ⟨ba, oa, none⟩) n ca) BD.out ?y0 ?_
        case y0 =>
          intro w' hw'
          go_simp
        try simp only [Act.put, List.setIfInBounds_toArray, List.set_cons_zero, List.set_cons_succ]
        refine tk 1 18 (.int .i64 (k : Int)) BD.out ?y1 ?_
        case y1 =>
          intro w' hw'
          go_simp
        try simp only [Act.put, List.setIfInBounds_toArray, List.set_cons_zero, List.set_cons_succ]
        refine tk 2 19 (.pointer (some ⟨ba, oa + k, none⟩)) BD.out ?y2 ?_
        case y2 =>
          intro w' hw'
          go_simp
        try simp only [Act.put, List.setIfInBounds_toArray, List.set_cons_zero, List.set_cons_succ]
        refine tk 3 20 (.bool x) BD.out ?y3 ?_
        case y3 =>
          intro w' hw'
          have z0 := (World.cell?_of_block (a := ⟨ba, oa + k, none⟩) (hw' ba (by simp))).trans kx
          go_simp
        try simp only [Act.put, List.setIfInBounds_toArray, List.set_cons_zero, List.set_cons_succ]
        refine tk 4 21 (.slice (some ⟨bb, ob, none⟩) n2 cb) BD.out ?y4 ?_
        case y4 =>
          intro w' hw'
          go_simp
        try simp only [Act.put, List.setIfInBounds_toArray, List.set_cons_zero, List.set_cons_succ]
        refine tk 5 22 (.int .i64 (k : Int)) BD.out ?y5 ?_
        case y5 =>
          intro w' hw'
          go_simp
        try simp only [Act.put, List.setIfInBounds_toArray, List.set_cons_zero, List.set_cons_succ]
        refine tk 6 23 (.pointer (some ⟨bb, ob + k, none⟩)) BD.out ?y6 ?_
        case y6 =>
          intro w' hw'
          go_simp
        try simp only [Act.put, List.setIfInBounds_toArray, List.set_cons_zero, List.set_cons_succ]
        refine tk 7 24 (.bool y) BD.out ?y7 ?_
        case y7 =>
          intro w' hw'
          have z0 := (World.cell?_of_block (a := ⟨bb, ob + k, none⟩) (hw' bb (by simp))).trans ky
          go_simp
        try simp only [Act.put, List.setIfInBounds_toArray, List.set_cons_zero, List.set_cons_succ]
        refine tk 8 25 (.bool d) BD.out ?y8 ?_
        case y8 =>
          intro w' hw'
          go_simp
          rw [← HDD.out]
          try (cases x <;> cases y <;> rfl)
        try simp only [Act.put, List.setIfInBounds_toArray, List.set_cons_zero, List.set_cons_succ]
        refine dn ?_
        cases d with
        | true =>
          have hne : decide (la = lb) = false := by
            simp
            intro e
            have h1 := HXY.out.1
            rw [e, HXY.out.2.1] at h1
            have h2 := HDD.out
            simp at h1 h2
            exact h2 h1.symm
          have HNE := Lib.hid hne
          clear hne
          go_wp2
          go_ret
          refine ⟨?_, HD.out⟩
          rw [HNE.out]
          rfl
        | false =>
          have hxy : x = y := by have h2 := HDD.out; simpa using h2
          have HT := Lib.hid (show la.take (k + 1) = lb.take (k + 1) from by rw [take_next HXY.out.1, take_next HXY.out.2.1, HI.out.1, hxy])
          go_wp2
          refine ⟨⟨k + 1, by simp, HXY.out.2.2, Lib.hid ⟨HT.out, HD.out⟩⟩, ?_⟩
          have := HXY.out.2.2
          simp only [intOf]
          omega
      · have e1 : k = n := by omega
        subst e1
        have he : decide (la = lb) = true := by
          simp
          have h1 := HI.out.1
          rw [List.take_of_length_le (by have := HN.out; omega), List.take_of_length_le (by have := HN.out; omega)] at h1
          exact h1
        have HE := Lib.hid he
        clear he
        go_wp2
        go_ret
        refine ⟨?_, HI.out.2⟩
        rw [HE.out]
        rfl
  · have qn : (((la.length : Nat) : Int) != ((lb.length : Nat) : Int)) = true := by simp; omega
    have hne : decide (la = lb) = false := by simp; intro e; exact hlen (by rw [e])
    rw [hne]
    clear HA HB hl HL
    go_enter Try.func15, Try.ntmps15
    go_wp2
    go_ret
    exact ⟨rfl, World.grownBy.refl _ _⟩
end

end Go.Proofs.Ytailpphafoamfaa
