/- The law CnfFollows: its guards. -/
import Derived.Test.YtpfoaaiedfidbaaGreatDoorJb
namespace Go.Proofs.YtpfoaaiedfidbaaGreatDoor
open Go Go.RowKit

/-- Clauses of the call's own, and one more that reads as a clause. -/
theorem mesh_push_grid {w w' : World} {base : Nat} {v v' u : Value} {l : List (List Int)} {us : List Value} {xs : List Int} (hl : us.length = l.length) (ho : w.ownsRow base 23 1 v us.length us) (hr : ∀ j, j < l.length → Own w base (us.getD j (.slice none 0 0)) (l.getD j [])) (hu : Nums w' w'.heap.size u xs)
    (hg : w.grownBy w' v.ownBlock) (ho' : w'.ownsRow base 23 1 v' (us.length + 1) (us ++ [u])) : Grid w' w'.heap.size v' (l ++ [xs]) := by
  refine Grid.of_own (us := us ++ [u]) (by simpa using ho') (by simp [hl]) fun j hj => ?_
  have kept : ∀ (x : Value) (ys : List Int), Own w base x ys → Own w' base x ys := fun x ys hx => hx.kept hg (rows_ne hx ho (by decide))
  by_cases h1 : j < l.length
  · have := kept _ _ (hr j h1)
    rw [show (us ++ [u]).getD j (.slice none 0 0) = us.getD j (.slice none 0 0) by simp [List.getD, List.getElem?_append_left (by omega : j < us.length)], show (l ++ [xs]).getD j [] = l.getD j [] by simp [List.getD, List.getElem?_append_left h1]]
    exact this.nums
  · have : j = l.length := by simp at hj; omega
    subst this
    rwa [show (us ++ [u]).getD l.length (.slice none 0 0) = u by simp [List.getD, ← hl], show (l ++ [xs]).getD l.length [] = xs by simp [List.getD]]
set_option maxHeartbeats 4000000 in
set_option maxRecDepth 100000 in
theorem follows_few (v u : Value) (l : List (List Int)) (w : World) (hg : Grid w w.heap.size v l) (hf : Fits l) (hp : Pow w) (h : fewB l = false) :
    Calls Tryz.prog 3 #[v, u] w (TruePost w) := by
  have HF := Lib.hid (few_b v l w hg hf false h)
  have HA := Lib.hid (awake_b w w hp (Below.refl _ _))
  clear hg hf hp h
  go_enter Tryz.func3, Tryz.ntmps3
  go_wp2_with (first
    | (go_at_call 6; refine (HF.out).mono ?_; rintro e w' ⟨rfl, hw⟩; subst hw)
    | (go_at_call 10; refine (HA.out).mono ?_; rintro e w' ⟨rfl, hb⟩; have HB := Lib.hid hb; clear hb))
  go_ret
  exact ⟨rfl, HB.out⟩
set_option maxHeartbeats 4000000 in
set_option maxRecDepth 100000 in
theorem follows_long (v : Value) (A : Option Addr) (c : Nat) (l : List (List Int)) (is : List Int) (w : World) (hg : Grid w w.heap.size v l) (hf : Fits l) (hp : Pow w) (h : fewB l = true) (hl : 40 < is.length) :
    Calls Tryz.prog 3 #[v, .slice A is.length c] w (TruePost w) := by
  have HF := Lib.hid (few_b v l w hg hf true h)
  have HA := Lib.hid (awake_b w w hp (Below.refl _ _))
  have hd : (40 : Int) < (is.length : Int) := by omega
  clear hg hf hp h hl
  go_enter Tryz.func3, Tryz.ntmps3
  go_wp2_with (first
    | (go_at_call 6; refine (HF.out).mono ?_; rintro e w' ⟨rfl, hw⟩; subst hw)
    | (go_at_call 10; refine (HA.out).mono ?_; rintro e w' ⟨rfl, hb⟩; have HB := Lib.hid hb; clear hb))
  go_ret
  exact ⟨rfl, HB.out⟩
set_option maxHeartbeats 4000000 in
set_option maxRecDepth 100000 in
theorem follows_bad (v : Value) (A : Option Addr) (c : Nat) (l : List (List Int)) (is : List Int) (w : World) (hg : Grid w w.heap.size v l) (hf : Fits l) (hp : Pow w) (h : fewB l = true) (hl : is.length ≤ 40) (hc : checkC l = 60) :
    Calls Tryz.prog 3 #[v, .slice A is.length c] w (TruePost w) := by
  have HF := Lib.hid (few_b v l w hg hf true h)
  have HC := Lib.hid (rcheck_b v l w hg hf 60 hc)
  have HA := Lib.hid (awake_b w w hp (Below.refl _ _))
  have hd : ¬ (40 : Int) < (is.length : Int) := by omega
  clear hg hf hp h hl hc
  go_enter Tryz.func3, Tryz.ntmps3
  go_wp2_with (first
    | (go_at_call 6; refine (HF.out).mono ?_; rintro e w' ⟨rfl, hw⟩; subst hw)
    | (go_at_call 7; refine (HC.out).mono ?_; rintro e w' ⟨rfl, hw⟩; subst hw)
    | (go_at_call 10; refine (HA.out).mono ?_; rintro e w' ⟨rfl, hb⟩; have HB := Lib.hid hb; clear hb))
  go_ret
  exact ⟨rfl, HB.out⟩
set_option maxHeartbeats 4000000 in
set_option maxRecDepth 100000 in
theorem follows_wrong (v : Value) (A : Option Addr) (c : Nat) (l : List (List Int)) (is : List Int) (w : World) (hg : Grid w w.heap.size v l) (hf : Fits l) (hn : Nums w w.heap.size (.slice A is.length c) is) (hp : Pow w) (h : fewB l = true) (hl : is.length ≤ 40) (hc : checkC l = 0) (hc2 : checkC [is] = 60) :
    Calls Tryz.prog 3 #[v, .slice A is.length c] w (TruePost w) := by
  have HF := Lib.hid (few_b v l w hg hf true h)
  have HC := Lib.hid (rcheck_b v l w hg hf 0 hc)
  have HC2 := Lib.hid (rcheck_b _ [is] _ (grid1 w A is.length c is hn) ⟨by simp, by simp; omega⟩ 60 hc2)
  have HA := Lib.hid (fun o : Obj => awake_b w _ hp (below_alloc (Below.refl _ w) o))
  have hd : ¬ (40 : Int) < (is.length : Int) := by omega
  clear hg hf hp h hc hn hc2 hl
  go_enter Tryz.func3, Tryz.ntmps3
  go_wp2_with (go_at_call 6; refine (HF.out).mono ?_; rintro e w' ⟨rfl, hw⟩; subst hw)
  refine (HC.out).mono ?_
  rintro e w' ⟨rfl, hw⟩
  subst hw
  go_wp2_with (first
    | (go_at_call 7; refine (HC2.out).mono ?_; rintro e w' ⟨rfl, hw⟩; subst hw)
    | (go_at_call 10; refine (HA.out _).mono ?_; rintro e w' ⟨rfl, hb⟩; have HB := Lib.hid hb; clear hb))
  go_ret
  exact ⟨rfl, HB.out⟩
section
variable {P : Program} (w : World)
/-- append of one cell that lies alone in a block, onto a row of the call's own, where a guard says yes. -/
theorem wpList_push_want {ops : Array Oper} {rest : List Oper} {o : Oper} {a : Act} {Q : Exit → Act → World → Prop} (hw : Region.wanted o (yielded ops a.tmps) = true) (s x : Operand) (t : TypeId)
    (ho : o.op = .call { callee := .builtin .append, args := #[s, x], argTypes := #[t, t] }) (e : TypeId) (i : TypeInfo) (z : Value) (bytes : Nat) (ht : P.underlying t = some (.slice e)) (hi : P.info? e = some i) (hz : i.zero = some z) (hsize : i.size = 1) (hby : i.bytes = bytes) (hzs : z.cells.size = 1) (hbb : bytes ≤ 24)
    (base : Nat) (v : Value) (n : Nat) (us : List Value) (hs : a.eval s = v) (hown : w.ownsRow base e 1 v n us) (b c : Nat) (u : Value) (hx : a.eval x = .slice (some ⟨b, 0, none⟩) 1 c) (hu : w.cell? ⟨b, 0, none⟩ = some u) (h1 : u.oneCell' = true) (hl : n ≤ 1000000) (hbase : base ≤ w.heap.size)
    (h : ∀ v' w', w'.ownsRow base e 1 v' (n + 1) (us ++ [u]) → w.grownBy w' v.ownBlock → (v'.ownBlock = v.ownBlock ∨ v'.ownBlock = some w.heap.size) → wpList P ops Q rest (a.put o.dst v') w') : wpList P ops Q (o :: rest) a w := by
  refine BigFrame.wpList_want hw fun K hK => ?_
  obtain ⟨v', w', hr, h2, h3, h4, h5⟩ := run_append_own_at (P := P) w base t o.type e i z 1 bytes ht hi hz hsize hby hzs (by decide) v n us hown ⟨b, 0, none⟩ 1 c [u] rfl (fun j y hy => by
    have : j = 0 := by have := (List.getElem?_eq_some_iff.1 hy).1; simpa using this
    subst this
    simp at hy
    subst hy
    exact hu) (fun y hy => by simp at hy; subst hy; exact h1) (by unfold maxLen; omega) (by
      have : (n + 1) * bytes ≤ (n + 1) * 24 := Nat.mul_le_mul_left _ hbb
      omega) hbase
  unfold Oper.wp execOp
  simp only [ho, resolve, invoke, builtin, Sem.run_bind, Sem.run_pure, Result.andThen_ok, List.map_toArray, List.map_cons, List.map_nil, hs, hx, hr]
  exact hK _ _ (h v' w' h2 h3 h5)
end
theorem copied_m (v : Value) (l : List (List Int)) (w : World) (h : Grid w w.heap.size v l) (hs : Small l) :
    Calls Tryz.prog 9 #[v] w fun e w' => ∃ v', e = .returned v' ∧ Mesh w' w.heap.size v' l ∧ Below w.heap.size w w' := copied_any v l w _ h hs (Nat.le_refl _)
set_option maxHeartbeats 4000000 in
set_option maxRecDepth 100000 in
theorem follows_most (v : Value) (A : Option Addr) (c : Nat) (l : List (List Int)) (is : List Int) (n : Int) (w : World) (hg : Grid w w.heap.size v l) (hf : Fits l) (hs : Small l) (hn : Nums w w.heap.size (.slice A is.length c) is) (hp : Pow w) (h : fewB l = true) (hl : is.length ≤ 40) (hc : checkC l = 0) (hc2 : checkC [is] = 0) (hm : mostL (l ++ [is]) = n) (hm2 : 10 < n) :
    Calls Tryz.prog 3 #[v, .slice A is.length c] w (TruePost w) := by
  obtain ⟨j0, ki, kz0, kz1, kz2⟩ := info_parts info23
  have HF := Lib.hid (few_b v l w hg hf true h)
  have HC := Lib.hid (rcheck_b v l w hg hf 0 hc)
  have HC2 := Lib.hid (rcheck_b _ [is] _ (grid1 w A is.length c is hn) ⟨by simp, by simp; omega⟩ 0 hc2)
  have HP := Lib.hid hp
  have hd : ¬ (40 : Int) < (is.length : Int) := by omega
  have hll : l.length ≤ 40 := (few_of h).1
  have HFF : Hid (Fits (l ++ [is])) := Lib.hid ⟨by simp; omega, fun c hc => by
    rw [List.mem_append, List.mem_singleton] at hc
    rcases hc with hc | rfl
    · exact hf.2 c hc
    · omega⟩
  have HB1 := Lib.hid (fun o : Obj => below_alloc (Below.refl _ w) o)
  have HN1 := Lib.hid (fun o : Obj => hn.alloc o)
  have HK := Lib.hid (fun o : Obj => copied_m v l _ (hg.alloc o) hs)
  clear hg hf hp h hc hn hc2 hl
  go_enter Tryz.func3, Tryz.ntmps3
  go_wp2_with (go_at_call 6; refine (HF.out).mono ?_; rintro e w' ⟨rfl, hw⟩; subst hw)
  refine (HC.out).mono ?_
  rintro e w' ⟨rfl, hw⟩
  subst hw
  go_wp2_with (go_at_call 7; refine (HC2.out).mono ?_; rintro e w' ⟨rfl, hw⟩; subst hw)
  refine (HK.out _).mono ?_
  rintro e w1 ⟨v1, rfl, hm1, hb1⟩
  obtain ⟨us, hul, hou, hru⟩ := hm1
  have HU := Lib.hid hul
  have HOU := Lib.hid hou
  have HRU := Lib.hid hru
  have HB12 := Lib.hid hb1
  have Q1 := Lib.hid (show us.length ≤ 1000000 by omega)
  have Q2 := Lib.hid (show (w.alloc (.cells #[.slice A is.length c] 23)).heap.size ≤ (w1.alloc (.cells #[.slice A is.length c] 23)).heap.size by have := hb1.size; simp at *; omega)
  clear hul hou hru hb1 HK HF HC HC2
  go_wp2_with (at_builtin; refine wpList_push_want _ (by go_simp) (.tmp 33) (.tmp 35) 22 rfl 23 j0 (.slice none 0 0) 24 Tryz.underlying22 ki kz0 kz1 kz2 rfl (by decide) (w.alloc (.cells #[.slice A is.length c] 23)).heap.size v1 us.length us rfl (World.ownsRow.alloc HOU.out _) w1.heap.size 1 (.slice A is.length c) rfl (cell_new _ _ _) rfl Q1.out Q2.out ?_; intro o2 w2 hown2 hgrow2 _; have HO2 := Lib.hid hown2; have HG2 := Lib.hid hgrow2; clear hown2 hgrow2)
  have hb2 := (HB12.out.alloc (by have := HB12.out.size; omega) (.cells #[.slice A is.length c] 23)).grown HG2.out Q2.out (fun q hq => (HOU.out.lt q hq).1)
  have HB3 := Lib.hid (below_then (HB1.out _) hb2)
  have HN3 := Lib.hid ((HN1.out _).go hb2)
  have HM := Lib.hid (rmost_b _ (l ++ [is]) w2 (mesh_push_grid HU.out (World.ownsRow.alloc HOU.out _) (fun j hj => World.ownsRow.alloc (HRU.out j hj) _) HN3.out HG2.out HO2.out) HFF.out n hm)
  have HA := Lib.hid (awake_b w w2 HP.out HB3.out)
  clear hb2
  go_wp2_with (first
    | (go_at_call 8; refine (HM.out).mono ?_; rintro e w' ⟨rfl, hw⟩; subst hw)
    | (go_at_call 10; refine (HA.out).mono ?_; rintro e w11 ⟨rfl, hb11⟩; have HB11 := Lib.hid hb11; clear hb11))
  go_ret
  exact ⟨rfl, HB11.out⟩
end Go.Proofs.YtpfoaaiedfidbaaGreatDoor
