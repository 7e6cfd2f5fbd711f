/- Going through a diagram. Going through a diagram: the method. The size of a diagram. Which variables a diagram asks for. A range over a map: whichever entry comes next. Whether a renaming keeps variables apart: the plain part. Whether a renaming keeps variables apart. -/
import Derived.Maps.RangeRun
import Derived.Maps.Range
import Derived.Test.YtailpphafoamfaaPkal
set_option linter.all false
namespace Go.Proofs.Ytailpphafoamfaa
open Go Go.RowKit Go.Maps


structure VEnv where
  b1 : Nat
  b2 : Nat
  b3 : Nat
  b4 : Nat
  bd : Nat
  af : FuncId
  k1 : Value
def visV (E : VEnv) : Value := .func (.func 57) #[] #[.pointer (some ⟨E.b1, 0, none⟩), .pointer (some ⟨E.b2, 0, none⟩), .pointer (some ⟨E.b3, 0, none⟩), .pointer (some ⟨E.b4, 0, none⟩)]
structure VDone (l : List Nat) (mp : Value → Option Value) : Prop where
  is : ∀ k : Nat, (mp (.int .i32 (k : Int))).isSome = decide (k ≤ 1 ∨ k ∈ l)
  al : ∀ v x, mp v = some x → x = .agg #[]
structure VisAt (w : World) (o : Nat → Nat) (g : SG) (E : VEnv) (l : List Nat) : Prop where
  c1 : w.cell? ⟨E.b1, 0, none⟩ = some (.map (some E.bd))
  c2 : w.cell? ⟨E.b2, 0, none⟩ = some (.pointer (some ⟨g.s, 0, none⟩))
  c3 : w.cell? ⟨E.b3, 0, none⟩ = some (.func (.func E.af) #[] #[E.k1])
  c4 : w.cell? ⟨E.b4, 0, none⟩ = some (visV E)
  o1 : o E.b1 = 0
  o2 : o E.b2 = 0
  o3 : o E.b3 = 0
  o4 : o E.b4 = 0
  od : o E.bd = 8
  map : ∃ mp, MapIs 21 w E.bd mp ∧ VDone l mp
/-- What an action does with the node number i, told which. -/
structure SeeS (af : FuncId) (k1 : Value) (J : World → (Nat → Nat) → SG → List Nat → Prop) : Prop where
  enters : ∀ args w, (callFunc af args).run Try.prog w = .ok (.enter af args) w
  keep : ∀ (w w' : World) (o o' : Nat → Nat) (g : SG) (l : List Nat), J w o g l → Keep (· == 8) w o w' o' → J w' o' g l
  run : ∀ (M : List Nd) (w : World) (o : Nat → Nat) (g : SG) (l : List Nat) (i : Nat) (n : Nd), StoreM M w o g → J w o g l → 2 ≤ i → g.ns[i]? = some n →
    Calls Try.prog af #[ndV n, k1] w fun e w' => e = .returned (.tuple #[]) ∧ ∃ o', StoreM M w' o' g ∧ J w' o' g (l ++ [i]) ∧ Keep (· == 10) w o w' o'
section
variable {M : List Nd} {w w' w2 : World} {o o' o2 : Nat → Nat} {g : SG} {E : VEnv} {l l' : List Nat} {J : World → (Nat → Nat) → SG → List Nat → Prop}
theorem VisAt.keep {T : Nat → Bool} (h : VisAt w o g E l) (k : Keep T w o w' o') (t0 : T 0 = false) (t8 : T 8 = false) : VisAt w' o' g E l := by
  obtain ⟨mp, hm, hd⟩ := h.map
  exact ⟨(k.box h.c1 h.o1 t0).1, (k.box h.c2 h.o2 t0).1, (k.box h.c3 h.o3 t0).1, (k.box h.c4 h.o4 t0).1, (k.box h.c1 h.o1 t0).2, (k.box h.c2 h.o2 t0).2, (k.box h.c3 h.o3 t0).2, (k.box h.c4 h.o4 t0).2, (k.own _ hm.lt).trans h.od, mp, hm.move (k.blk _ hm.lt (by rw [h.od]; exact t8)), hd⟩
def T8 (t : Nat) : Bool := t == 8 || t == 10
theorem t8_of {T : Nat → Bool} (h : ∀ t, T t = true → t = 8 ∨ t = 10) : ∀ t, T8 t = false → T t = false := fun t ht => by
  cases hT : T t with
  | false => rfl
  | true =>
    unfold T8 at ht
    rcases h t hT with rfl | rfl <;> simp at ht
structure VisOut (M : List Nd) (w : World) (o : Nat → Nat) (g : SG) (E : VEnv) (J : World → (Nat → Nat) → SG → List Nat → Prop) (l' : List Nat) (w' : World) (o' : Nat → Nat) : Prop where
  st : StoreM M w' o' g
  at_ : VisAt w' o' g E l'
  j_ : J w' o' g l'
  keep : Keep T8 w o w' o'
def VisPost (M : List Nd) (w : World) (o : Nat → Nat) (g : SG) (E : VEnv) (J : World → (Nat → Nat) → SG → List Nat → Prop) (l : List Nat) (n : Nat) (e : Ending) (w' : World) : Prop :=
  e = .returned (.tuple #[]) ∧ ∃ o', VisOut M w o g E J (vis g.ns l n) w' o'
def VisC (M : List Nd) (g : SG) (E : VEnv) (J : World → (Nat → Nat) → SG → List Nat → Prop) (n : Nat) : Prop := ∀ (w : World) (o : Nat → Nat) (l : List Nat), StoreM M w o g → VisAt w o g E l → J w o g l → n < g.ns.length →
  Calls Try.prog 57 #[.int .i32 (n : Int), .pointer (some ⟨E.b1, 0, none⟩), .pointer (some ⟨E.b2, 0, none⟩), .pointer (some ⟨E.b3, 0, none⟩), .pointer (some ⟨E.b4, 0, none⟩)] w (VisPost M w o g E J l n)
theorem VDone.getD {mp : Value → Option Value} (h : VDone l mp) (v : Value) : (mp v).getD (.agg #[]) = .agg #[] := by
  cases hx : mp v with
  | none => rfl
  | some x => exact h.al _ _ hx
set_option maxHeartbeats 8000000 in
set_option maxRecDepth 100000 in
theorem vis_hit {n : Nat} (hS : SeeS E.af E.k1 J) (h : StoreM M w o g) (ha : VisAt w o g E l) (hj : J w o g l) (hn : n < g.ns.length) (hx : n ≤ 1 ∨ n ∈ l) : Calls Try.prog 57 #[.int .i32 (n : Int), .pointer (some ⟨E.b1, 0, none⟩), .pointer (some ⟨E.b2, 0, none⟩), .pointer (some ⟨E.b3, 0, none⟩), .pointer (some ⟨E.b4, 0, none⟩)] w (VisPost M w o g E J l n) := by
  have hbd := h.bd
  obtain ⟨mp, hm, hd⟩ := ha.map
  have hlk := hm.look K21 Try.underlying107 (z65 _) (isK21 (x := (n : Int)) (by omega))
  rw [hd.getD, hd.is, decide_eq_true hx] at hlk
  have HR := Lib.hid (fun (x : Obj) => show VisPost M w o g E J l n (.returned (.tuple #[])) (w.alloc x) from ⟨rfl, o, by
    rw [vis_met hx]
    exact ⟨h.alloc _, ha.keep (keep_alloc (fun _ => false) w o x) rfl rfl, hS.keep _ _ _ _ _ _ hj (keep_alloc _ w o x), keep_alloc _ _ _ _⟩⟩)
  have c1 := ha.c1
  clear hS h ha hj hn hx hm hd hbd
  go_enter Try.func57, Try.ntmps57
  go_wp2
  first | go_end0 | (simp only [Exit.inBlock, Exit.then]; refine bodyPost_ret (results_none rfl _ _ _) rfl ?_) | refine bodyPost_ret (results_none rfl _ _ _) rfl ?_
  exact HR.out _
theorem VDone.more {mp : Value → Option Value} (h : VDone l mp) (n : Nat) : VDone (l ++ [n]) (updV mp (.int .i32 (n : Int)) (.agg #[])) := by
  refine ⟨fun k => ?_, fun v x hv => ?_⟩
  · by_cases e : k = n
    · subst e
      rw [updV_same]
      simp
    · rw [updV_other _ _ (by intro e2; simp at e2; omega), h.is]
      simp [e]
  · by_cases e : v = .int .i32 (n : Int)
    · rw [e, updV_same] at hv
      cases hv
      rfl
    · rw [updV_other _ _ e] at hv
      exact h.al _ _ hv
set_option maxHeartbeats 8000000 in
set_option maxRecDepth 100000 in
theorem vis_miss {n : Nat} (hS : SeeS E.af E.k1 J) (IH : ∀ k, k < n → VisC M g E J k) (h : StoreM M w o g) (ha : VisAt w o g E l) (hj : J w o g l) (hn : n < g.ns.length) (hx : ¬ (n ≤ 1 ∨ n ∈ l)) : Calls Try.prog 57 #[.int .i32 (n : Int), .pointer (some ⟨E.b1, 0, none⟩), .pointer (some ⟨E.b2, 0, none⟩), .pointer (some ⟨E.b3, 0, none⟩), .pointer (some ⟨E.b4, 0, none⟩)] w (VisPost M w o g E J l n) := by
  have hbd := h.bd
  obtain ⟨mp, hm, hd⟩ := ha.map
  have HISK := Lib.hid (isK21 (x := (n : Int)) (by omega))
  have hlk := hm.look K21 Try.underlying107 (z65 _) HISK.out
  rw [hd.getD, hd.is, decide_eq_false hx] at hlk
  obtain ⟨nd, hnd⟩ := get_lt hn
  have c1 := ha.c1
  have HH := Lib.hid h
  have HA := Lib.hid ha
  have HJ := Lib.hid hj
  have HS := Lib.hid hS
  have HIH := Lib.hid IH
  have HN := Lib.hid (show n < g.ns.length ∧ ¬ (n ≤ 1 ∨ n ∈ l) ∧ g.ns[n]? = some nd from ⟨hn, hx, hnd⟩)
  have q2 : (n : Int) < (g.ns.length : Int) := by omega
  have HMD := Lib.hid (show MapIs 21 w E.bd mp ∧ VDone l mp from ⟨hm, hd⟩)
  have hb1 : E.b1 < w.heap.size := lt_cell c1
  obtain ⟨w9, hrun, hm9, ht9⟩ := (hm.move (heap_alloc_old (o := .cells #[] 65) hm.lt)).store K21 Try.underlying107 HISK.out (.agg #[])
  have k9 : Keep (· == 8) w o w9 o := (keep_alloc _ w o (.cells #[] 65)).trans (Keep.grown ht9.grown (fun k hk => by cases hk; rw [ha.od]; rfl) (fun _ _ => rfl))
  have h9 : StoreM M w9 o g := h.keep8 k9
  have j9 : J w9 o g l := hS.keep _ _ _ _ _ _ hj k9
  have a9 : VisAt w9 o g E (l ++ [n]) := ⟨(k9.box ha.c1 ha.o1 rfl).1, (k9.box ha.c2 ha.o2 rfl).1, (k9.box ha.c3 ha.o3 rfl).1, (k9.box ha.c4 ha.o4 rfl).1, ha.o1, ha.o2, ha.o3, ha.o4, ha.od, _, hm9, hd.more n⟩
  obtain ⟨gx, c, hvv, k0, k1, k2, hxl⟩ := row_node h9.row hnd
  have s2 := h9.cell2
  rw [hvv] at s2
  have c2 := a9.c2
  have c3 := a9.c3
  have hb3 : E.b3 < w9.heap.size := lt_cell c3
  have hsz9 : w.heap.size ≤ w9.heap.size := k9.size
  have H9 := Lib.hid (show StoreM M w9 o g ∧ VisAt w9 o g E (l ++ [n]) ∧ J w9 o g l ∧ Keep T8 w o w9 o from ⟨h9, a9, j9, k9.more (t8_of (fun t ht => by simp at ht; exact .inl ht))⟩)
  have hND := h9.wf.nd n nd (by omega) hnd
  have HND := Lib.hid hND
  have HSE := Lib.hid (hS.run M (w9.alloc (.cells #[.int .i32 (nd.v : Int), .int .i32 (nd.a : Int), .int .i32 (nd.b : Int)] 63)) o g l n nd (h9.alloc _) (hS.keep _ _ _ _ _ _ j9 (keep_alloc _ w9 o _)) (by omega) hnd)
  unfold ndV at HSE
  obtain ⟨wb, hwb⟩ : ∃ wb, w9.alloc (.cells #[.int .i32 (nd.v : Int), .int .i32 (nd.a : Int), .int .i32 (nd.b : Int)] 63) = wb := ⟨_, rfl⟩
  have hY : wb.heap[w9.heap.size]? = some (.cells #[.int .i32 (nd.v : Int), .int .i32 (nd.a : Int), .int .i32 (nd.b : Int)] 63 (0, 0)) := by
    rw [← hwb]
    exact (MapKept.heap_alloc w9 _).1
  have HY := Lib.hid hY
  have HKB := Lib.hid (show ∀ T, Keep T w9 o wb o from fun T => by rw [← hwb]; exact keep_alloc _ _ _ _)
  have HON := Lib.hid (h9.new w9.heap.size (Nat.le_refl _))
  rw [hwb] at HSE
  have HWB := Lib.hid hwb
  have hent := hS.enters
  clear hS IH h ha hj hn hx hm hd hnd hbd hY hwb hm9 ht9 k9 h9 j9 a9 hvv hND HMD
  go_enter Try.func57, Try.ntmps57
  go_wp2_with fail
  rw [HWB.out]
  refine (HSE.out).mono ?_
  rintro e w1 ⟨rfl, o1, hs1, hj1, hk1⟩
  obtain ⟨N, hN⟩ : ∃ N, w9.heap.size = N := ⟨_, rfl⟩
  rw [hN] at HY HON ⊢
  clear hent
  have a1 : VisAt w1 o1 g E (l ++ [n]) := (H9.out.2.1.keep (HKB.out (fun _ => false)) rfl rfl).keep hk1 rfl rfl
  have hNl := (Array.getElem?_eq_some_iff.1 HY.out).1
  have hY1 : wb.heap.size ≤ w1.heap.size ∧ w1.heap[N]? = some (.cells #[.int .i32 (nd.v : Int), .int .i32 (nd.a : Int), .int .i32 (nd.b : Int)] 63 (0, 0)) ∧ o1 N = 0 := ⟨hk1.size, (hk1.blk N hNl (by rw [HON.out]; rfl)).trans HY.out, (hk1.own N hNl).trans HON.out⟩
  have HY1 := Lib.hid hY1
  obtain ⟨y0, y1, y2⟩ := box_cells hY1.2.1
  have c4 := a1.c4
  have K1 := Lib.hid (show Keep T8 w o w1 o1 from H9.out.2.2.2.trans ((HKB.out T8).trans (hk1.more (t8_of (fun t ht => by simp at ht; exact .inr ht)))))
  have HC1 := Lib.hid (HIH.out nd.a HND.out.2.1 w1 o1 (l ++ [n]) hs1 a1 hj1 (by have := HND.out; have := HN.out.1; omega))
  unfold visV at c4
  clear hs1 hj1 hk1 a1 hY1 c1 c2 c3 s2 k0 k1 k2 hlk hrun hxl hb3 hsz9 hb1 hN hNl
  go_wp2_with fail
  refine (HC1.out).mono ?_
  rintro e w2 ⟨rfl, o2, hv2⟩
  have hY2 : w2.heap[N]? = some (.cells #[.int .i32 (nd.v : Int), .int .i32 (nd.a : Int), .int .i32 (nd.b : Int)] 63 (0, 0)) := (hv2.keep.blk N (Array.getElem?_eq_some_iff.1 HY1.out.2.1).1 (by rw [HY1.out.2.2]; rfl)).trans HY1.out.2.1
  obtain ⟨x0, x1, x2⟩ := box_cells hY2
  have c4' := hv2.at_.c4
  have K2 := Lib.hid (show Keep T8 w o w2 o2 from K1.out.trans hv2.keep)
  have HC2 := Lib.hid (HIH.out nd.b HND.out.2.2.1 w2 o2 _ hv2.st hv2.at_ hv2.j_ (by have := HND.out; have := HN.out.1; omega))
  unfold visV at c4'
  clear hv2 hY2 c4 y0 y1 y2
  go_wp2_with fail
  refine (HC2.out).mono ?_
  rintro e w3 ⟨rfl, o3, hv3⟩
  have HR := Lib.hid (show VisPost M w o g E J l n (.returned (.tuple #[])) w3 from ⟨rfl, o3, by
    rw [HH.out.wf.vis_node HN.out.2.1 HN.out.2.2]
    exact ⟨hv3.st, hv3.at_, hv3.j_, K2.out.trans hv3.keep⟩⟩)
  clear hv3 c4' x0 x1 x2
  go_wp2
  go_end0
  exact HR.out
theorem vis_any (hS : SeeS E.af E.k1 J) : ∀ n, VisC M g E J n := by
  intro n
  induction n using Nat.strongRecOn with
  | ind n ih =>
    intro w o l h ha hj hn
    by_cases hx : n ≤ 1 ∨ n ∈ l
    · exact vis_hit hS h ha hj hn hx
    · exact vis_miss hS ih h ha hj hn hx
end

end Go.Proofs.Ytailpphafoamfaa
namespace Go.Proofs.Ytailpphafoamfaa
open Go Go.RowKit Go.Maps


section
variable {M : List Nd} {w w' w2 : World} {o o' o2 : Nat → Nat} {g : SG} {E : VEnv} {l l' : List Nat} {J : World → (Nat → Nat) → SG → List Nat → Prop}
noncomputable def mv01 : Value → Option Value := updV (updV (fun _ => none) (.int .i32 0) (.agg #[])) (.int .i32 1) (.agg #[])
theorem vdone_start : VDone [] mv01 := by
  refine ⟨fun k => ?_, fun v x hv => ?_⟩
  · unfold mv01
    by_cases e1 : k = 1
    · subst e1
      rw [show ((1 : Nat) : Int) = 1 from rfl, updV_same]
      simp
    · rw [updV_other _ _ (by intro e; simp at e; omega)]
      by_cases e0 : k = 0
      · subst e0
        rw [show ((0 : Nat) : Int) = 0 from rfl, updV_same]
        simp
      · rw [updV_other _ _ (by intro e; simp at e; omega)]
        simp
        omega
  · unfold mv01 at hv
    by_cases e1 : v = .int .i32 1
    · rw [e1, updV_same] at hv
      cases hv
      rfl
    · rw [updV_other _ _ e1] at hv
      by_cases e0 : v = .int .i32 0
      · rw [e0, updV_same] at hv
        cases hv
        rfl
      · rw [updV_other _ _ e0] at hv
        cases hv
structure VisitorAt (M : List Nd) (w : World) (o : Nat → Nat) (g : SG) (E : VEnv) (w' : World) (o' : Nat → Nat) : Prop where
  st : StoreM M w' o' g
  at_ : VisAt w' o' g E []
  keep : Keep (fun _ => false) w o w' o'
theorem visitor_new (hs : StoreM M w o g) (af : FuncId) (k1 : Value) (x : Value) {w3 w5 : World} (hw3 : w3 = ((w.alloc (.cells #[.pointer (some ⟨g.s, 0, none⟩)] 23)).alloc (.cells #[.func (.func af) #[] #[k1]] 90)).alloc (.map #[] 0)) (hg : w3.grownBy w5 (some (w.heap.size + 1 + 1))) (hz : w5.heap.size = w3.heap.size) (hm : MapIs 21 w5 (w.heap.size + 1 + 1) mv01)
    (hx : x = visV ⟨w5.heap.size, w.heap.size, w.heap.size + 1, w5.heap.size + 1, w.heap.size + 1 + 1, af, k1⟩) : ∃ o', VisitorAt M w o g ⟨w5.heap.size, w.heap.size, w.heap.size + 1, w5.heap.size + 1, w.heap.size + 1 + 1, af, k1⟩ ((w5.alloc (.cells #[.map (some (w.heap.size + 1 + 1))] 107)).alloc (.cells #[x] 108)) o' := by
  have e3 : w3.heap.size = w.heap.size + 3 := by rw [hw3]; simp
  have s1 : ∀ (w : World) (x : Obj), (w.alloc x).heap = w.heap.push x := fun _ _ => rfl
  have h0 : w3.heap[w.heap.size]? = some (.cells #[.pointer (some ⟨g.s, 0, none⟩)] 23 (0, 0)) := by
    rw [hw3]
    simp only [s1, Array.size_push, Array.getElem?_push]
    rw [if_neg (by omega), if_neg (by omega), if_pos trivial]
  have h1 : w3.heap[w.heap.size + 1]? = some (.cells #[.func (.func af) #[] #[k1]] 90 (0, 0)) := by
    rw [hw3]
    simp only [s1, Array.size_push, Array.getElem?_push]
    rw [if_neg (by omega), if_pos trivial]
  have hg0 : w.grownBy w3 none := by rw [hw3]; exact grown_trans (grown_trans (grown_alloc _ _) (grown_alloc _ _)) (grown_alloc _ _)
  have hg5 : w.grownBy w5 none := grown_out hg0 hg (by omega)
  obtain ⟨wz, hwz⟩ : ∃ wz, (w5.alloc (.cells #[.map (some (w.heap.size + 1 + 1))] 107)).alloc (.cells #[x] 108) = wz := ⟨_, rfl⟩
  have hg6 : w5.grownBy wz none := by rw [← hwz]; exact grown_trans (grown_alloc _ _) (grown_alloc _ _)
  have h5 : wz.heap[w5.heap.size]? = some (.cells #[.map (some (w.heap.size + 1 + 1))] 107 (0, 0)) := by
    rw [← hwz, heap_alloc_old (by simp)]
    exact (MapKept.heap_alloc w5 _).1
  have h6 : wz.heap[w5.heap.size + 1]? = some (.cells #[x] 108 (0, 0)) := by
    have := (MapKept.heap_alloc (w5.alloc (.cells #[.map (some (w.heap.size + 1 + 1))] 107)) (.cells #[x] 108)).1
    have e : (w5.alloc (.cells #[.map (some (w.heap.size + 1 + 1))] 107)).heap.size = w5.heap.size + 1 := by simp
    rw [e, hwz] at this
    exact this
  have hsz : wz.heap.size = w5.heap.size + 2 := by rw [← hwz]; simp
  rw [hwz]
  have hk : Keep (fun _ => false) w o wz (ownG o (w.heap.size + 1 + 1) 8) := Keep.grown (grown_trans hg5 hg6) (by simp) (fun k hk => ownG_other _ _ (by omega))
  have ho := hs.new
  have cc : ∀ (b : Nat) (v : Value) (t : TypeId), wz.heap[b]? = some (.cells #[v] t (0, 0)) → wz.cell? ⟨b, 0, none⟩ = some v := fun b v t h => (cell_of h).trans rfl
  have b0 : wz.heap[w.heap.size]? = some (.cells #[.pointer (some ⟨g.s, 0, none⟩)] 23 (0, 0)) := (grown_far hg6 (by omega)).trans ((hg.block _ (by omega) (by simp only [ne_eq, Option.some.injEq]; omega)).trans h0)
  have b1 : wz.heap[w.heap.size + 1]? = some (.cells #[.func (.func af) #[] #[k1]] 90 (0, 0)) := (grown_far hg6 (by omega)).trans ((hg.block _ (by omega) (by simp only [ne_eq, Option.some.injEq]; omega)).trans h1)
  refine ⟨_, hs.keep hk ⟨rfl, rfl, rfl⟩ (fun b hb => ?_), ⟨cc _ _ _ h5, cc _ _ _ b0, cc _ _ _ b1, (cc _ _ _ h6).trans (by rw [hx]), ?_, ?_, ?_, ?_, ownG_same _ _ _, mv01, hm.move (grown_far hg6 hm.lt), vdone_start⟩, hk⟩
  · rw [ownG_other _ _ (by omega)]
    exact ho b (by omega)
  · show ownG o _ 8 w5.heap.size = 0
    rw [ownG_other _ _ (by omega)]; exact ho _ (by omega)
  · show ownG o _ 8 w.heap.size = 0
    rw [ownG_other _ _ (by omega)]; exact ho _ (Nat.le_refl _)
  · show ownG o _ 8 (w.heap.size + 1) = 0
    rw [ownG_other _ _ (by omega)]; exact ho _ (by omega)
  · show ownG o _ 8 (w5.heap.size + 1) = 0
    rw [ownG_other _ _ (by omega)]; exact ho _ (by omega)
def VisitPost (M : List Nd) (w : World) (o : Nat → Nat) (g : SG) (J : World → (Nat → Nat) → SG → List Nat → Prop) (n : Nat) (e : Ending) (w' : World) : Prop :=
  e = .returned (.tuple #[]) ∧ ∃ o', StoreM M w' o' g ∧ J w' o' g (vis g.ns [] n) ∧ Keep T8 w o w' o'
set_option maxHeartbeats 8000000 in
set_option maxRecDepth 100000 in
theorem visit_any {af : FuncId} {k1 : Value} (hS : SeeS af k1 J) (hs : StoreM M w o g) (hj : J w o g []) (n : Nat) (hn : n < g.ns.length) : Calls Try.prog 39 #[.pointer (some ⟨g.s, 0, none⟩), .int .i64 (n : Int), .func (.func af) #[] #[k1]] w (VisitPost M w o g J n) := by
  have hbd := hs.bd
  have qw : wrap32 (n : Int) = (n : Int) := wrap32_id (by omega)
  have qw2 : IntKind.i32.wrap (n : Int) = (n : Int) := IntWalk.i32_in _ (by omega)
  have hmm := @run_makeMap Try.prog
  have hmf : ∀ (fn : Fn) (first cap : Array Value) (w : World), (Instr.makeFunc fn first cap).run Try.prog w = .ok (.func fn first cap) w := fun _ _ _ _ => rfl
  obtain ⟨w3, hw3⟩ : ∃ w3, w3 = ((w.alloc (.cells #[.pointer (some ⟨g.s, 0, none⟩)] 23)).alloc (.cells #[.func (.func af) #[] #[k1]] 90)).alloc (.map #[] 0) := ⟨_, rfl⟩
  have hm0 : MapIs 21 w3 (w.heap.size + 1 + 1) (fun _ => none) := by
    have := MapIs.made (k := 21) ((w.alloc (.cells #[.pointer (some ⟨g.s, 0, none⟩)] 23)).alloc (.cells #[.func (.func af) #[] #[k1]] 90))
    rw [← hw3] at this
    have e : ((w.alloc (.cells #[.pointer (some ⟨g.s, 0, none⟩)] 23)).alloc (.cells #[.func (.func af) #[] #[k1]] 90)).heap.size = w.heap.size + 1 + 1 := by simp
    rw [e] at this
    exact this
  obtain ⟨w4, hr4, hm4, ht4⟩ := hm0.store K21 Try.underlying107 (isK21 (x := 0) (by omega)) (.agg #[])
  obtain ⟨w5, hr5, hm5, ht5⟩ := hm4.store K21 Try.underlying107 (isK21 (x := 1) (by omega)) (.agg #[])
  obtain ⟨oz, hnew⟩ := visitor_new hs af k1 _ hw3 (grown_trans ht4.grown ht5.grown) ((turned_size ht5).trans (turned_size ht4)) hm5 rfl
  have HC := Lib.hid (vis_any (E := ⟨w5.heap.size, w.heap.size, w.heap.size + 1, w5.heap.size + 1, w.heap.size + 1 + 1, af, k1⟩) (M := M) (g := g) hS n _ oz [] hnew.st hnew.at_ (hS.keep _ _ _ _ _ _ hj (hnew.keep.more (fun _ _ => rfl))) hn)
  have HKZ := Lib.hid (show Keep T8 w o _ oz from hnew.keep.more (fun _ _ => rfl))
  have hc : ((w5.alloc (.cells #[.map (some (w.heap.size + 1 + 1))] 107)).alloc (.cells #[.nilFunc] 108)).cell? ⟨w5.heap.size + 1, 0, none⟩ = some .nilFunc := by
    have := (MapKept.heap_alloc (w5.alloc (.cells #[.map (some (w.heap.size + 1 + 1))] 107)) (.cells #[.nilFunc] 108)).1
    have e : (w5.alloc (.cells #[.map (some (w.heap.size + 1 + 1))] 107)).heap.size = w5.heap.size + 1 := by simp
    rw [e] at this
    exact (cell_of this).trans rfl
  have hz : ((w5.alloc (.cells #[.map (some (w.heap.size + 1 + 1))] 107)).alloc (.cells #[.nilFunc] 108)).frozen? ⟨w5.heap.size + 1, 0, none⟩ = false := by
    have := (MapKept.heap_alloc (w5.alloc (.cells #[.map (some (w.heap.size + 1 + 1))] 107)) (.cells #[.nilFunc] 108)).1
    have e : (w5.alloc (.cells #[.map (some (w.heap.size + 1 + 1))] 107)).heap.size = w5.heap.size + 1 := by simp
    rw [e] at this
    exact frz_of this
  rw [hw3] at hr4
  clear hs hw3 hm0 hm4 ht4 hm5 ht5 hj hn hbd hnew hS
  unfold visV at HC HKZ
  go_enter Try.func39, Try.ntmps39
  go_wp2_with fail
  refine (HC.out).mono ?_
  rintro e w6 ⟨rfl, o6, hv6⟩
  have HR := Lib.hid (show VisitPost M w o g J n (.returned (.tuple #[])) w6 from ⟨rfl, o6, hv6.st, hv6.j_, HKZ.out.trans hv6.keep⟩)
  clear hv6
  go_wp2
  first | go_end0 | (simp only [Exit.inBlock, Exit.then]; refine bodyPost_ret (results_none rfl _ _ _) rfl ?_) | refine bodyPost_ret (results_none rfl _ _ _) rfl ?_
  exact HR.out
end

end Go.Proofs.Ytailpphafoamfaa
namespace Go.Proofs.Ytailpphafoamfaa
open Go Go.RowKit Go.Maps


/-- Counting what is met. -/
structure SizeJ (bx : Nat) (w : World) (o : Nat → Nat) (g : SG) (l : List Nat) : Prop where
  cell : w.heap[bx]? = some (.cells #[.int .i64 (wrap64 (l.length : Int))] 3 (0, 0))
  own : o bx = 10
section
variable {M : List Nd} {w w' w2 : World} {o o' o2 : Nat → Nat} {g : SG} {l l' : List Nat}
theorem SizeJ.keep {bx : Nat} (h : SizeJ bx w o g l) {T : Nat → Bool} (k : Keep T w o w' o') (ht : T 10 = false) : SizeJ bx w' o' g l :=
  have hl := (Array.getElem?_eq_some_iff.1 h.cell).1
  ⟨(k.blk _ hl (by rw [h.own]; exact ht)).trans h.cell, (k.own _ hl).trans h.own⟩
theorem wrap_succ (x : Int) : wrap64 (wrap64 x + 1) = wrap64 (x + 1) := by
  simp only [wrap64]
  omega
set_option maxHeartbeats 8000000 in
set_option maxRecDepth 100000 in
theorem size1_any {bx : Nat} (h : StoreM M w o g) (hj : SizeJ bx w o g l) (i : Nat) (n : Nd) : Calls Try.prog 40 #[ndV n, .pointer (some ⟨bx, 0, none⟩)] w fun e w' => e = .returned (.tuple #[]) ∧ ∃ o', StoreM M w' o' g ∧ SizeJ bx w' o' g (l ++ [i]) ∧ Keep (· == 10) w o w' o' := by
  have hbl := (Array.getElem?_eq_some_iff.1 hj.cell).1
  have hc : w.cell? ⟨bx, 0, none⟩ = some (.int .i64 (wrap64 (l.length : Int))) := (cell_of hj.cell).trans rfl
  have hz := frz_of hj.cell (i := 0)
  have HH := Lib.hid h
  have HJ := Lib.hid hj
  unfold ndV
  clear h hj
  obtain ⟨y, hy⟩ : ∃ y, wrap64 (l.length : Int) = y := ⟨_, rfl⟩
  rw [hy] at hc
  go_enter Try.func40, Try.ntmps40
  go_wp2
  first | go_end0 | (simp only [Exit.inBlock, Exit.then]; refine bodyPost_ret (results_none rfl _ _ _) rfl ?_) | refine bodyPost_ret (results_none rfl _ _ _) rfl ?_
  have k1 : Keep (· == 10) w o (w.setCell ⟨bx, 0, none⟩ (.int .i64 (wrap64 (y + 1)))) o := Keep.grown (grown_set w _ _) (fun k hk => by cases hk; show (o bx == 10) = true; rw [HJ.out.own]; rfl) (fun _ _ => rfl)
  have k2 := k1.trans (keep_alloc (· == 10) _ o (.cells #[.int .i32 (n.v : Int), .int .i32 (n.a : Int), .int .i32 (n.b : Int)] 63))
  refine ⟨rfl, o, HH.out.keep k2 ⟨rfl, rfl, rfl⟩ (fun b hb => HH.out.new b (Nat.le_trans k2.size hb)), ⟨?_, HJ.out.own⟩, k2⟩
  have hs := heap_set (i := 0) (.int .i64 (wrap64 (y + 1))) HJ.out.cell
  rw [heap_alloc_old (by simp [World.setCell]; exact hbl), hs, ← hy, wrap_succ]
  simp
theorem size_see (bx : Nat) : SeeS 40 (.pointer (some ⟨bx, 0, none⟩)) (SizeJ bx) where
  enters := enters_of Try.func40 (by kernel_rfl) rfl
  keep := fun w w' o o' g l h k => h.keep k rfl
  run := fun M w o g l i n h hj _ _ => size1_any h hj i n
def SizePost (M : List Nd) (w : World) (o : Nat → Nat) (g : SG) (f : Int) (e : Ending) (w' : World) : Prop :=
  (∃ o', StoreM M w' o' g ∧ Keep T0 w o w' o') ∧ e = .returned (if okB g.ns.length f = true then .tuple #[.int .i64 (wrap64 ((vis g.ns [] f.toNat).length : Int)), .int .i64 0] else .tuple #[.int .i64 0, .int .i64 92])
set_option maxHeartbeats 8000000 in
set_option maxRecDepth 100000 in
theorem size_bad (h : StoreM M w o g) (f : Int) (hv : okB g.ns.length f = false) : Calls Try.prog 20 #[.pointer (some ⟨g.s, 0, none⟩), .int .i64 f] w (SizePost M w o g f) := by
  have HV := Lib.hid (hasNodes_any (h.alloc (.cells #[.int .i64 f] 3)) (nums_one w f) (by simp))
  have e0 : allB g.ns.length [f] = false := by simp [allB, hv]
  rw [e0] at HV
  have HE := Lib.hid (show SizePost M w o g f (.returned (.tuple #[.int .i64 0, .int .i64 92])) (w.alloc (.cells #[.int .i64 f] 3)) from ⟨⟨o, h.alloc _, keep_alloc _ _ _ _⟩, by rw [if_neg (by rw [hv]; simp)]⟩)
  have hnot : ∀ (x : Bool) (w : World), (Op.unary .not (.bool x)).run Try.prog w = .ok (.bool (!x)) w := fun _ _ => rfl
  clear h hv e0
  go_enter Try.func20, Try.ntmps20
  go_wp2_with fail
  refine (HV.out).mono ?_
  rintro e w1 ⟨rfl, rfl⟩
  go_wp2
  go_ret2
  exact HE.out
theorem tagged (hs : StoreM M w o g) (x : Obj) (t : Nat) : StoreM M (w.alloc x) (ownG o w.heap.size t) g ∧ Keep (fun _ => false) w o (w.alloc x) (ownG o w.heap.size t) := by
  have hk : Keep (fun _ => false) w o (w.alloc x) (ownG o w.heap.size t) := Keep.grown (grown_alloc _ _) (by simp) (fun k hk => ownG_other _ _ (by omega))
  refine ⟨hs.keep hk ⟨rfl, rfl, rfl⟩ (fun b hb => ?_), hk⟩
  have : (w.alloc x).heap.size = w.heap.size + 1 := by simp
  rw [ownG_other _ _ (by omega)]
  exact hs.new b (by omega)
set_option maxHeartbeats 8000000 in
set_option maxRecDepth 100000 in
theorem size_good (h : StoreM M w o g) (f : Nat) (hv : f < g.ns.length) : Calls Try.prog 20 #[.pointer (some ⟨g.s, 0, none⟩), .int .i64 (f : Int)] w (SizePost M w o g (f : Int)) := by
  have HV := Lib.hid (hasNodes_any (h.alloc (.cells #[.int .i64 (f : Int)] 3)) (nums_one w (f : Int)) (by simp))
  have e1 := okB_of hv
  have e0 : allB g.ns.length [(f : Int)] = true := by simp [allB, e1]
  rw [e0] at HV
  have hnot : ∀ (x : Bool) (w : World), (Op.unary .not (.bool x)).run Try.prog w = .ok (.bool (!x)) w := fun _ _ => rfl
  have hmf : ∀ (fn : Fn) (first cap : Array Value) (w : World), (Instr.makeFunc fn first cap).run Try.prog w = .ok (.func fn first cap) w := fun _ _ _ _ => rfl
  have HA := Lib.hid (h.alloc (.cells #[.int .i64 (f : Int)] 3))
  have HKA := Lib.hid (keep_alloc T0 w o (.cells #[.int .i64 (f : Int)] 3))
  have HE1 := Lib.hid e1
  have HF := Lib.hid hv
  clear h hv e0 e1
  go_enter Try.func20, Try.ntmps20
  go_wp2_with fail
  refine (HV.out).mono ?_
  rintro e w1 ⟨rfl, hw1⟩
  rw [hw1] at HA HKA
  clear hw1
  obtain ⟨t1, t2⟩ := tagged HA.out (.cells #[.int .i64 0] 3) 10
  have hj : SizeJ w1.heap.size (w1.alloc (.cells #[.int .i64 0] 3)) (ownG o w1.heap.size 10) g [] := ⟨(MapKept.heap_alloc w1 (.cells #[.int .i64 0] 3)).1.trans (by simp [wrap64]), ownG_same _ _ _⟩
  have HVI := Lib.hid (visit_any (size_see w1.heap.size) t1 hj f HF.out)
  have HKV := Lib.hid (show Keep T0 w o _ _ from HKA.out.trans (t2.more (t0_of rfl)))
  clear t1 t2 hj
  go_wp2_with fail
  refine (HVI.out).mono ?_
  rintro e w2 ⟨rfl, o2, hs2, hj2, hk2⟩
  have hc : w2.cell? ⟨w1.heap.size, 0, none⟩ = some (.int .i64 (wrap64 ((vis g.ns [] f).length : Int))) := (cell_of hj2.cell).trans rfl
  have HFIN := Lib.hid (show SizePost M w o g (f : Int) (.returned (.tuple #[.int .i64 (wrap64 ((vis g.ns [] f).length : Int)), .int .i64 0])) w2 from ⟨⟨o2, hs2, HKV.out.trans (hk2.more (t0_of rfl))⟩, by rw [if_pos HE1.out]; rfl⟩)
  obtain ⟨y, hy⟩ : ∃ y, wrap64 ((vis g.ns [] f).length : Int) = y := ⟨_, rfl⟩
  rw [hy] at hc HFIN
  clear hs2 hj2 hk2 hy
  go_wp2
  go_ret2
  exact HFIN.out
theorem size_any (h : StoreM M w o g) (f : Int) : Calls Try.prog 20 #[.pointer (some ⟨g.s, 0, none⟩), .int .i64 f] w (SizePost M w o g f) := by
  cases hv : okB g.ns.length f with
  | false => exact size_bad h f hv
  | true =>
    obtain ⟨k, rfl, hk⟩ := okB_nat hv
    exact size_good h k hk
end

end Go.Proofs.Ytailpphafoamfaa
namespace Go.Proofs.Ytailpphafoamfaa
open Go Go.RowKit Go.Maps


structure ADone (ns : List Nd) (l : List Nat) (mp : Value → Option Value) : Prop where
  to : ∀ j ∈ l, ∀ n, ns[j]? = some n → mp (.int .i64 (n.v : Int)) = some (.agg #[])
  al : ∀ v x, mp v = some x → x = .agg #[] ∧ ∃ j ∈ l, ∃ n, ns[j]? = some n ∧ v = .int .i64 (n.v : Int)
/-- Gathering which variables are asked for. -/
structure AskJ (bx bd : Nat) (w : World) (o : Nat → Nat) (g : SG) (l : List Nat) : Prop where
  cell : w.cell? ⟨bx, 0, none⟩ = some (.map (some bd))
  ox : o bx = 0
  od : o bd = 10
  map : ∃ mp, MapIs 3 w bd mp ∧ ADone g.ns l mp
section
variable {M : List Nd} {w w' w2 : World} {o o' o2 : Nat → Nat} {g : SG} {l l' : List Nat}
theorem AskJ.keep {bx bd : Nat} (h : AskJ bx bd w o g l) {T : Nat → Bool} (k : Keep T w o w' o') (t0 : T 0 = false) (ht : T 10 = false) : AskJ bx bd w' o' g l := by
  obtain ⟨mp, hm, hd⟩ := h.map
  exact ⟨(k.box h.cell h.ox t0).1, (k.box h.cell h.ox t0).2, (k.own _ hm.lt).trans h.od, mp, hm.move (k.blk _ hm.lt (by rw [h.od]; exact ht)), hd⟩
theorem ADone.more {ns : List Nd} {mp : Value → Option Value} (h : ADone ns l mp) {i : Nat} {n : Nd} (hn : ns[i]? = some n) : ADone ns (l ++ [i]) (updV mp (.int .i64 (n.v : Int)) (.agg #[])) := by
  refine ⟨fun j hj m hm => ?_, fun v x hv => ?_⟩
  · by_cases e : (.int .i64 (m.v : Int) : Value) = .int .i64 (n.v : Int)
    · rw [e, updV_same]
    · rw [updV_other _ _ e]
      rcases List.mem_append.1 hj with hj | hj
      · exact h.to j hj m hm
      · simp at hj
        subst hj
        rw [hn] at hm
        cases hm
        exact absurd rfl e
  · by_cases e : v = .int .i64 (n.v : Int)
    · rw [e, updV_same] at hv
      cases hv
      exact ⟨rfl, i, by simp, n, hn, e⟩
    · rw [updV_other _ _ e] at hv
      obtain ⟨h1, j, h2, h3⟩ := h.al v x hv
      exact ⟨h1, j, List.mem_append.2 (.inl h2), h3⟩
set_option maxHeartbeats 8000000 in
set_option maxRecDepth 100000 in
theorem asked1_any {bx bd : Nat} (h : StoreM M w o g) (hj : AskJ bx bd w o g l) (i : Nat) (n : Nd) (h2 : 2 ≤ i) (hn : g.ns[i]? = some n) : Calls Try.prog 76 #[ndV n, .pointer (some ⟨bx, 0, none⟩)] w fun e w' => e = .returned (.tuple #[]) ∧ ∃ o', StoreM M w' o' g ∧ AskJ bx bd w' o' g (l ++ [i]) ∧ Keep (· == 10) w o w' o' := by
  have hc := hj.cell
  have hbl := lt_cell hc
  obtain ⟨mp, hm, hd⟩ := hj.map
  have hv : n.v < g.V := (h.wf.nd i n h2 hn).1
  have hV := h.bd
  obtain ⟨w9, hrun, hm9, ht9⟩ := (hm.move (heap_alloc_old (o := .cells #[.int .i32 (n.v : Int), .int .i32 (n.a : Int), .int .i32 (n.b : Int)] 63) hm.lt)).store K3 Try.underlying119 (isK3 (x := (n.v : Int)) (by omega)) (.agg #[])
  have k2 : Keep (· == 10) w o w9 o := (keep_alloc (· == 10) w o (.cells #[.int .i32 (n.v : Int), .int .i32 (n.a : Int), .int .i32 (n.b : Int)] 63)).trans (Keep.grown ht9.grown (fun k hk => by cases hk; rw [hj.od]; rfl) (fun _ _ => rfl))
  have HR := Lib.hid (show ∃ o', StoreM M w9 o' g ∧ AskJ bx bd w9 o' g (l ++ [i]) ∧ Keep (· == 10) w o w9 o' from ⟨o, h.keep k2 ⟨rfl, rfl, rfl⟩ (fun b hb => h.new b (Nat.le_trans k2.size hb)), ⟨(k2.box hj.cell hj.ox rfl).1, hj.ox, hj.od, _, hm9, hd.more hn⟩, k2⟩)
  have qw2 : IntKind.i64.wrap (n.v : Int) = (n.v : Int) := IntWalk.i64_in _ (by omega)
  have qw : wrap64 (n.v : Int) = (n.v : Int) := by unfold wrap64; omega
  unfold ndV
  clear h hj hm hd hm9 ht9 k2 hn
  go_enter Try.func76, Try.ntmps76
  go_wp2
  first | go_end0 | (simp only [Exit.inBlock, Exit.then]; refine bodyPost_ret (results_none rfl _ _ _) rfl ?_) | refine bodyPost_ret (results_none rfl _ _ _) rfl ?_
  exact ⟨rfl, HR.out⟩
theorem asked_see (bx bd : Nat) : SeeS 76 (.pointer (some ⟨bx, 0, none⟩)) (AskJ bx bd) where
  enters := enters_of Try.func76 (by kernel_rfl) rfl
  keep := fun w w' o o' g l h k => h.keep k rfl rfl
  run := fun M w o g l i n h hj h2 hn => asked1_any h hj i n h2 hn
def AskedPost (M : List Nd) (w : World) (o : Nat → Nat) (g : SG) (f : Nat) (e : Ending) (w' : World) : Prop :=
  ∃ bd o' mp, e = .returned (.map (some bd)) ∧ StoreM M w' o' g ∧ Keep T0 w o w' o' ∧ o' bd = 10 ∧ MapIs 3 w' bd mp ∧ ADone g.ns (vis g.ns [] f) mp
set_option maxHeartbeats 8000000 in
set_option maxRecDepth 100000 in
theorem asked_any (h : StoreM M w o g) (f : Nat) (hv : f < g.ns.length) : Calls Try.prog 65 #[.pointer (some ⟨g.s, 0, none⟩), .int .i64 (f : Int)] w (AskedPost M w o g f) := by
  have hmm := @run_makeMap Try.prog
  have hmf : ∀ (fn : Fn) (first cap : Array Value) (w : World), (Instr.makeFunc fn first cap).run Try.prog w = .ok (.func fn first cap) w := fun _ _ _ _ => rfl
  obtain ⟨t1, t2⟩ := tagged h (.map #[] 0) 10
  obtain ⟨wa, hwa⟩ : ∃ wa, (w.alloc (.map #[] 0)).alloc (.cells #[.map (some w.heap.size)] 119) = wa := ⟨_, rfl⟩
  have k2 : Keep (fun _ => false) (w.alloc (.map #[] 0)) (ownG o w.heap.size 10) wa (ownG o w.heap.size 10) := by rw [← hwa]; exact keep_alloc _ _ _ _
  have hm0 := (MapIs.made (k := 3) w).move (k2.blk _ (by simp) rfl)
  have hcx : wa.heap[w.heap.size + 1]? = some (.cells #[.map (some w.heap.size)] 119 (0, 0)) := by
    have := (MapKept.heap_alloc (w.alloc (.map #[] 0)) (.cells #[.map (some w.heap.size)] 119)).1
    rw [hwa] at this
    have e : (w.alloc (.map #[] 0)).heap.size = w.heap.size + 1 := by simp
    rw [e] at this
    exact this
  have hsa : StoreM M wa (ownG o w.heap.size 10) g := t1.keep k2 ⟨rfl, rfl, rfl⟩ (fun b hb => t1.new b (Nat.le_trans k2.size hb))
  have hj : AskJ (w.heap.size + 1) w.heap.size wa (ownG o w.heap.size 10) g [] := ⟨(cell_of hcx).trans rfl, t1.new _ (by simp), ownG_same _ _ _, _, hm0, ⟨fun j hj => (by cases hj), fun v x hv => (by cases hv)⟩⟩
  have HVI := Lib.hid (visit_any (asked_see (w.heap.size + 1) w.heap.size) hsa hj f hv)
  have HKV := Lib.hid (show Keep T0 w o wa _ from (t2.more (t0_of rfl)).trans (k2.more (t0_of rfl)))
  rw [← hwa] at HVI HKV
  clear h hv t1 t2 hwa k2 hm0 hcx hsa hj
  go_enter Try.func65, Try.ntmps65
  go_wp2_with fail
  refine (HVI.out).mono ?_
  rintro e w2 ⟨rfl, o2, hs2, hj2, hk2⟩
  obtain ⟨mp, hm, hd⟩ := hj2.map
  have hc := hj2.cell
  have HFIN := Lib.hid (show AskedPost M w o g f (.returned (.map (some w.heap.size))) w2 from ⟨_, o2, mp, rfl, hs2, HKV.out.trans (hk2.more (t0_of rfl)), hj2.od, hm, hd⟩)
  clear hs2 hj2 hk2 hm hd
  go_wp2
  go_ret
  exact HFIN.out
end

end Go.Proofs.Ytailpphafoamfaa
namespace Go.Proofs.Ytailpphafoamfaa
open Go Go.RowKit Go.Maps Go.ChangeMaps

/-- The iterator in block r over the map in block b, with what is left. -/
def IterIs (w : World) (r b : Nat) (f : Value → Option Value) (left : List Value) : Prop :=
  r ≠ b ∧ ∃ es clock since seen c0, w.heap[r]? = some (.mapIter (some b) since seen c0) ∧ w.heap[b]? = some (.map es clock) ∧ (∀ x ∈ es.toList, x.born < since) ∧ since ≤ c0 ∧ since ≤ clock ∧ (es.toList.map (·.born)).Nodup ∧
    es.toList.Pairwise (fun x y => x.key ≠ y.key) ∧ (∀ x ∈ es.toList, f x.key = some x.val) ∧ left = (leftOf es seen).toList.map (·.key)
theorem IterIs.lt {w : World} {r b : Nat} {f : Value → Option Value} {left : List Value} (h : IterIs w r b f left) : r < w.heap.size ∧ b < w.heap.size := by
  obtain ⟨-, es, clock, since, seen, c0, h1, h2, -⟩ := h
  exact ⟨(Array.getElem?_eq_some_iff.1 h1).1, (Array.getElem?_eq_some_iff.1 h2).1⟩
theorem IterIs.move {w w' : World} {r b : Nat} {f : Value → Option Value} {left : List Value} (h : IterIs w r b f left) (hr : w'.heap[r]? = w.heap[r]?) (hb : w'.heap[b]? = w.heap[b]?) : IterIs w' r b f left := by
  obtain ⟨hne, es, clock, since, seen, c0, h1, h2, h3⟩ := h
  exact ⟨hne, es, clock, since, seen, c0, hr.trans h1, hb.trans h2, h3⟩
theorem MapIs.range {k t e : TypeId} {w : World} {b : Nat} {f : Value → Option Value} (h : MapIs k w b f) (ht : Try.prog.underlying t = some (.map k e)) :
    ∃ w' left, (Instr.range t (.map (some b))).run Try.prog w = .ok (.pointer (some ⟨w.heap.size, 0, none⟩)) w' ∧ w.grownBy w' none ∧ w'.heap.size = w.heap.size + 1 ∧ IterIs w' w.heap.size b f left ∧ ∀ v, v ∈ left ↔ (f v).isSome = true := by
  have hlt := h.lt
  obtain ⟨es, clock, hb, hkeys, hpw, h1, h2, h3, h4⟩ := h
  refine ⟨_, es.toList.map (·.key), run_range_map w t k e b es clock ht hb, World.grownBy_alloc w _ none, by simp, ⟨by omega, es, clock, clock, #[], clock, (MapKept.heap_alloc w _).1, ((MapKept.heap_alloc w _).2 b hlt).trans hb, h3, Nat.le_refl _, Nat.le_refl _, h4, hpw, h1, ?_⟩, fun v => ?_⟩
  · simp only [leftOf, Array.toList_filter]
    rw [List.filter_eq_self.2 (fun _ _ => by simp)]
  · rw [List.mem_map]
    constructor
    · rintro ⟨x, hx, rfl⟩
      rw [h1 x hx]; rfl
    · intro hv
      obtain ⟨y, hy⟩ := Option.isSome_iff_exists.1 hv
      obtain ⟨x, hx, e⟩ := h2 v y hy
      exact ⟨x, hx, e⟩
theorem IterIs.next {w : World} {r b : Nat} {f : Value → Option Value} {left : List Value} (h : IterIs w r b f left) (ty : TypeId) :
    (left = [] ∧ (Instr.next (.pointer (some ⟨r, 0, none⟩)) false ty).run Try.prog w = .ok (.tuple #[.bool false]) w) ∨
    ∃ key val left' w', key ∈ left ∧ f key = some val ∧ (Instr.next (.pointer (some ⟨r, 0, none⟩)) false ty).run Try.prog w = .ok (.tuple #[.bool true, key, val]) w' ∧ w.grownBy w' (some r) ∧ IterIs w' r b f left' ∧ (∀ v, v ∈ left ↔ v = key ∨ v ∈ left') ∧ key ∉ left' ∧ left'.length < left.length ∧
      ∀ w2 : World, w2.heap[r]? = w'.heap[r]? → w2.heap[b]? = w'.heap[b]? → (Instr.entry (.pointer (some ⟨r, 0, none⟩))).run Try.prog w2 = .ok (.tuple #[key, val]) w2 := by
  have hlt := h.lt
  obtain ⟨hne, es, clock, since, seen, c0, hr, hb, hold, hsc, hsl, hnd, hpw, h1, rfl⟩ := h
  rcases run_next_at (P := Try.prog) w ty r b since c0 seen es clock hr hb hold hsc with ⟨h0, hrun⟩ | ⟨e, he, w1, hw1, hrun⟩
  · left
    refine ⟨?_, hrun⟩
    have : leftOf es seen = #[] := Array.eq_empty_of_size_eq_zero h0
    rw [this]; rfl
  · right
    obtain ⟨hee, hes⟩ := mem_left he
    have hr1 : w1.heap = w.heap := by rcases hw1 with rfl | rfl <;> rfl
    have hr9 : (setBlock w1 r (.mapIter (some b) since (seen.push e.born) clock)).heap[r]? = some (.mapIter (some b) since (seen.push e.born) clock) := by
      simp only [setBlock, Array.getElem?_setIfInBounds, hr1]
      rw [if_pos trivial, if_pos hlt.1]
    have hb9 : (setBlock w1 r (.mapIter (some b) since (seen.push e.born) clock)).heap[b]? = some (.map es clock) := by
      simp only [setBlock, Array.getElem?_setIfInBounds, hr1]
      rw [if_neg hne]
      exact hb
    have hmem : ∀ x, x ∈ (leftOf es (seen.push e.born)).toList ↔ x ∈ (leftOf es seen).toList ∧ x ≠ e := by
      intro x
      simp only [leftOf, Array.toList_filter, List.mem_filter, contains_push]
      constructor
      · rintro ⟨hx, hc⟩
        simp at hc
        exact ⟨⟨hx, by simpa using hc.1⟩, fun e2 => hc.2 (by rw [e2])⟩
      · rintro ⟨⟨hx, hc⟩, hx2⟩
        refine ⟨hx, ?_⟩
        have : x.born ≠ e.born := fun e2 => hx2 (born_inj hnd hx hee e2)
        simp at hc ⊢
        exact ⟨hc, this⟩
    have kinj : ∀ x ∈ es.toList, x.key = e.key → x = e := fun x hx hk => entry_eq_of_key hpw hx hee hk
    refine ⟨e.key, e.val, (leftOf es (seen.push e.born)).toList.map (·.key), _, List.mem_map.2 ⟨e, he, rfl⟩, h1 e hee, hrun, ?_, ⟨hne, es, clock, since, _, clock, hr9, hb9, hold, hsl, hsl, hnd, hpw, h1, rfl⟩, fun v => ?_, ?_, ?_, fun w2 h2 h3 => ?_⟩
    · refine ⟨?_, ?_, ?_, ?_, ?_⟩
      · rcases hw1 with rfl | rfl <;> rfl
      · rcases hw1 with rfl | rfl <;> rfl
      · rcases hw1 with rfl | rfl <;> rfl
      · simp [setBlock, hr1]
      · intro k hk hne2
        simp only [setBlock, Array.getElem?_setIfInBounds, hr1]
        rw [if_neg (fun e2 => hne2 (by rw [e2]))]
    · rw [List.mem_map, List.mem_map]
      constructor
      · rintro ⟨x, hx, rfl⟩
        by_cases e2 : x = e
        · exact .inl (by rw [e2])
        · exact .inr ⟨x, (hmem x).2 ⟨hx, e2⟩, rfl⟩
      · rintro (rfl | ⟨x, hx, rfl⟩)
        · exact ⟨e, he, rfl⟩
        · exact ⟨x, ((hmem x).1 hx).1, rfl⟩
    · intro hc
      obtain ⟨x, hx, hk⟩ := List.mem_map.1 hc
      obtain ⟨hx1, hx2⟩ := (hmem x).1 hx
      exact hx2 (kinj x (mem_left hx1).1 hk)
    · rw [List.length_map, List.length_map]
      exact left_shrinks es seen e he
    · exact run_entry_at w2 r b since seen es clock e (h2.trans hr9) (h3.trans hb9) hee hnd
end Go.Proofs.Ytailpphafoamfaa
namespace Go.Proofs.Ytailpphafoamfaa
open Go Go.RowKit Go.Maps


/-- The variable v is asked for by a node of the list S. -/
def AskedV (ns : List Nd) (S : List Nat) (v : Nat) : Prop := ∃ j ∈ S, ∃ n, ns[j]? = some n ∧ n.v = v
/-- No two variables that are asked for become one. -/
def ApartIs (ns : List Nd) (S : List Nat) (l : List Int) : Prop := ∀ u v, AskedV ns S u → AskedV ns S v → l.getD u 0 = l.getD v 0 → u = v
structure ApR (ns : List Nd) (S : List Nat) (l : List Int) (left : List Value) (tkf : Value → Option Value) : Prop where
  le : ∀ x ∈ left, ∃ v : Nat, x = .int .i64 (v : Int) ∧ AskedV ns S v
  tk : ∀ z : Int, (tkf (.int .i64 z)).isSome = true ↔ ∃ v : Nat, AskedV ns S v ∧ (.int .i64 (v : Int)) ∉ left ∧ l.getD v 0 = z
  ag : ∀ k x, tkf k = some x → x = .agg #[]
  inj : ∀ u v, AskedV ns S u → AskedV ns S v → (.int .i64 (u : Int)) ∉ left → (.int .i64 (v : Int)) ∉ left → l.getD u 0 = l.getD v 0 → u = v
section
variable {ns : List Nd} {S : List Nat} {l : List Int} {left left' : List Value} {tkf mp : Value → Option Value}
theorem ApR.start (hd : ADone ns S mp) (hl : ∀ v, v ∈ left ↔ (mp v).isSome = true) : ApR ns S l left (fun _ => none) := by
  have hin : ∀ v, AskedV ns S v → (.int .i64 (v : Int) : Value) ∈ left := by
    rintro v ⟨j, hj, n, hn, rfl⟩
    rw [hl, hd.to j hj n hn]; rfl
  refine ⟨fun x hx => ?_, fun z => ?_, fun k x h => (by cases h), fun u v hu _ h1 => absurd (hin u hu) h1⟩
  · rw [hl] at hx
    obtain ⟨y, hy⟩ := Option.isSome_iff_exists.1 hx
    obtain ⟨-, j, hj, n, hn, e⟩ := hd.al x y hy
    exact ⟨n.v, e, j, hj, n, hn, rfl⟩
  · constructor
    · intro h; cases h
    · rintro ⟨v, h1, h2, -⟩
      exact absurd (hin v h1) h2
theorem ApR.step (h : ApR ns S l left tkf) {v : Nat} (hm : ∀ x, x ∈ left ↔ x = .int .i64 (v : Int) ∨ x ∈ left') (hn : (.int .i64 (v : Int) : Value) ∉ left') (hv : AskedV ns S v) (hf : (tkf (.int .i64 (l.getD v 0))).isSome = false) : ApR ns S l left' (updV tkf (.int .i64 (l.getD v 0)) (.agg #[])) := by
  have hout : ∀ u : Nat, (.int .i64 (u : Int) : Value) ∉ left' → u = v ∨ (.int .i64 (u : Int) : Value) ∉ left := by
    intro u hu
    by_cases e : u = v
    · exact .inl e
    · right
      rw [hm]
      rintro (e2 | e2)
      · simp at e2; omega
      · exact hu e2
  have hno : ∀ u, AskedV ns S u → (.int .i64 (u : Int) : Value) ∉ left → l.getD u 0 ≠ l.getD v 0 := by
    intro u hu hul e
    have := (h.tk (l.getD v 0)).2 ⟨u, hu, hul, e⟩
    rw [hf] at this
    cases this
  refine ⟨fun x hx => h.le x ((hm x).2 (.inr hx)), fun z => ?_, fun k x hk => ?_, fun u u' hu hu' h1 h2 he => ?_⟩
  · by_cases e : z = l.getD v 0
    · subst e
      rw [updV_same]
      exact ⟨fun _ => ⟨v, hv, hn, rfl⟩, fun _ => rfl⟩
    · rw [updV_other _ _ (by intro e2; simp at e2; exact e e2), h.tk]
      constructor
      · rintro ⟨u, h1, h2, h3⟩
        exact ⟨u, h1, fun h4 => h2 ((hm _).2 (.inr h4)), h3⟩
      · rintro ⟨u, h1, h2, h3⟩
        rcases hout u h2 with rfl | h4
        · exact absurd h3.symm e
        · exact ⟨u, h1, h4, h3⟩
  · by_cases e : k = .int .i64 (l.getD v 0)
    · rw [e, updV_same] at hk
      cases hk; rfl
    · rw [updV_other _ _ e] at hk
      exact h.ag k x hk
  · rcases hout u h1 with rfl | h3
    · rcases hout u' h2 with rfl | h4
      · rfl
      · exact absurd he.symm (hno u' hu' h4)
    · rcases hout u' h2 with rfl | h4
      · exact absurd he (hno u hu h3)
      · exact h.inj u u' hu hu' h3 h4 he
theorem ApR.found (h : ApR ns S l left tkf) {v : Nat} (hin : (.int .i64 (v : Int) : Value) ∈ left) (hv : AskedV ns S v) (hf : (tkf (.int .i64 (l.getD v 0))).isSome = true) : ¬ ApartIs ns S l := by
  intro ha
  obtain ⟨u, h1, h2, h3⟩ := (h.tk _).1 hf
  have := ha u v h1 hv h3
  subst this
  exact h2 hin
theorem ApR.done (h : ApR ns S l [] tkf) : ApartIs ns S l := fun u v hu hv he => h.inj u v hu hv (by simp) (by simp) he
end

end Go.Proofs.Ytailpphafoamfaa
namespace Go.Proofs.Ytailpphafoamfaa
open Go Go.RowKit Go.Maps


/-- A slice value that reads as whole numbers, in a block that is the caller's. -/
def NumsO (w : World) (o : Nat → Nat) (v : Value) (l : List Int) : Prop := ∃ A c, v = .slice A l.length c ∧ (l ≠ [] → ∃ b off, A = some ⟨b, off, none⟩ ∧ b < w.heap.size ∧ o b = 0 ∧ ∀ j x, l[j]? = some x → w.cell? ⟨b, off + j, none⟩ = some (.int .i64 x))
theorem NumsO.keep {T : Nat → Bool} {w w' : World} {o o' : Nat → Nat} {v : Value} {l : List Int} (h : NumsO w o v l) (k : Keep T w o w' o') (t0 : T 0 = false) : NumsO w' o' v l := by
  obtain ⟨A, c, h1, h2⟩ := h
  refine ⟨A, c, h1, fun hne => ?_⟩
  obtain ⟨b, off, h3, h4, h5, h6⟩ := h2 hne
  exact ⟨b, off, h3, Nat.lt_of_lt_of_le h4 k.size, (k.own b h4).trans h5, fun j x hx => (World.cell?_of_block (a := ⟨b, off + j, none⟩) (k.blk b h4 (by rw [h5]; exact t0))).trans (h6 j x hx)⟩
theorem NumsO.nums {w : World} {o : Nat → Nat} {v : Value} {l : List Int} (h : NumsO w o v l) : Nums w v l := by
  obtain ⟨A, c, h1, h2⟩ := h
  exact ⟨A, c, h1, fun hne => by obtain ⟨b, off, h3, h4, -, h6⟩ := h2 hne; exact ⟨b, off, h3, h4, h6⟩⟩
section
variable {M : List Nd} {w w' w1 wr wr' : World} {o o' o1 : Nat → Nat} {g : SG} {S : List Nat} {l : List Int} {left left' : List Value} {tkf mp : Value → Option Value} {bt bd r : Nat}
structure ApW (w1 wr : World) (ns : List Nd) (S : List Nat) (l : List Int) (r bt bd : Nat) (mp : Value → Option Value) (left : List Value) (tkf : Value → Option Value) : Prop where
  it : IterIs wr r bd mp left
  tm : MapIs 3 wr bt tkf
  gr : w1.grownBy wr (some bt)
  rr : ApR ns S l left tkf
def ApartPost (M : List Nd) (w : World) (o : Nat → Nat) (g : SG) (f : Nat) (l : List Int) (e : Ending) (w' : World) : Prop :=
  ∃ b : Bool, e = .returned (.bool b) ∧ (b = true ↔ ApartIs g.ns (vis g.ns [] f) l) ∧ ∃ o', StoreM M w' o' g ∧ Keep T0 w o w' o'
theorem ap_end (h1 : StoreM M w1 o1 g) (k1 : Keep T0 w o w1 o1) (hbt : w.heap.size ≤ bt) (ho : o1 bt = 0) (hg : w1.grownBy wr (some bt)) : ∃ o', StoreM M wr o' g ∧ Keep T0 w o wr o' := by
  refine ⟨o1, h1.keep (T := (· == 0)) (Keep.grown hg (fun k hk => by cases hk; rw [ho]; rfl) (fun _ _ => rfl)) ⟨rfl, rfl, rfl⟩ (fun b hb => h1.new b (Nat.le_trans hg.size hb)), ⟨hg.os.trans k1.os, hg.tape.trans k1.tape, hg.output.trans k1.output, Nat.le_trans k1.size hg.size, k1.own, fun k hk h0 => ?_⟩⟩
  exact (hg.block k (Nat.lt_of_lt_of_le hk k1.size) (by intro e; cases e; omega)).trans (k1.blk k hk h0)
def leftN (w : World) (r : Nat) : Nat := match w.heap[r]? with
  | some (.mapIter (some b) _ seen _) => (match w.heap[b]? with
    | some (.map es _) => (leftOf es seen).size
    | _ => 0)
  | _ => 0
theorem IterIs.leftN {b : Nat} (h : IterIs w r b mp left) : leftN w r = left.length := by
  obtain ⟨-, es, clock, since, seen, c0, h1, h2, -, -, -, -, -, -, rfl⟩ := h
  simp [Ytailpphafoamfaa.leftN, h1, h2]
theorem allB_at {n : Nat} (hall : allB n l = true) {j : Nat} {x : Int} (hx : l[j]? = some x) : 0 ≤ x ∧ x < (n : Int) := by
  have := List.all_eq_true.1 hall x (List.mem_of_getElem? hx)
  obtain ⟨k, rfl, hk⟩ := okB_nat this
  omega
set_option maxHeartbeats 8000000 in
set_option maxRecDepth 100000 in
theorem apart_any (h : StoreM M w o g) (f : Nat) (hv : f < g.ns.length) {vv : Value} (hl : NumsO w o vv l) (hlen : l.length = g.V) (hall : allB g.V l = true) : Calls Try.prog 50 #[.pointer (some ⟨g.s, 0, none⟩), .int .i64 (f : Int), vv] w (ApartPost M w o g f l) := by
  have hmm := @run_makeMap Try.prog
  have hm0 := MapIs.made (k := 3) w
  have HASK := Lib.hid (asked_any (h.alloc (.map #[] 0)) f hv)
  have HH := Lib.hid h
  have HF := Lib.hid hv
  obtain ⟨A, c, rfl, hcell⟩ := hl
  have HCE := Lib.hid hcell
  have HLV := Lib.hid (show l.length = g.V ∧ allB g.V l = true from ⟨hlen, hall⟩)
  have HM0 := Lib.hid hm0
  clear h hv hlen hall hm0 hcell
  go_enter Try.func50, Try.ntmps50
  go_wp2_with fail
  refine (HASK.out).mono ?_
  rintro e w1 ⟨bd, o1, mp, rfl, hs1, hk1, ho1, hm1, hd1⟩
  obtain ⟨w2, left0, hrg, hg2, hz2, hit, hleft⟩ := hm1.range Try.underlying119
  have HK1 := Lib.hid (show Keep T0 w o w1 o1 from (keep_alloc T0 w o _).trans hk1)
  obtain ⟨bt, hbt⟩ : ∃ bt, w.heap.size = bt := ⟨_, rfl⟩
  have hotw : o bt = 0 := HH.out.new bt (by omega)
  have htm1 : MapIs 3 w1 bt (fun _ => none) ∧ o1 bt = 0 := by
    rw [← hbt] at hotw ⊢
    exact ⟨HM0.out.move (hk1.blk _ HM0.out.lt (by rw [hotw]; rfl)), (hk1.own _ HM0.out.lt).trans hotw⟩
  have HW0 := Lib.hid (show ApW w1 w2 g.ns (vis g.ns [] f) l w1.heap.size bt bd mp left0 (fun _ => none) from ⟨hit, htm1.1.move (grown_far hg2 htm1.1.lt), ⟨hg2.os, hg2.tape, hg2.output, hg2.size, fun k hk _ => hg2.block k hk (by simp)⟩, ApR.start hd1 hleft⟩)
  have HEND := Lib.hid (fun (wr : World) (hg : w1.grownBy wr (some bt)) => ap_end hs1 HK1.out (by omega) htm1.2 hg)
  have HBD := Lib.hid (show bd ≠ bt ∧ bd < w1.heap.size ∧ bt < w1.heap.size from ⟨fun e => (by rw [e, htm1.2] at ho1; cases ho1), hm1.lt, htm1.1.lt⟩)
  have HAD := Lib.hid hd1
  have HWF := Lib.hid hs1
  rw [hbt]
  clear hs1 hk1 ho1 hm1 hd1 hg2 hz2 hit hleft htm1 hotw
  go_wp2
  go_loopw [8] (fun _ wr => ∃ left tkf, Hid (ApW w1 wr g.ns (vis g.ns [] f) l w1.heap.size bt bd mp left tkf)) (fun _ wr => leftN wr w1.heap.size)
  case atStart => exact ⟨left0, _, HW0⟩
  case round =>
    obtain ⟨left, tkf, hW⟩ := hrel
    have HW := hW
    have hmeas := HW.out.it.leftN
    rcases HW.out.it.next 0 with ⟨hemp, hrun⟩ | ⟨key, val, left', w5, hin, hval, hrun, hg5, hit5, hmem, hnin, hlt, hen⟩
    · have HR := Lib.hid (show ApartPost M w o g f l (.returned (.bool true)) wr from ⟨true, rfl, ⟨fun _ => (by have h1 := HW.out.rr; rw [hemp] at h1; exact h1.done), fun _ => rfl⟩, HEND.out wr HW.out.gr⟩)
      clear hemp hmeas hW
      go_wp2
      go_ret
      exact HR.out
    · obtain ⟨v, rfl, hav⟩ := HW.out.rr.le key hin
      have hvV : v < l.length := by
        obtain ⟨j, hj, n, hn, rfl⟩ := hav
        have h2 := HWF.out.wf.vis_ok f [] HF.out (by simp) (by simp)
        have h3 : 2 ≤ j := by rcases h2.2.2.2.1 j hj with h4 | h4; cases h4; exact h4.1
        have := (HWF.out.wf.nd j n h3 hn).1
        rw [HLV.out.1]; exact this
      obtain ⟨b, off, rfl, hbl, hob, hcl⟩ := HCE.out (by intro e; rw [e] at hvV; simp at hvV)
      obtain ⟨x, hx⟩ : ∃ x, l[v]? = some x := ⟨_, List.getElem?_eq_getElem hvV⟩
      have hgx : l.getD v 0 = x := by simp [List.getD_eq_getElem?_getD, hx]
      have hxb := allB_at HLV.out.2 hx
      have hVb := HWF.out.bd.1
      have hb5 : b < w5.heap.size ∧ w5.cell? ⟨b, off + v, none⟩ = some (.int .i64 x) := by
        have hb1 : b < w1.heap.size := Nat.lt_of_lt_of_le hbl HK1.out.size
        have e1 := HK1.out.blk b hbl (by rw [hob]; rfl)
        have e2 := HW.out.gr.block b hb1 (by intro e; cases e; omega)
        have hb2 : b < wr.heap.size := Nat.lt_of_lt_of_le hb1 HW.out.gr.size
        have e3 := hg5.block b hb2 (by intro e; cases e; omega)
        exact ⟨Nat.lt_of_lt_of_le hb2 hg5.size, (World.cell?_of_block (a := ⟨b, off + v, none⟩) (e3.trans (e2.trans e1))).trans (hcl v x hx)⟩
      obtain ⟨hb5l, hb5c⟩ := hb5
      have htm5 : MapIs 3 w5 bt tkf := HW.out.tm.move (hg5.block bt (Nat.lt_of_lt_of_le HBD.out.2.2 HW.out.gr.size) (by intro e; cases e; have := HBD.out.2.2; omega))
      have hgr5 : w1.grownBy w5 (some bt) := HW.out.gr.andThen hg5 (fun j hj => by cases hj; exact .inl (Nat.le_refl _))
      have hlk := htm5.look K3 Try.underlying119 (z65 _) (isK3 (x := x) (by omega))
      have hge : (tkf (.int .i64 x)).getD (.agg #[]) = .agg #[] := by
        cases h : tkf (.int .i64 x) with
        | none => rfl
        | some y => exact HW.out.rr.ag _ _ h
      rw [hge] at hlk
      have hent := hen w5 rfl rfl
      have q1 : (v : Int) < (l.length : Int) := by omega
      have q0 : (0 : Int) ≤ (v : Int) := by omega
      by_cases hs : (tkf (.int .i64 x)).isSome = true
      · rw [hs] at hlk
        have HR := Lib.hid (fun (X : Obj) => show ApartPost M w o g f l (.returned (.bool false)) (w5.alloc X) from ⟨false, rfl, ⟨fun h => (by cases h), fun h => absurd h (HW.out.rr.found hin hav (by rw [hgx]; exact hs))⟩, HEND.out _ (hgr5.andThen (grown_alloc w5 X) (fun j hj => by cases hj))⟩)
        clear hs hge hgr5 htm5 hmem hnin hit5 hlt hen hmeas hcl hbl hx hgx hxb hVb hav hin hval hg5 hW hvV
        go_wp2
        go_ret
        exact HR.out _
      · have hs' : (tkf (.int .i64 x)).isSome = false := by simpa using hs
        rw [hs'] at hlk
        obtain ⟨w9, hst, hm9, ht9⟩ := (htm5.move (heap_alloc_old (o := .cells #[] 65) htm5.lt)).store K3 Try.underlying119 (isK3 (x := x) (by omega)) (.agg #[])
        have hbtr : w1.heap.size ≠ bt := by have := HBD.out.2.2; omega
        have h59 : ∀ k, k < w5.heap.size → k ≠ bt → w9.heap[k]? = w5.heap[k]? := fun k hk hne => (ht9.grown.block k (by simp; omega) (by intro e; cases e; exact hne rfl)).trans (heap_alloc_old hk)
        have H9 := Lib.hid (show ApW w1 w9 g.ns (vis g.ns [] f) l w1.heap.size bt bd mp left' (updV tkf (.int .i64 x) (.agg #[])) ∧ left'.length < left.length from ⟨⟨hit5.move (h59 _ hit5.lt.1 hbtr) (h59 _ hit5.lt.2 HBD.out.1), hm9, (hgr5.andThen (grown_alloc w5 _) (fun j hj => by cases hj)).andThen ht9.grown (fun j hj => .inr hj), by
          have := HW.out.rr.step hmem hnin hav (by rw [hgx]; exact hs')
          rw [hgx] at this
          exact this⟩, hlt⟩)
        clear hs hs' hge hgr5 htm5 hmem hnin hit5 hlt hen hcl hbl hx hgx hxb hVb hav hin hval hg5 hW hvV hm9 ht9 h59 hbtr
        go_wp2
        refine ⟨⟨left', _, Lib.hid H9.out.1⟩, ?_⟩
        rw [hmeas, H9.out.1.it.leftN]
        exact H9.out.2
end

end Go.Proofs.Ytailpphafoamfaa
