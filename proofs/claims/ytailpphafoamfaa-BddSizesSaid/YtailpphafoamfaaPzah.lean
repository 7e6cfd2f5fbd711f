/- A diagram is put into the store. Whether nodes, variables are there. The diagram of a variable. -/
import Derived.Test.YtailpphafoamfaaPzag
set_option linter.all false
namespace Go.Proofs.Ytailpphafoamfaa
open Go Go.RowKit Go.Maps


section
variable {w w' : World} {o : Nat → Nat} {g : SG} {D : DG} {f : Nat}
def T0 (t : Nat) : Bool := decide (t ≠ 0)
theorem t0_of {T : Nat → Bool} (ht : T 0 = false) : ∀ t, T0 t = false → T t = false := fun t h => by
  unfold T0 at h
  have : t = 0 := by simpa using h
  rw [this]; exact ht
/-- A store with nodes more. -/
structure More (g g' : SG) : Prop where
  s : g'.s = g.s
  V : g'.V = g.V
  room : g'.room = g.room
  W : g'.W = g.W
  ns : ∃ K, g'.ns = g.ns ++ K
structure KeepOut (w : World) (o : Nat → Nat) (g : SG) (D : DG) (f r : Nat) (w' : World) (o' : Nat → Nat) (g' : SG) : Prop where
  st : StoreAt w' o' g'
  keep : Keep T0 w o w' o'
  more : More g g'
  len : g'.ns.length + 1 ≤ g.ns.length + 2 ^ (g.V - ask (lst g D) f)
  lt : r < g'.ns.length
  ev : ∀ m, ev g'.ns r m = ev (lst g D) f m
  full : D.full = false
  src : Src g.ns.length g'.ns r
def KeepPost (w : World) (o : Nat → Nat) (g : SG) (D : DG) (f : Nat) (e : Ending) (w' : World) : Prop :=
  (e = .returned (.tuple #[.int .i64 0, .int .i64 90]) ∧ w.grownBy w' none ∧ (D.full = true ∨ g.room + 2 ≤ g.ns.length + 2 ^ (g.V - ask (lst g D) f) ∧ g.room + 1 ≤ g.ns.length + D.ds.length)) ∨
  ∃ (r : Nat) (o' : Nat → Nat) (g' : SG), e = .returned (.tuple #[.int .i64 (r : Int), .int .i64 0]) ∧ KeepOut w o g D f r w' o' g'
theorem wsum_mono (m : List Bool) : ∀ a b, a ≤ b → wsum (fun _ => 1) m a ≤ wsum (fun _ => 1) m b
  | a, 0, h => by simp at h; subst h; exact Nat.le_refl _
  | a, b + 1, h => by
    by_cases e : a = b + 1
    · rw [e]; exact Nat.le_refl _
    · have := wsum_mono m a b (by omega)
      show _ ≤ wsum _ m b + _
      omega
theorem wsum_lt {m : List Bool} {i : Nat} (hi : i < m.length) (h : m.getD i false = true) : wsum (fun _ => 1) m i + 1 ≤ wsum (fun _ => 1) m m.length := by
  have h1 := wsum_mono m (i + 1) m.length hi
  have h2 : wsum (fun _ => 1) m (i + 1) = wsum (fun _ => 1) m i + 1 := by
    show wsum _ m i + _ = _
    rw [h]
    rfl
  omega
def T9 (t : Nat) : Bool := t == 1 || t == 2 || t == 3 || t == 9
structure KLoop (w1 : World) (o1 : Nat → Nat) (g : SG) (D : DG) (bk : Nat) (m : List Bool) (i : Nat) (wr : World) (o' : Nat → Nat) (gI : SG) (kept : List Nat) : Prop where
  st : StoreAt wr o' gI
  kp : Keep T9 w1 o1 wr o'
  s : gI.s = g.s
  V : gI.V = g.V
  room : gI.room = g.room
  W : gI.W = g.W
  inv : KInv g.V g.ns D.ds m i gI.ns kept
  ck : wr.heap[bk]? = some (.cells (intC kept) 21 (0, 0))
structure KFix (w1 : World) (o1 : Nat → Nat) (g : SG) (D : DG) (m : List Bool) (b2 b8 bk bn gx : Nat) : Prop where
  c2 : w1.cell? ⟨b2, 0, none⟩ = some (.pointer (some ⟨D.d, 0, none⟩))
  c8 : w1.cell? ⟨b8, 0, none⟩ = some (.slice (some ⟨bk, 0, none⟩) D.ds.length D.ds.length)
  cn : w1.heap[bn]? = some (.cells (boolC m) 4 (0, 0))
  d0 : w1.cell? ⟨D.d, 0, none⟩ = some (.pointer (some ⟨g.s, 0, none⟩))
  d1 : w1.cell? ⟨D.d, 1, none⟩ = some (.int .i32 (g.ns.length : Int))
  lx : gx < w1.heap.size
  o2 : o1 b2 = 0
  o8 : o1 b8 = 0
  on_ : o1 bn = 0
  ok : o1 bk = 9
  od : o1 D.d = 4
  ox : o1 gx = 5
theorem KLoop.box {w1 wr : World} {o1 o' : Nat → Nat} {bk : Nat} {m : List Bool} {i : Nat} {gI : SG} {kept : List Nat} (h : KLoop w1 o1 g D bk m i wr o' gI kept) (x : Obj) : KLoop w1 o1 g D bk m i (wr.alloc x) o' gI kept :=
  ⟨h.st.alloc x, h.kp.trans (keep_alloc _ _ _ _), h.s, h.V, h.room, h.W, h.inv, (heap_alloc_old (Array.getElem?_eq_some_iff.1 h.ck).1).trans h.ck⟩
theorem KLoop.drew {w1 wr : World} {o1 o' : Nat → Nat} {bk : Nat} {m : List Bool} {i : Nat} {gI : SG} {kept : List Nat} (h : KLoop w1 o1 g D bk m i wr o' gI kept) : KLoop w1 o1 g D bk m i (World.drew wr) o' gI kept :=
  ⟨h.st.drew, h.kp.trans (keep_drew _ _ _), h.s, h.V, h.room, h.W, h.inv, h.ck⟩
theorem KLoop.grown {w1 wr w2 : World} {o1 o' : Nat → Nat} {bk : Nat} {m : List Bool} {i : Nat} {gI : SG} {kept : List Nat} (h : KLoop w1 o1 g D bk m i wr o' gI kept) (hg : wr.grownBy w2 none) : KLoop w1 o1 g D bk m i w2 o' gI kept :=
  ⟨h.st.grown hg, h.kp.trans (keep_none _ _ hg), h.s, h.V, h.room, h.W, h.inv, (grown_far hg (Array.getElem?_eq_some_iff.1 h.ck).1).trans h.ck⟩
theorem KLoop.num {w1 wr : World} {o1 o' : Nat → Nat} {b2 b8 bk bn gx : Nat} {m : List Bool} {i : Nat} {gI : SG} {kept : List Nat} (h : KLoop w1 o1 g D bk m i wr o' gI kept) (x : KFix w1 o1 g D m b2 b8 bk bn gx) : NumAt wr D.d g.ns.length b2 b8 bk kept :=
  ⟨h.kp.cell x.c2 (by show T9 (o1 b2) = false; rw [x.o2]; rfl), h.kp.cell x.d1 (by show T9 (o1 D.d) = false; rw [x.od]; rfl), by rw [h.inv.kl]; exact h.kp.cell x.c8 (by show T9 (o1 b8) = false; rw [x.o8]; rfl), h.ck⟩
theorem info21 : (Try.prog.info? 21).map (fun i => (i.zero, i.size, i.bytes)) = some (some (.int .i32 0), 1, 4) := by kernel_rfl
theorem mk_ints (n : Nat) (hn : n ≤ 33554432) (w : World) : (Instr.makeSlice 106 (.int .i64 (n : Int)) (.int .i64 (n : Int))).run Try.prog w = .ok (.slice (some ⟨w.heap.size, 0, none⟩) n n) (w.alloc (.cells (intC (List.replicate n 0)) 21)) := by
  obtain ⟨i0, hi, hz0, hz1, hz2⟩ := info_parts info21
  have hr := run_make (P := Try.prog) w 106 21 i0 (.int .i32 0) Try.underlying106 hi hz0 .i64 .i64 n n (by omega) (Int.le_refl _) (by rw [hz2]; omega) (by omega)
  simp only [Int.toNat_natCast] at hr
  rw [hr, hz1]
  have e : madeCells (Value.int .i32 0).cells (n * 1) = intC (List.replicate n 0) := by
    apply Array.toList_inj.1
    rw [Nat.mul_one]
    exact (toList_madeCells_one (.int .i32 0) n).trans (by simp [intC])
  rw [e]
set_option maxHeartbeats 8000000 in
set_option maxRecDepth 100000 in
theorem keep_full (hs : DS w o g D) (hf : f < (lst g D).length) (hfu : D.full = true) : Calls Try.prog 48 #[.pointer (some ⟨D.d, 0, none⟩), .int .i32 (f : Int)] w (KeepPost w o g D f) := by
  have HS := Lib.hid hs
  have HF := Lib.hid hf
  have HM := Lib.hid (show D.ds.length ≤ 16777216 from by have := hs.dr.most; omega)
  have HBX := Lib.hid (hs.alloc (.cells #[.pointer (some ⟨D.d, 0, none⟩)] 94))
  have HNE := Lib.hid (needed_any HBX.out hf)
  have HGA := Lib.hid (grown_alloc w (.cells #[.pointer (some ⟨D.d, 0, none⟩)] 94))
  have HBC := Lib.hid (show (w.alloc (.cells #[.pointer (some ⟨D.d, 0, none⟩)] 94)).heap[w.heap.size]? = some (.cells #[.pointer (some ⟨D.d, 0, none⟩)] 94 (0, 0)) from (MapKept.heap_alloc w _).1)
  have c2a : (w.alloc (.cells #[.pointer (some ⟨D.d, 0, none⟩)] 94)).cell? ⟨w.heap.size, 0, none⟩ = some (.pointer (some ⟨D.d, 0, none⟩)) := by simp
  have HFU := Lib.hid hfu
  clear hs hf hfu
  go_enter Try.func48, Try.ntmps48
  go_wp2_with fail
  refine (HNE.out).mono ?_
  rintro e wn ⟨bn, m, many, rfl, hg, hcn, hge, hinv⟩
  have HG := Lib.hid hg
  have HCN := Lib.hid hcn
  have HGE := Lib.hid hge
  have HI := Lib.hid hinv
  have HWA := Lib.hid (show w.grownBy wn none from grown_trans HGA.out hg)
  have HSN := Lib.hid (HBX.out.grown hg)
  have c2 : wn.cell? ⟨w.heap.size, 0, none⟩ = some (.pointer (some ⟨D.d, 0, none⟩)) := (World.cell?_of_block (grown_far hg (by simp))).trans c2a
  have HMY := Lib.hid (show many ≤ 16777216 ∧ many + 1 ≤ 2 ^ (g.V - ask (lst g D) f) ∧ m.length = D.ds.length ∧ many = wsum (fun _ => 1) m m.length from by
    have h1 := hinv.many
    have h2 := wsum_le m m.length
    have h3 := hinv.len
    have h4 := HM.out
    have h5 := hinv.wt
    unfold wsum at h5
    exact ⟨by omega, by omega, h3, h1⟩)
  obtain ⟨b2, hb2⟩ : ∃ b2, w.heap.size = b2 := ⟨_, rfl⟩
  have HB2 := Lib.hid hb2
  rw [hb2] at c2 ⊢
  clear hg hcn hge hinv hb2 c2a HBC HGA HBX HNE
  have d5 := HSN.out.dr.c5
  rw [HFU.out] at d5
  have d0 := HSN.out.dr.c0
  have s1 := HSN.out.st.cell1
  have s2 := HSN.out.st.cell2
  obtain ⟨A, c, hv⟩ : ∃ A c, g.val = .slice A g.ns.length c := by
    obtain ⟨-, h1⟩ := HSN.out.st.row
    rcases h1 with ⟨h1, h3⟩ | ⟨gx, cap, cur, h1, -⟩
    · exact ⟨none, 0, by rw [h1, h3]⟩
    · exact ⟨_, _, h1⟩
  rw [hv] at s2
  clear hv
  have hbd := HSN.out.st.bd
  have HQ := Lib.hid (show g.ns.length + many ≤ 33554432 from by have := HMY.out; omega)
  clear hbd
  go_wp2
  refine wp_region_T (S := fun w' => ∀ k ∈ [b2, D.d, g.s], w'.heap[k]? = wn.heap[k]?) (tail := fun _ => false) (by kernel_rfl) ?_
  change wpAnyT _ _ _ _ _ _ _ _ _ (World.drew wn)
  have BD := Lib.hid (show ∀ k ∈ [b2, D.d, g.s], (World.drew wn).heap[k]? = wn.heap[k]? from fun _ _ => rfl)
  refine tk 0 18 (.pointer (some ⟨D.d, 0, none⟩)) BD.out ?y0 ?_
  case y0 =>
    intro w' hw'
    have y0 := (World.cell?_of_block (a := ⟨b2, 0, none⟩) (hw' _ (by simp))).trans c2
    go_simp
  try simp only [Act.put, List.setIfInBounds_toArray, List.set_cons_zero, List.set_cons_succ]
  refine tk 1 19 (.pointer (some ⟨D.d, 0, none⟩)) BD.out ?y1 ?_
  case y1 =>
    intro w' hw'
    go_simp
  try simp only [Act.put, List.setIfInBounds_toArray, List.set_cons_zero, List.set_cons_succ]
  refine tk 2 20 (.pointer (some ⟨D.d, 5, none⟩)) BD.out ?y2 ?_
  case y2 =>
    intro w' hw'
    go_simp
  try simp only [Act.put, List.setIfInBounds_toArray, List.set_cons_zero, List.set_cons_succ]
  refine tk 3 21 (.bool true) BD.out ?y3 ?_
  case y3 =>
    intro w' hw'
    have y0 := (World.cell?_of_block (a := ⟨D.d, 5, none⟩) (hw' _ (by simp))).trans d5
    go_simp
  try simp only [Act.put, List.setIfInBounds_toArray, List.set_cons_zero, List.set_cons_succ]
  refine tk 4 22 (.bool true) BD.out ?y4 ?_
  case y4 =>
    intro w' hw'
    go_simp
  try simp only [Act.put, List.setIfInBounds_toArray, List.set_cons_zero, List.set_cons_succ]
  refine sk 5 23 BD.out ?_
  try simp only [Act.put, List.setIfInBounds_toArray, List.set_cons_zero, List.set_cons_succ]
  refine sk 6 24 BD.out ?_
  try simp only [Act.put, List.setIfInBounds_toArray, List.set_cons_zero, List.set_cons_succ]
  refine sk 7 25 BD.out ?_
  try simp only [Act.put, List.setIfInBounds_toArray, List.set_cons_zero, List.set_cons_succ]
  refine sk 8 26 BD.out ?_
  try simp only [Act.put, List.setIfInBounds_toArray, List.set_cons_zero, List.set_cons_succ]
  refine sk 9 27 BD.out ?_
  try simp only [Act.put, List.setIfInBounds_toArray, List.set_cons_zero, List.set_cons_succ]
  refine sk 10 28 BD.out ?_
  try simp only [Act.put, List.setIfInBounds_toArray, List.set_cons_zero, List.set_cons_succ]
  refine sk 11 29 BD.out ?_
  try simp only [Act.put, List.setIfInBounds_toArray, List.set_cons_zero, List.set_cons_succ]
  refine sk 12 30 BD.out ?_
  try simp only [Act.put, List.setIfInBounds_toArray, List.set_cons_zero, List.set_cons_succ]
  refine sk 13 31 BD.out ?_
  try simp only [Act.put, List.setIfInBounds_toArray, List.set_cons_zero, List.set_cons_succ]
  refine sk 14 32 BD.out ?_
  try simp only [Act.put, List.setIfInBounds_toArray, List.set_cons_zero, List.set_cons_succ]
  refine sk 15 33 BD.out ?_
  try simp only [Act.put, List.setIfInBounds_toArray, List.set_cons_zero, List.set_cons_succ]
  refine sk 16 34 BD.out ?_
  try simp only [Act.put, List.setIfInBounds_toArray, List.set_cons_zero, List.set_cons_succ]
  refine sk 17 35 BD.out ?_
  try simp only [Act.put, List.setIfInBounds_toArray, List.set_cons_zero, List.set_cons_succ]
  refine sk 18 36 BD.out ?_
  try simp only [Act.put, List.setIfInBounds_toArray, List.set_cons_zero, List.set_cons_succ]
  refine sk 19 37 BD.out ?_
  try simp only [Act.put, List.setIfInBounds_toArray, List.set_cons_zero, List.set_cons_succ]
  refine sk 20 38 BD.out ?_
  try simp only [Act.put, List.setIfInBounds_toArray, List.set_cons_zero, List.set_cons_succ]
  refine sk 21 39 BD.out ?_
  try simp only [Act.put, List.setIfInBounds_toArray, List.set_cons_zero, List.set_cons_succ]
  refine sk 22 40 BD.out ?_
  try simp only [Act.put, List.setIfInBounds_toArray, List.set_cons_zero, List.set_cons_succ]
  refine tk 23 41 (.bool true) BD.out ?y23 ?_
  case y23 =>
    intro w' hw'
    go_simp
  try simp only [Act.put, List.setIfInBounds_toArray, List.set_cons_zero, List.set_cons_succ]
  refine dn ?_
  go_wp2
  go_ret2
  exact .inl ⟨rfl, grown_trans HWA.out (grown_drewN wn 1), .inl HFU.out⟩
set_option maxHeartbeats 8000000 in
set_option maxRecDepth 100000 in
theorem keep_main (hs : DS w o g D) (hf : f < (lst g D).length) (hfu : D.full = false) : Calls Try.prog 48 #[.pointer (some ⟨D.d, 0, none⟩), .int .i32 (f : Int)] w (KeepPost w o g D f) := by
  have HS := Lib.hid hs
  have HF := Lib.hid hf
  have HM := Lib.hid (show D.ds.length ≤ 16777216 from by have := hs.dr.most; omega)
  have HBX := Lib.hid (hs.alloc (.cells #[.pointer (some ⟨D.d, 0, none⟩)] 94))
  have HNE := Lib.hid (needed_any HBX.out hf)
  have HGA := Lib.hid (grown_alloc w (.cells #[.pointer (some ⟨D.d, 0, none⟩)] 94))
  have HBC := Lib.hid (show (w.alloc (.cells #[.pointer (some ⟨D.d, 0, none⟩)] 94)).heap[w.heap.size]? = some (.cells #[.pointer (some ⟨D.d, 0, none⟩)] 94 (0, 0)) from (MapKept.heap_alloc w _).1)
  have c2a : (w.alloc (.cells #[.pointer (some ⟨D.d, 0, none⟩)] 94)).cell? ⟨w.heap.size, 0, none⟩ = some (.pointer (some ⟨D.d, 0, none⟩)) := by simp
  have HFU := Lib.hid hfu
  clear hs hf hfu
  go_enter Try.func48, Try.ntmps48
  go_wp2_with fail
  refine (HNE.out).mono ?_
  rintro e wn ⟨bn, m, many, rfl, hg, hcn, hge, hinv⟩
  have HG := Lib.hid hg
  have HCN := Lib.hid hcn
  have HGE := Lib.hid hge
  have HI := Lib.hid hinv
  have HWA := Lib.hid (show w.grownBy wn none from grown_trans HGA.out hg)
  have HSN := Lib.hid (HBX.out.grown hg)
  have c2 : wn.cell? ⟨w.heap.size, 0, none⟩ = some (.pointer (some ⟨D.d, 0, none⟩)) := (World.cell?_of_block (grown_far hg (by simp))).trans c2a
  have HMY := Lib.hid (show many ≤ 16777216 ∧ many + 1 ≤ 2 ^ (g.V - ask (lst g D) f) ∧ m.length = D.ds.length ∧ many = wsum (fun _ => 1) m m.length from by
    have h1 := hinv.many
    have h2 := wsum_le m m.length
    have h3 := hinv.len
    have h4 := HM.out
    have h5 := hinv.wt
    unfold wsum at h5
    exact ⟨by omega, by omega, h3, h1⟩)
  obtain ⟨b2, hb2⟩ : ∃ b2, w.heap.size = b2 := ⟨_, rfl⟩
  have HB2 := Lib.hid hb2
  rw [hb2] at c2 ⊢
  clear hg hcn hge hinv hb2 c2a HBC HGA HBX HNE
  have d5 := HSN.out.dr.c5
  rw [HFU.out] at d5
  have d0 := HSN.out.dr.c0
  have s1 := HSN.out.st.cell1
  have s2 := HSN.out.st.cell2
  obtain ⟨A, c, hv⟩ : ∃ A c, g.val = .slice A g.ns.length c := by
    obtain ⟨-, h1⟩ := HSN.out.st.row
    rcases h1 with ⟨h1, h3⟩ | ⟨gx, cap, cur, h1, -⟩
    · exact ⟨none, 0, by rw [h1, h3]⟩
    · exact ⟨_, _, h1⟩
  rw [hv] at s2
  clear hv
  have hbd := HSN.out.st.bd
  have HQ := Lib.hid (show g.ns.length + many ≤ 33554432 from by have := HMY.out; omega)
  clear hbd
  obtain ⟨sm, hsm⟩ : ∃ sm, g.ns.length + many = sm := ⟨_, rfl⟩
  have HSM := Lib.hid hsm
  clear hsm
  go_wp2
  by_cases hroom : g.room < g.ns.length + many
  · have HRM := Lib.hid hroom
    clear hroom
    refine wp_region_T (S := fun w' => ∀ k ∈ [b2, D.d, g.s], w'.heap[k]? = wn.heap[k]?) (tail := fun _ => false) (by kernel_rfl) ?_
    change wpAnyT _ _ _ _ _ _ _ _ _ (World.drew wn)
    have BD := Lib.hid (show ∀ k ∈ [b2, D.d, g.s], (World.drew wn).heap[k]? = wn.heap[k]? from fun _ _ => rfl)
    refine tk 0 18 (.pointer (some ⟨D.d, 0, none⟩)) BD.out ?y0 ?_
    case y0 =>
      intro w' hw'
      have y0 := (World.cell?_of_block (a := ⟨b2, 0, none⟩) (hw' _ (by simp))).trans c2
      go_simp
    try simp only [Act.put, List.setIfInBounds_toArray, List.set_cons_zero, List.set_cons_succ]
    refine tk 1 19 (.pointer (some ⟨D.d, 0, none⟩)) BD.out ?y1 ?_
    case y1 =>
      intro w' hw'
      go_simp
    try simp only [Act.put, List.setIfInBounds_toArray, List.set_cons_zero, List.set_cons_succ]
    refine tk 2 20 (.pointer (some ⟨D.d, 5, none⟩)) BD.out ?y2 ?_
    case y2 =>
      intro w' hw'
      go_simp
    try simp only [Act.put, List.setIfInBounds_toArray, List.set_cons_zero, List.set_cons_succ]
    refine tk 3 21 (.bool false) BD.out ?y3 ?_
    case y3 =>
      intro w' hw'
      have y0 := (World.cell?_of_block (a := ⟨D.d, 5, none⟩) (hw' _ (by simp))).trans d5
      go_simp
    try simp only [Act.put, List.setIfInBounds_toArray, List.set_cons_zero, List.set_cons_succ]
    refine tk 4 22 (.bool false) BD.out ?y4 ?_
    case y4 =>
      intro w' hw'
      go_simp
    try simp only [Act.put, List.setIfInBounds_toArray, List.set_cons_zero, List.set_cons_succ]
    refine tk 5 23 (.pointer (some ⟨D.d, 0, none⟩)) BD.out ?y5 ?_
    case y5 =>
      intro w' hw'
      have y0 := (World.cell?_of_block (a := ⟨b2, 0, none⟩) (hw' _ (by simp))).trans c2
      go_simp
    try simp only [Act.put, List.setIfInBounds_toArray, List.set_cons_zero, List.set_cons_succ]
    refine tk 6 24 (.pointer (some ⟨D.d, 0, none⟩)) BD.out ?y6 ?_
    case y6 =>
      intro w' hw'
      go_simp
    try simp only [Act.put, List.setIfInBounds_toArray, List.set_cons_zero, List.set_cons_succ]
    refine tk 7 25 (.pointer (some ⟨D.d, 0, none⟩)) BD.out ?y7 ?_
    case y7 =>
      intro w' hw'
      go_simp
    try simp only [Act.put, List.setIfInBounds_toArray, List.set_cons_zero, List.set_cons_succ]
    refine tk 8 26 (.pointer (some ⟨g.s, 0, none⟩)) BD.out ?y8 ?_
    case y8 =>
      intro w' hw'
      have y0 := (World.cell?_of_block (a := ⟨D.d, 0, none⟩) (hw' _ (by simp))).trans d0
      go_simp
    try simp only [Act.put, List.setIfInBounds_toArray, List.set_cons_zero, List.set_cons_succ]
    refine tk 9 27 (.pointer (some ⟨g.s, 0, none⟩)) BD.out ?y9 ?_
    case y9 =>
      intro w' hw'
      go_simp
    try simp only [Act.put, List.setIfInBounds_toArray, List.set_cons_zero, List.set_cons_succ]
    refine tk 10 28 (.pointer (some ⟨g.s, 2, none⟩)) BD.out ?y10 ?_
    case y10 =>
      intro w' hw'
      go_simp
    try simp only [Act.put, List.setIfInBounds_toArray, List.set_cons_zero, List.set_cons_succ]
    refine tk 11 29 (.slice A g.ns.length c) BD.out ?y11 ?_
    case y11 =>
      intro w' hw'
      have y0 := (World.cell?_of_block (a := ⟨g.s, 2, none⟩) (hw' _ (by simp))).trans s2
      go_simp
    try simp only [Act.put, List.setIfInBounds_toArray, List.set_cons_zero, List.set_cons_succ]
    refine tk 12 30 (.int .i64 ((g.ns.length : Nat) : Int)) BD.out ?y12 ?_
    case y12 =>
      intro w' hw'
      go_simp
    try simp only [Act.put, List.setIfInBounds_toArray, List.set_cons_zero, List.set_cons_succ]
    refine tk 13 31 (.int .i64 ((many : Nat) : Int)) BD.out ?y13 ?_
    case y13 =>
      intro w' hw'
      go_simp
    try simp only [Act.put, List.setIfInBounds_toArray, List.set_cons_zero, List.set_cons_succ]
    refine tk 14 32 (.int .i64 (sm : Int)) BD.out ?y14 ?_
    case y14 =>
      intro w' hw'
      go_simp
      have := HSM.out
      exact (IntWalk.i64_in _ (by have := HQ.out; omega)).trans (by omega)
    try simp only [Act.put, List.setIfInBounds_toArray, List.set_cons_zero, List.set_cons_succ]
    refine tk 15 33 (.pointer (some ⟨D.d, 0, none⟩)) BD.out ?y15 ?_
    case y15 =>
      intro w' hw'
      have y0 := (World.cell?_of_block (a := ⟨b2, 0, none⟩) (hw' _ (by simp))).trans c2
      go_simp
    try simp only [Act.put, List.setIfInBounds_toArray, List.set_cons_zero, List.set_cons_succ]
    refine tk 16 34 (.pointer (some ⟨D.d, 0, none⟩)) BD.out ?y16 ?_
    case y16 =>
      intro w' hw'
      go_simp
    try simp only [Act.put, List.setIfInBounds_toArray, List.set_cons_zero, List.set_cons_succ]
    refine tk 17 35 (.pointer (some ⟨D.d, 0, none⟩)) BD.out ?y17 ?_
    case y17 =>
      intro w' hw'
      go_simp
    try simp only [Act.put, List.setIfInBounds_toArray, List.set_cons_zero, List.set_cons_succ]
    refine tk 18 36 (.pointer (some ⟨g.s, 0, none⟩)) BD.out ?y18 ?_
    case y18 =>
      intro w' hw'
      have y0 := (World.cell?_of_block (a := ⟨D.d, 0, none⟩) (hw' _ (by simp))).trans d0
      go_simp
    try simp only [Act.put, List.setIfInBounds_toArray, List.set_cons_zero, List.set_cons_succ]
    refine tk 19 37 (.pointer (some ⟨g.s, 0, none⟩)) BD.out ?y19 ?_
    case y19 =>
      intro w' hw'
      go_simp
    try simp only [Act.put, List.setIfInBounds_toArray, List.set_cons_zero, List.set_cons_succ]
    refine tk 20 38 (.pointer (some ⟨g.s, 1, none⟩)) BD.out ?y20 ?_
    case y20 =>
      intro w' hw'
      go_simp
    try simp only [Act.put, List.setIfInBounds_toArray, List.set_cons_zero, List.set_cons_succ]
    refine tk 21 39 (.int .i64 ((g.room : Nat) : Int)) BD.out ?y21 ?_
    case y21 =>
      intro w' hw'
      have y0 := (World.cell?_of_block (a := ⟨g.s, 1, none⟩) (hw' _ (by simp))).trans s1
      go_simp
    try simp only [Act.put, List.setIfInBounds_toArray, List.set_cons_zero, List.set_cons_succ]
    refine tk 22 40 (.bool true) BD.out ?y22 ?_
    case y22 =>
      intro w' hw'
      go_simp
      have h1 := HRM.out; have h2 := HSM.out; simp; omega
    try simp only [Act.put, List.setIfInBounds_toArray, List.set_cons_zero, List.set_cons_succ]
    refine tk 23 41 (.bool true) BD.out ?y23 ?_
    case y23 =>
      intro w' hw'
      go_simp
    try simp only [Act.put, List.setIfInBounds_toArray, List.set_cons_zero, List.set_cons_succ]
    refine dn ?_
    go_wp2
    go_ret2
    exact .inl ⟨rfl, grown_trans HWA.out (grown_drewN wn 1), .inr (by have h1 := HRM.out; have h2 := HMY.out.2.1; have h3 := wsum_le m m.length; have h4 := HMY.out.2.2.1; have h5 := HMY.out.2.2.2; omega)⟩
  · have HRM := Lib.hid hroom
    clear hroom
    refine wp_region_T (S := fun w' => ∀ k ∈ [b2, D.d, g.s], w'.heap[k]? = wn.heap[k]?) (tail := fun _ => false) (by kernel_rfl) ?_
    change wpAnyT _ _ _ _ _ _ _ _ _ (World.drew wn)
    have BD := Lib.hid (show ∀ k ∈ [b2, D.d, g.s], (World.drew wn).heap[k]? = wn.heap[k]? from fun _ _ => rfl)
    refine tk 0 18 (.pointer (some ⟨D.d, 0, none⟩)) BD.out ?y0 ?_
    case y0 =>
      intro w' hw'
      have y0 := (World.cell?_of_block (a := ⟨b2, 0, none⟩) (hw' _ (by simp))).trans c2
      go_simp
    try simp only [Act.put, List.setIfInBounds_toArray, List.set_cons_zero, List.set_cons_succ]
    refine tk 1 19 (.pointer (some ⟨D.d, 0, none⟩)) BD.out ?y1 ?_
    case y1 =>
      intro w' hw'
      go_simp
    try simp only [Act.put, List.setIfInBounds_toArray, List.set_cons_zero, List.set_cons_succ]
    refine tk 2 20 (.pointer (some ⟨D.d, 5, none⟩)) BD.out ?y2 ?_
    case y2 =>
      intro w' hw'
      go_simp
    try simp only [Act.put, List.setIfInBounds_toArray, List.set_cons_zero, List.set_cons_succ]
    refine tk 3 21 (.bool false) BD.out ?y3 ?_
    case y3 =>
      intro w' hw'
      have y0 := (World.cell?_of_block (a := ⟨D.d, 5, none⟩) (hw' _ (by simp))).trans d5
      go_simp
    try simp only [Act.put, List.setIfInBounds_toArray, List.set_cons_zero, List.set_cons_succ]
    refine tk 4 22 (.bool false) BD.out ?y4 ?_
    case y4 =>
      intro w' hw'
      go_simp
    try simp only [Act.put, List.setIfInBounds_toArray, List.set_cons_zero, List.set_cons_succ]
    refine tk 5 23 (.pointer (some ⟨D.d, 0, none⟩)) BD.out ?y5 ?_
    case y5 =>
      intro w' hw'
      have y0 := (World.cell?_of_block (a := ⟨b2, 0, none⟩) (hw' _ (by simp))).trans c2
      go_simp
    try simp only [Act.put, List.setIfInBounds_toArray, List.set_cons_zero, List.set_cons_succ]
    refine tk 6 24 (.pointer (some ⟨D.d, 0, none⟩)) BD.out ?y6 ?_
    case y6 =>
      intro w' hw'
      go_simp
    try simp only [Act.put, List.setIfInBounds_toArray, List.set_cons_zero, List.set_cons_succ]
    refine tk 7 25 (.pointer (some ⟨D.d, 0, none⟩)) BD.out ?y7 ?_
    case y7 =>
      intro w' hw'
      go_simp
    try simp only [Act.put, List.setIfInBounds_toArray, List.set_cons_zero, List.set_cons_succ]
    refine tk 8 26 (.pointer (some ⟨g.s, 0, none⟩)) BD.out ?y8 ?_
    case y8 =>
      intro w' hw'
      have y0 := (World.cell?_of_block (a := ⟨D.d, 0, none⟩) (hw' _ (by simp))).trans d0
      go_simp
    try simp only [Act.put, List.setIfInBounds_toArray, List.set_cons_zero, List.set_cons_succ]
    refine tk 9 27 (.pointer (some ⟨g.s, 0, none⟩)) BD.out ?y9 ?_
    case y9 =>
      intro w' hw'
      go_simp
    try simp only [Act.put, List.setIfInBounds_toArray, List.set_cons_zero, List.set_cons_succ]
    refine tk 10 28 (.pointer (some ⟨g.s, 2, none⟩)) BD.out ?y10 ?_
    case y10 =>
      intro w' hw'
      go_simp
    try simp only [Act.put, List.setIfInBounds_toArray, List.set_cons_zero, List.set_cons_succ]
    refine tk 11 29 (.slice A g.ns.length c) BD.out ?y11 ?_
    case y11 =>
      intro w' hw'
      have y0 := (World.cell?_of_block (a := ⟨g.s, 2, none⟩) (hw' _ (by simp))).trans s2
      go_simp
    try simp only [Act.put, List.setIfInBounds_toArray, List.set_cons_zero, List.set_cons_succ]
    refine tk 12 30 (.int .i64 ((g.ns.length : Nat) : Int)) BD.out ?y12 ?_
    case y12 =>
      intro w' hw'
      go_simp
    try simp only [Act.put, List.setIfInBounds_toArray, List.set_cons_zero, List.set_cons_succ]
    refine tk 13 31 (.int .i64 ((many : Nat) : Int)) BD.out ?y13 ?_
    case y13 =>
      intro w' hw'
      go_simp
    try simp only [Act.put, List.setIfInBounds_toArray, List.set_cons_zero, List.set_cons_succ]
    refine tk 14 32 (.int .i64 (sm : Int)) BD.out ?y14 ?_
    case y14 =>
      intro w' hw'
      go_simp
      have := HSM.out
      exact (IntWalk.i64_in _ (by have := HQ.out; omega)).trans (by omega)
    try simp only [Act.put, List.setIfInBounds_toArray, List.set_cons_zero, List.set_cons_succ]
    refine tk 15 33 (.pointer (some ⟨D.d, 0, none⟩)) BD.out ?y15 ?_
    case y15 =>
      intro w' hw'
      have y0 := (World.cell?_of_block (a := ⟨b2, 0, none⟩) (hw' _ (by simp))).trans c2
      go_simp
    try simp only [Act.put, List.setIfInBounds_toArray, List.set_cons_zero, List.set_cons_succ]
    refine tk 16 34 (.pointer (some ⟨D.d, 0, none⟩)) BD.out ?y16 ?_
    case y16 =>
      intro w' hw'
      go_simp
    try simp only [Act.put, List.setIfInBounds_toArray, List.set_cons_zero, List.set_cons_succ]
    refine tk 17 35 (.pointer (some ⟨D.d, 0, none⟩)) BD.out ?y17 ?_
    case y17 =>
      intro w' hw'
      go_simp
    try simp only [Act.put, List.setIfInBounds_toArray, List.set_cons_zero, List.set_cons_succ]
    refine tk 18 36 (.pointer (some ⟨g.s, 0, none⟩)) BD.out ?y18 ?_
    case y18 =>
      intro w' hw'
      have y0 := (World.cell?_of_block (a := ⟨D.d, 0, none⟩) (hw' _ (by simp))).trans d0
      go_simp
    try simp only [Act.put, List.setIfInBounds_toArray, List.set_cons_zero, List.set_cons_succ]
    refine tk 19 37 (.pointer (some ⟨g.s, 0, none⟩)) BD.out ?y19 ?_
    case y19 =>
      intro w' hw'
      go_simp
    try simp only [Act.put, List.setIfInBounds_toArray, List.set_cons_zero, List.set_cons_succ]
    refine tk 20 38 (.pointer (some ⟨g.s, 1, none⟩)) BD.out ?y20 ?_
    case y20 =>
      intro w' hw'
      go_simp
    try simp only [Act.put, List.setIfInBounds_toArray, List.set_cons_zero, List.set_cons_succ]
    refine tk 21 39 (.int .i64 ((g.room : Nat) : Int)) BD.out ?y21 ?_
    case y21 =>
      intro w' hw'
      have y0 := (World.cell?_of_block (a := ⟨g.s, 1, none⟩) (hw' _ (by simp))).trans s1
      go_simp
    try simp only [Act.put, List.setIfInBounds_toArray, List.set_cons_zero, List.set_cons_succ]
    refine tk 22 40 (.bool false) BD.out ?y22 ?_
    case y22 =>
      intro w' hw'
      go_simp
      have h1 := HRM.out; have h2 := HSM.out; simp; omega
    try simp only [Act.put, List.setIfInBounds_toArray, List.set_cons_zero, List.set_cons_succ]
    refine tk 23 41 (.bool false) BD.out ?y23 ?_
    case y23 =>
      intro w' hw'
      go_simp
    try simp only [Act.put, List.setIfInBounds_toArray, List.set_cons_zero, List.set_cons_succ]
    refine dn ?_
    have HWB := Lib.hid (grown_trans HWA.out (grown_drewN wn 1))
    change Hid (w.grownBy (World.drew wn) none) at HWB
    have HSB := Lib.hid HSN.out.drew
    have HCB := Lib.hid (show (World.drew wn).heap[bn]? = _ from HCN.out)
    have c2b : (World.drew wn).cell? ⟨b2, 0, none⟩ = some (.pointer (some ⟨D.d, 0, none⟩)) := c2
    clear BD d5 d0 s1 s2 c2
    generalize World.drew wn = wb at *
    have d2 := HSB.out.dr.c2
    obtain ⟨A2, c2', hv2⟩ : ∃ A c, D.val = .slice A D.ds.length c := by
      obtain ⟨-, h1⟩ := HSB.out.dr.row
      rcases h1 with ⟨h1, h3⟩ | ⟨gx, cap, cur, h1, -⟩
      · exact ⟨none, 0, by rw [h1, h3]⟩
      · exact ⟨_, _, h1⟩
    rw [hv2] at d2
    have HV2 := Lib.hid hv2
    have hmk := fun w => mk_ints D.ds.length (by have := HM.out; omega) w
    have hmf : ∀ (fn : Fn) (first cap : Array Value) (w : World), (Instr.makeFunc fn first cap).run Try.prog w = .ok (.func fn first cap) w := fun _ _ _ _ => rfl
    have lb2 : b2 < wb.heap.size := lt_cell c2b
    have lb2' : b2 < wb.heap.size + 1 := by omega
    have ld := HSB.out.dr.ltd
    have ld' : D.d < wb.heap.size + 1 := by omega
    clear hv2
    go_wp2
    obtain ⟨w1, hw1⟩ : ∃ w1, (wb.alloc (.cells (intC (List.replicate D.ds.length 0)) 21)).alloc (.cells #[.slice (some ⟨wb.heap.size, 0, none⟩) D.ds.length D.ds.length] 106) = w1 := ⟨_, rfl⟩
    obtain ⟨bk, hbk⟩ : ∃ bk, wb.heap.size = bk := ⟨_, rfl⟩
    have hck : w1.heap[bk]? = some (.cells (intC (List.replicate D.ds.length 0)) 21 (0, 0)) := by
      rw [← hw1, ← hbk, heap_alloc_old (by simp)]
      exact (MapKept.heap_alloc wb _).1
    have hc8 : w1.cell? ⟨bk + 1, 0, none⟩ = some (.slice (some ⟨bk, 0, none⟩) D.ds.length D.ds.length) := by
      have h1 := (MapKept.heap_alloc (wb.alloc (.cells (intC (List.replicate D.ds.length 0)) 21)) (.cells #[.slice (some ⟨wb.heap.size, 0, none⟩) D.ds.length D.ds.length] 106)).1
      have h2 : (wb.alloc (.cells (intC (List.replicate D.ds.length 0)) 21)).heap.size = wb.heap.size + 1 := by simp
      rw [h2, hw1, hbk] at h1
      exact (cell_of h1).trans rfl
    have hg1 : wb.grownBy w1 none := by rw [← hw1]; exact grown_trans (grown_alloc _ _) (grown_alloc _ _)
    have hsz : w1.heap.size = bk + 2 := by rw [← hw1, ← hbk]; simp
    have hk1 : Keep (fun _ => false) wb o w1 (ownG o bk 9) := Keep.grown hg1 (by simp) (fun k hk => ownG_other _ _ (by omega))
    have hst1 : StoreAt w1 (ownG o bk 9) g := HSB.out.st.keep hk1 ⟨rfl, rfl, rfl⟩ (fun b hb => by
      rw [ownG_other _ _ (by omega)]
      exact HSB.out.st.new b (by omega))
    have hdr1 : DraftAt w1 (ownG o bk 9) g D := HSB.out.dr.keep hk1 ⟨rfl, rfl, rfl⟩
    have hbnl : bn < bk := by rw [← hbk]; exact (Array.getElem?_eq_some_iff.1 HCB.out).1
    have hb2l : b2 < bk := by rw [← hbk]; exact lb2
    have hnw := HS.out.st.new
    have hge2 := HGE.out
    have hb2' := HB2.out
    obtain ⟨gx, hgx, hov⟩ : ∃ gx, (0 < D.ds.length → A2 = some ⟨gx, 0, none⟩ ∧ gx < w1.heap.size ∧ (ownG o bk 9) gx = 5) ∧ True := by
      by_cases h0 : 0 < D.ds.length
      · obtain ⟨gx, cc, e1, -, e2⟩ := hdr1.row.form h0
        have e3 := HV2.out.symm.trans e1
        simp at e3
        exact ⟨gx, ⟨fun _ => ⟨e3.1, e2, hdr1.orow gx (by rw [e1]; rfl)⟩, trivial⟩⟩
      · exact ⟨0, ⟨fun h => absurd h h0, trivial⟩⟩
    have HGX := Lib.hid hgx
    have HFX := Lib.hid (show ∀ gx, gx < w1.heap.size → (ownG o bk 9) gx = 5 → KFix w1 (ownG o bk 9) g D m b2 (bk + 1) bk bn gx from fun gx h1 h2 =>
      ⟨(World.cell?_of_block (a := ⟨b2, 0, none⟩) (grown_far hg1 lb2)).trans c2b, hc8, (grown_far hg1 (by rw [hbk]; exact hbnl)).trans HCB.out, hdr1.c0, hdr1.c1, h1,
       by rw [ownG_other _ _ (by omega)]; exact hnw _ (by omega), by rw [ownG_other _ _ (by omega)]; exact HSB.out.st.new _ (by omega), by rw [ownG_other _ _ (by omega)]; exact hnw _ (by simp at hge2; omega), ownG_same _ _ _, hdr1.od, h2⟩)
    have HOB := Lib.hid (show ownG o bk 9 b2 = 0 ∧ ownG o bk 9 D.d = 4 ∧ ownG o bk 9 (bk + 1) = 0 from ⟨by rw [ownG_other _ _ (by omega)]; exact hnw _ (by omega), hdr1.od, by rw [ownG_other _ _ (by omega)]; exact HSB.out.st.new _ (by omega)⟩)
    have HL0 := Lib.hid (show KLoop w1 (ownG o bk 9) g D bk m 0 w1 (ownG o bk 9) g (List.replicate D.ds.length 0) from ⟨hst1, Keep.refl _ _ _, rfl, rfl, rfl, rfl, KInv.start hst1.wf, hck⟩)
    have HDR := Lib.hid hdr1
    have HNUM0 := Lib.hid (show NumAt w1 D.d g.ns.length b2 (bk + 1) bk (List.replicate D.ds.length 0) from ⟨(World.cell?_of_block (a := ⟨b2, 0, none⟩) (grown_far hg1 lb2)).trans c2b, hdr1.c1, by rw [List.length_replicate]; exact hc8, hck⟩)
    have HKW := Lib.hid (show Keep T0 w o w1 (ownG o bk 9) from (keep_none T0 o HWB.out).trans (hk1.more (t0_of rfl)))
    obtain ⟨b8, hb8⟩ : ∃ b8, bk + 1 = b8 := ⟨_, rfl⟩
    rw [hb8] at HFX HNUM0 HOB
    rw [hw1, hbk, hb8]
    obtain ⟨o1, ho1⟩ : ∃ o1, ownG o bk 9 = o1 := ⟨_, rfl⟩
    rw [ho1] at HFX HL0 HDR HKW HGX HOB
    have hml := HMY.out.2.2.1
    rw [hml]
    clear hw1 hbk hck hc8 hg1 hsz hk1 hst1 hdr1 hbnl hb2l hnw hge2 hb2' hgx hov hb8 ho1 hml d2 lb2 lb2' ld ld' c2b hmk
    have HLB := Lib.hid (show g.ns.length + D.ds.length ≤ 33554432 from by have := HS.out.len; unfold lst at this; simpa using this)
    go_loopw [54] (fun v wr => ∃ (i : Nat) (o' : Nat → Nat) (gI : SG) (kept : List Nat), v = .int .i64 (i : Int) ∧ i ≤ D.ds.length ∧ Hid (KLoop w1 o1 g D bk m i wr o' gI kept)) (fun v _ => D.ds.length - (intOf v).toNat)
    case atStart => exact ⟨0, o1, g, _, rfl, Nat.zero_le _, HL0⟩
    case round =>
      obtain ⟨i, o', gI, kept, rfl, hile, hL⟩ := hrel
      have HL := hL
      by_cases hlt : i < D.ds.length
      · obtain ⟨hA, hxl, hox⟩ := HGX.out (by omega)
        have FX := Lib.hid (HFX.out gx hxl hox)
        obtain ⟨n, hn⟩ := get_lt hlt
        obtain ⟨gx', cc, hvv, k0, k1, k2, hx⟩ := row_node HDR.out.row hn
        have hxx : gx' = gx ∧ cc = c2' := by
          have := HV2.out.symm.trans hvv
          rw [hA] at this
          simp at this
          exact ⟨this.1.symm, this.2.symm⟩
        obtain ⟨rfl, rfl⟩ := hxx
        subst hA
        have tx : T9 (o1 gx') = false := by rw [hox]; rfl
        have r0 := HL.out.kp.cell k0 tx
        have r1 := HL.out.kp.cell k1 tx
        have r2 := HL.out.kp.cell k2 tx
        have q1 : (i : Int) < (D.ds.length : Int) := by omega
        have HNN := Lib.hid hn
        have HQ2 := Lib.hid (show (i : Int) ≤ 16777216 from by have := HM.out; omega)
        have hcn : wr.heap[bn]? = some (.cells (boolC m) 4 (0, 0)) := (HL.out.kp.blk bn (Array.getElem?_eq_some_iff.1 FX.out.cn).1 (by rw [FX.out.on_]; rfl)).trans FX.out.cn
        have hlbn : bn < wr.heap.size := (Array.getElem?_eq_some_iff.1 hcn).1
        have hgd : m.getD i false = m.getD i true := by
          have : i < m.length := by rw [HMY.out.2.2.1]; exact hlt
          simp [List.getD_eq_getElem?_getD, this]
        have cj : ∀ b, m.getD i true = b → wr.cell? ⟨bn, i, none⟩ = some (.bool b) := fun b hb => by
          rw [cell_of hcn, boolC_at (by rw [HMY.out.2.2.1]; exact hlt), hb]
        cases hmb : m.getD i true with
        | false =>
          have cjb := cj false hmb
          have HI2 := Lib.hid (show KLoop w1 o1 g D bk m (i + 1) (wr.alloc (.cells #[.int .i32 (n.v : Int), .int .i32 (n.a : Int), .int .i32 (n.b : Int)] 63)) o' gI kept from by
            have h1 := HL.out.box (.cells #[.int .i32 (n.v : Int), .int .i32 (n.a : Int), .int .i32 (n.b : Int)] 63)
            exact ⟨h1.st, h1.kp, h1.s, h1.V, h1.room, h1.W, h1.inv.skip (hgd.trans hmb), h1.ck⟩)
          have HLT := Lib.hid hlt
          clear hn hvv k0 k1 k2 hx hcn hgd cj hmb hile hox hxl tx hL hlt
          have qj := HQ2.out
          go_wp2
          go_roundw
          case rel => exact ⟨i + 1, o', gI, kept, by go_num, HLT.out, HI2⟩
          case measure => simp [intOf]; have := HLT.out; omega
        | true =>
          have cjb := cj true hmb
          have HMB := Lib.hid (hgd.trans hmb)
          have HLT := Lib.hid hlt
          have HB := Lib.hid (HL.out.box (.cells #[.int .i32 (n.v : Int), .int .i32 (n.a : Int), .int .i32 (n.b : Int)] 63))
          have HY := Lib.hid (MapKept.heap_alloc wr (.cells #[.int .i32 (n.v : Int), .int .i32 (n.a : Int), .int .i32 (n.b : Int)] 63)).1
          clear hn hvv k0 k1 k2 hx hcn hgd cj hmb hile hox hxl tx hL hlt
          have qj := HQ2.out
          go_wp2
          obtain ⟨N, hN⟩ : ∃ N, wr.heap.size = N := ⟨_, rfl⟩
          obtain ⟨wa, hwa⟩ : ∃ wa, wr.alloc (.cells #[.int .i32 (n.v : Int), .int .i32 (n.a : Int), .int .i32 (n.b : Int)] 63) = wa := ⟨_, rfl⟩
          rw [hwa] at HB HY
          rw [hN] at HY
          rw [hwa, hN]
          have HNS := Lib.hid hN
          have HON := Lib.hid (show o' N = 0 from HL.out.st.new N (by omega))
          clear hwa hN r0 r1 r2 cjb hlbn
          have a2 := (HB.out.num FX.out).c2
          have a8 := (HB.out.num FX.out).c8
          rw [HB.out.inv.kl] at a8
          have a0 := HB.out.kp.cell FX.out.d0 (by show T9 (o1 D.d) = false; rw [FX.out.od]; rfl)
          have HCC := Lib.hid (show n.a < g.ns.length + kept.length ∧ n.b < g.ns.length + kept.length ∧ g.ns.length + kept.length ≤ 33554432 from by
            have hn' : (lst g D)[g.ns.length + i]? = some n := by unfold lst; rw [List.getElem?_append_right (by omega), Nat.add_sub_cancel_left]; exact HNN.out
            have h2 := HS.out.st.wf.two
            have h3 := HS.out.wf.nd _ n (by omega) hn'
            have h4 := HLB.out
            have h5 := HL.out.inv.kl
            have h6 := HLT.out
            omega)
          have HLT4 := Lib.hid (show ∀ k ∈ [b8, b2, D.d, N], k < wa.heap.size from fun k hk => by
            simp at hk
            rcases hk with rfl | rfl | rfl | rfl
            · exact lt_cell a8
            · exact lt_cell a2
            · exact lt_cell a0
            · exact (Array.getElem?_eq_some_iff.1 HY.out).1)
          have HNEW := Lib.hid (HL.out.inv.new HS.out.st.wf.two HDR.out.wf HS.out.st.wf HNN.out HMB.out (fun j n hn hb => HI.out.clo j n (Nat.zero_le _) hn hb))
          have HBND := Lib.hid (show n.v < 2147483648 ∧ numN g.ns.length kept n.a < 2147483648 ∧ numN g.ns.length kept n.b < 2147483648 from by
            have h1 := HNEW.out.1.nd gI.ns.length ⟨n.v, numN g.ns.length kept n.a, numN g.ns.length kept n.b⟩ (by have := HL.out.st.wf.two; omega) (by simp)
            simp only at h1
            have h2 := HL.out.st.bd
            have h3 := HS.out.st.bd
            omega)
          refine wp_region_T (S := fun w' => ∀ k ∈ [b8, b2, D.d, N], w'.heap[k]? = wa.heap[k]?) (tail := fun j => decide (18 ≤ j)) (by kernel_rfl) ?_
          change wpAnyT _ _ _ _ _ _ _ _ _ (World.drew wa)
          have BD := Lib.hid (show ∀ k ∈ [b8, b2, D.d, N], (World.drew wa).heap[k]? = wa.heap[k]? from fun _ _ => rfl)
          have HKwd := Lib.hid HB.out.drew
          have HZwd := Lib.hid (show wa.grownBy (World.drew wa) none from grown_drewN wa 1)
          have Bwd := Lib.hid BD.out
          refine tk 0 63 (.slice (some ⟨bk, 0, none⟩) D.ds.length D.ds.length) BD.out ?y0 ?_
          case y0 =>
            intro w' hw'
            have y0 := (World.cell?_of_block (a := ⟨b8, 0, none⟩) (hw' _ (by simp))).trans a8
            go_simp
          try simp only [Act.put, List.setIfInBounds_toArray, List.set_cons_zero, List.set_cons_succ]
          refine tk 1 64 (.int .i64 (i : Int)) BD.out ?y1 ?_
          case y1 =>
            intro w' hw'
            go_simp
          try simp only [Act.put, List.setIfInBounds_toArray, List.set_cons_zero, List.set_cons_succ]
          refine tk 2 65 (.pointer (some ⟨D.d, 0, none⟩)) BD.out ?y2 ?_
          case y2 =>
            intro w' hw'
            have y0 := (World.cell?_of_block (a := ⟨b2, 0, none⟩) (hw' _ (by simp))).trans a2
            go_simp
          try simp only [Act.put, List.setIfInBounds_toArray, List.set_cons_zero, List.set_cons_succ]
          refine tk 3 66 (.pointer (some ⟨D.d, 0, none⟩)) BD.out ?y3 ?_
          case y3 =>
            intro w' hw'
            go_simp
          try simp only [Act.put, List.setIfInBounds_toArray, List.set_cons_zero, List.set_cons_succ]
          refine tk 4 67 (.pointer (some ⟨D.d, 0, none⟩)) BD.out ?y4 ?_
          case y4 =>
            intro w' hw'
            go_simp
          try simp only [Act.put, List.setIfInBounds_toArray, List.set_cons_zero, List.set_cons_succ]
          refine tk 5 68 (.pointer (some ⟨g.s, 0, none⟩)) BD.out ?y5 ?_
          case y5 =>
            intro w' hw'
            have y0 := (World.cell?_of_block (a := ⟨D.d, 0, none⟩) (hw' _ (by simp))).trans a0
            go_simp
          try simp only [Act.put, List.setIfInBounds_toArray, List.set_cons_zero, List.set_cons_succ]
          refine tk 6 69 (.pointer (some ⟨N, 0, none⟩)) BD.out ?y6 ?_
          case y6 =>
            intro w' hw'
            go_simp
          try simp only [Act.put, List.setIfInBounds_toArray, List.set_cons_zero, List.set_cons_succ]
          refine tk 7 70 (.int .i32 (n.v : Int)) BD.out ?y7 ?_
          case y7 =>
            intro w' hw'
            have y0 := (World.cell?_of_block (a := ⟨N, 0, none⟩) (hw' N (by simp))).trans (box_cells HY.out).1
            go_simp
          try simp only [Act.put, List.setIfInBounds_toArray, List.set_cons_zero, List.set_cons_succ]
          refine tk 8 71 (.func (.func 61) #[] #[.pointer (some ⟨b2, 0, none⟩), .pointer (some ⟨b8, 0, none⟩)]) BD.out ?y8 ?_
          case y8 =>
            intro w' hw'
            go_simp
          try simp only [Act.put, List.setIfInBounds_toArray, List.set_cons_zero, List.set_cons_succ]
          refine tk 9 72 (.pointer (some ⟨N, 1, none⟩)) BD.out ?y9 ?_
          case y9 =>
            intro w' hw'
            go_simp
          try simp only [Act.put, List.setIfInBounds_toArray, List.set_cons_zero, List.set_cons_succ]
          refine tk 10 73 (.int .i32 (n.a : Int)) BD.out ?y10 ?_
          case y10 =>
            intro w' hw'
            have y0 := (World.cell?_of_block (a := ⟨N, 1, none⟩) (hw' N (by simp))).trans (box_cells HY.out).2.1
            go_simp
          try simp only [Act.put, List.setIfInBounds_toArray, List.set_cons_zero, List.set_cons_succ]
          refine tk 12 75 (.func (.func 61) #[] #[.pointer (some ⟨b2, 0, none⟩), .pointer (some ⟨b8, 0, none⟩)]) BD.out ?y12 ?_
          case y12 =>
            intro w' hw'
            go_simp
          try simp only [Act.put, List.setIfInBounds_toArray, List.set_cons_zero, List.set_cons_succ]
          refine tk 13 76 (.pointer (some ⟨N, 2, none⟩)) BD.out ?y13 ?_
          case y13 =>
            intro w' hw'
            go_simp
          try simp only [Act.put, List.setIfInBounds_toArray, List.set_cons_zero, List.set_cons_succ]
          refine tk 14 77 (.int .i32 (n.b : Int)) BD.out ?y14 ?_
          case y14 =>
            intro w' hw'
            have y0 := (World.cell?_of_block (a := ⟨N, 2, none⟩) (hw' N (by simp))).trans (box_cells HY.out).2.2
            go_simp
          try simp only [Act.put, List.setIfInBounds_toArray, List.set_cons_zero, List.set_cons_succ]
          generalize World.drew wa = wd at *
          refine on 11 (fun K hK => ?_)
          go_simp
          refine (num_any (HKwd.out.num FX.out) HCC.out.1 HCC.out.2.2).mono ?_
          rintro e z1 ⟨rfl, hg⟩
          have HKz1 := Lib.hid (HKwd.out.grown hg)
          have HZz1 := Lib.hid (show wa.grownBy z1 none from grown_trans HZwd.out hg)
          have Bz1 := Lib.hid (show ∀ k ∈ [b8, b2, D.d, N], z1.heap[k]? = wa.heap[k]? from fun k hk => (grown_far hg (Nat.lt_of_lt_of_le (HLT4.out k hk) HZwd.out.size)).trans (Bwd.out k hk))
          clear hg
          refine hK.out _ _ (fun _ => Bz1.out) ?_
          clear hK K
          try simp only [Act.put, List.setIfInBounds_toArray, List.set_cons_zero, List.set_cons_succ]
          refine on 15 (fun K hK => ?_)
          go_simp
          refine (num_any (HKz1.out.num FX.out) HCC.out.2.1 HCC.out.2.2).mono ?_
          rintro e z2 ⟨rfl, hg⟩
          have HKz2 := Lib.hid (HKz1.out.grown hg)
          have HZz2 := Lib.hid (show wa.grownBy z2 none from grown_trans HZz1.out hg)
          have Bz2 := Lib.hid (show ∀ k ∈ [b8, b2, D.d, N], z2.heap[k]? = wa.heap[k]? from fun k hk => (grown_far hg (Nat.lt_of_lt_of_le (HLT4.out k hk) HZz1.out.size)).trans (Bz1.out k hk))
          clear hg
          refine hK.out _ _ (fun _ => Bz2.out) ?_
          clear hK K
          try simp only [Act.put, List.setIfInBounds_toArray, List.set_cons_zero, List.set_cons_succ]
          refine tk 16 79 (.agg #[.int .i32 (n.v : Int), .int .i32 ((numN g.ns.length kept n.a : Nat) : Int), .int .i32 ((numN g.ns.length kept n.b : Nat) : Int)]) Bz2.out ?y16 ?_
          case y16 =>
            intro w' hw'
            go_simp
          try simp only [Act.put, List.setIfInBounds_toArray, List.set_cons_zero, List.set_cons_succ]
          refine on 17 (fun K hK => ?_)
          go_simp
          have hput := put_any (n := ⟨n.v, numN g.ns.length kept n.a, numN g.ns.length kept n.b⟩) HKz2.out.st (by rw [HL.out.V]; exact HNEW.out.1) HNEW.out.2 (by
            rw [HL.out.room]
            have h1 := HL.out.inv.cnt
            have h2 := wsum_lt (m := m) (i := i) (by rw [HMY.out.2.2.1]; exact HLT.out) HMB.out
            have h3 := HMY.out.2.2.2
            have h4 := HRM.out
            omega) HBND.out
          rw [HL.out.s] at hput
          refine hput.mono ?_
          rintro e wp ⟨mb, oP, val, rfl, hsP, hkP⟩
          have HKP := Lib.hid (show Keep T9 w1 o1 wp oP from HKz2.out.kp.trans (hkP.more (fun t ht => by unfold T9 at ht; simp at ht ⊢; exact ⟨ht.1.1, ht.1.2⟩)))
          have HSP := Lib.hid hsP
          have HOK := Lib.hid (show oP bk = 9 from (HKP.out.own bk (by
            have h1 := HL0.out.ck
            exact (Array.getElem?_eq_some_iff.1 h1).1)).trans FX.out.ok)
          have HCKP := Lib.hid (show wp.heap[bk]? = some (.cells (intC kept) 21 (0, 0)) from (hkP.blk bk (Array.getElem?_eq_some_iff.1 HKz2.out.ck).1 (by
            have h1 : o' bk = 9 := (HL.out.kp.own bk (Array.getElem?_eq_some_iff.1 HL0.out.ck).1).trans FX.out.ok
            rw [h1]; rfl)).trans HKz2.out.ck)
          have BP := Lib.hid (show ∀ k ∈ [b8, b2, D.d, N], wp.heap[k]? = wa.heap[k]? from fun k hk => (hkP.blk k (Nat.lt_of_lt_of_le (HLT4.out k hk) HZz2.out.size) (by
            have t8 := (HL.out.kp.own b8 (lt_cell FX.out.c8)).trans FX.out.o8
            have t2 := (HL.out.kp.own b2 (lt_cell FX.out.c2)).trans FX.out.o2
            have td := (HL.out.kp.own D.d (lt_cell FX.out.d0)).trans FX.out.od
            have tn := HON.out
            simp at hk
            rcases hk with rfl | rfl | rfl | rfl
            · rw [t8]; rfl
            · rw [t2]; rfl
            · rw [td]; rfl
            · rw [tn]; rfl)).trans (Bz2.out k hk))
          clear hsP hkP hput
          refine hK.out _ _ (fun _ => BP.out) ?_
          clear hK K
          try simp only [Act.put, List.setIfInBounds_toArray, List.set_cons_zero, List.set_cons_succ]
          refine tkM 18 81 (.pointer (some ⟨bk, i, none⟩)) ?y18 ?_
          case y18 =>
            intro w'
            go_simp
          try simp only [Act.put, List.setIfInBounds_toArray, List.set_cons_zero, List.set_cons_succ]
          have ckc : wp.cell? ⟨bk, i, none⟩ = some (.int .i32 ((kept.getD i 0 : Nat) : Int)) := by rw [cell_of HCKP.out, intC_at (by rw [HL.out.inv.kl]; exact HLT.out)]
          have ckf : wp.frozen? ⟨bk, i, none⟩ = false := frz_of HCKP.out
          refine on 19 (fun K hK => ?_)
          go_simp
          refine hK.out _ _ (fun h => absurd h (by decide)) ?_
          clear hK K
          try simp only [Act.put, List.setIfInBounds_toArray, List.set_cons_zero, List.set_cons_succ]
          refine dn ?_
          have HI2 := Lib.hid (show KLoop w1 o1 g D bk m (i + 1) (wp.setCell ⟨bk, i, none⟩ (.int .i32 (gI.ns.length : Int))) oP { gI with ns := gI.ns ++ [⟨n.v, numN g.ns.length kept n.a, numN g.ns.length kept n.b⟩], val := val, num := some mb } (kept.set i gI.ns.length) from by
            have hgs := grown_set wp ⟨bk, i, none⟩ (.int .i32 (gI.ns.length : Int))
            have hks : Keep (· == 9) wp oP (wp.setCell ⟨bk, i, none⟩ (.int .i32 (gI.ns.length : Int))) oP := Keep.grown hgs (fun k e => by cases e; rw [HOK.out]; rfl) (fun _ _ => rfl)
            refine ⟨HSP.out.keep hks ⟨rfl, rfl, rfl⟩ (fun b hb => HSP.out.new b (Nat.le_trans hgs.size hb)), HKP.out.trans (hks.more (fun t ht => by unfold T9 at ht; simp at ht ⊢; exact ht.2)), HL.out.s, HL.out.V, HL.out.room, HL.out.W, HL.out.inv.put HS.out.st.wf.two HDR.out.wf HS.out.st.wf HNN.out HMB.out (fun j n hn hb => HI.out.clo j n (Nat.zero_le _) hn hb), ?_⟩
            rw [heap_set _ HCKP.out]
            simp [intC, List.map_set])
          go_wp2
          go_roundw
          case rel => exact ⟨i + 1, oP, _, _, by go_num, HLT.out, HI2⟩
          case measure => simp [intOf]; have := HLT.out; omega
      · obtain rfl : i = D.ds.length := by omega
        have q1 : ¬ ((D.ds.length : Nat) : Int) < ((D.ds.length : Nat) : Int) := by omega
        have HNK := Lib.hid (show NumAt wr D.d g.ns.length b2 b8 bk kept from
          ⟨HL.out.kp.cell HNUM0.out.c2 (by show T9 (o1 b2) = false; rw [HOB.out.1]; rfl), HL.out.kp.cell HNUM0.out.d1 (by show T9 (o1 D.d) = false; rw [HOB.out.2.1]; rfl), by rw [HL.out.inv.kl]; have := HNUM0.out.c8; rw [List.length_replicate] at this; exact HL.out.kp.cell this (by show T9 (o1 b8) = false; rw [HOB.out.2.2]; rfl), HL.out.ck⟩)
        have hfl : f < g.ns.length + kept.length := by
          rw [HL.out.inv.kl]
          have := HF.out
          unfold lst at this
          simpa using this
        have HN1 := Lib.hid (num_any HNK.out hfl (by rw [HL.out.inv.kl]; exact HLB.out))
        have HCH := Lib.hid (show ChildOk g.ns D.ds gI.ns kept f from HL.out.inv.child HDR.out.wf HS.out.st.wf (by rw [HL.out.inv.kl] at hfl; exact hfl) (Nat.le_refl _) (fun hc => HI.out.root hc))
        clear hL hile hlt hfl
        go_wp2_with fail
        refine (HN1.out).mono ?_
        rintro e w2 ⟨rfl, hg2⟩
        have HFIN := Lib.hid (show KeepPost w o g D f (.returned (.tuple #[.int .i64 ((numN g.ns.length kept f : Nat) : Int), .int .i64 0])) w2 from .inr ⟨_, o', gI, rfl, HL.out.st.grown hg2,
          HKW.out.trans ((HL.out.kp.trans (keep_none _ _ hg2)).more (t0_of rfl)), ⟨HL.out.s, HL.out.V, HL.out.room, HL.out.W, HL.out.inv.pre⟩, by
            have h1 := HL.out.inv.cnt
            have h2 := HMY.out.2.2.2
            have h3 := HMY.out.2.1
            have h4 := HMY.out.2.2.1
            rw [h4] at h2
            omega, HCH.out.lt, HCH.out.ev, HFU.out, HL.out.inv.src HI.out.led⟩)
        have hbig : numN g.ns.length kept f < 33554432 + 33554432 := by
          have h1 := HCH.out.lt
          have h2 := HL.out.st.bd
          omega
        obtain ⟨r, hr⟩ : ∃ r, numN g.ns.length kept f = r := ⟨_, rfl⟩
        rw [hr] at HFIN hbig ⊢
        clear hr hg2
        have qr : (r : Int) ≤ 67108864 := by omega
        clear hbig
        go_wp2
        go_ret2
        exact HFIN.out
end

end Go.Proofs.Ytailpphafoamfaa
namespace Go.Proofs.Ytailpphafoamfaa
open Go Go.RowKit Go.Maps


section
variable {w w' : World} {o : Nat → Nat} {g : SG} {D : DG} {f : Nat}
theorem keep_any (hs : DS w o g D) (hf : f < (lst g D).length) : Calls Try.prog 48 #[.pointer (some ⟨D.d, 0, none⟩), .int .i32 (f : Int)] w (KeepPost w o g D f) := by
  cases hfu : D.full with
  | true => exact keep_full hs hf hfu
  | false => exact keep_main hs hf hfu
/-- A slice value that reads as numbers. -/
def Nums (w : World) (v : Value) (l : List Int) : Prop := ∃ A c, v = .slice A l.length c ∧ (l ≠ [] → ∃ b off, A = some ⟨b, off, none⟩ ∧ b < w.heap.size ∧ ∀ j x, l[j]? = some x → w.cell? ⟨b, off + j, none⟩ = some (.int .i64 x))
theorem Nums.keep {v : Value} {l : List Int} (h : Nums w v l) (hk : ∀ k, k < w.heap.size → w'.heap[k]? = w.heap[k]?) (hz : w.heap.size ≤ w'.heap.size) : Nums w' v l := by
  obtain ⟨A, c, h1, h2⟩ := h
  refine ⟨A, c, h1, fun hne => ?_⟩
  obtain ⟨b, off, h3, h4, h5⟩ := h2 hne
  exact ⟨b, off, h3, by omega, fun j x hx => (World.cell?_of_block (a := ⟨b, off + j, none⟩) (hk b h4)).trans (h5 j x hx)⟩
theorem Nums.grown {v : Value} {l : List Int} (h : Nums w v l) (hg : w.grownBy w' none) : Nums w' v l := h.keep (fun k hk => grown_far hg hk) hg.size
def okB (n : Nat) (x : Int) : Bool := decide (0 ≤ x) && decide (x < (n : Int))
def allB (n : Nat) (l : List Int) : Bool := l.all (okB n)
theorem take_all {n : Nat} {l : List Int} {k : Nat} {x : Int} (h : (l.take k).all (okB n) = true) (hx : l[k]? = some x) (ho : okB n x = true) : (l.take (k + 1)).all (okB n) = true := by
  rw [List.take_succ_eq_append_getElem (List.getElem?_eq_some_iff.1 hx).1, List.all_append, h]
  have := (List.getElem?_eq_some_iff.1 hx).2
  simp [this, ho]
theorem all_not {n : Nat} {l : List Int} {k : Nat} {x : Int} (hx : l[k]? = some x) (ho : okB n x = false) : allB n l = false := by
  unfold allB
  rw [List.all_eq_false]
  exact ⟨x, List.mem_of_getElem? hx, by simp [ho]⟩
theorem m_lit {k n : Nat} (h : k < n) : n - (intOf (.int .i64 ((k + 1 : Nat) : Int))).toNat < n - (intOf (.int .i64 (k : Int))).toNat := by
  simp [intOf]; omega
set_option maxHeartbeats 8000000 in
set_option maxRecDepth 100000 in
theorem hasNodes_any {M : List Nd} (h : StoreM M w o g) {v : Value} {l : List Int} (hv : Nums w v l) (hl : l.length ≤ 1000000) : Calls Try.prog 36 #[.pointer (some ⟨g.s, 0, none⟩), v] w fun e w' => e = .returned (.bool (allB g.ns.length l)) ∧ w = w' := by
  obtain ⟨A, c, rfl, hc⟩ := hv
  have s2 := h.cell2
  obtain ⟨A2, c2, hv2⟩ : ∃ A c, g.val = .slice A g.ns.length c := by
    obtain ⟨-, h1⟩ := h.row
    rcases h1 with ⟨h1, h3⟩ | ⟨gx, cap, cur, h1, -⟩
    · exact ⟨none, 0, by rw [h1, h3]⟩
    · exact ⟨_, _, h1⟩
  rw [hv2] at s2
  clear hv2
  have HC := Lib.hid hc
  have HB := Lib.hid hl
  obtain ⟨n, hn⟩ : ∃ n, g.ns.length = n := ⟨_, rfl⟩
  rw [hn] at s2
  rw [hn]
  obtain ⟨len, hlen⟩ : ∃ len, l.length = len := ⟨_, rfl⟩
  have HLN := Lib.hid hlen
  rw [hlen]
  clear h hc hl hn hlen
  go_enter Try.func36, Try.ntmps36
  go_wp2
  go_loop [9] (fun v => ∃ k : Nat, v = .int .i64 (k : Int) ∧ k ≤ len ∧ Hid ((l.take k).all (okB n) = true)) (fun v => len - (intOf v).toNat)
  case atStart => exact ⟨0, rfl, Nat.zero_le _, Lib.hid (by simp)⟩
  case round =>
    obtain ⟨k, rfl, hk, hal⟩ := hrel
    have HAL := hal
    by_cases hlt : k < len
    · have hkl : k < l.length := by rw [HLN.out]; exact hlt
      obtain ⟨b, off, rfl, -, hcell⟩ := HC.out (by intro e; rw [e] at hkl; simp at hkl)
      obtain ⟨x, hx⟩ : ∃ x, l[k]? = some x := ⟨_, List.getElem?_eq_getElem hkl⟩
      have kx := hcell k x hx
      have HX := Lib.hid hx
      have q1 : (k : Int) < (len : Int) := by omega
      have HLT := Lib.hid hlt
      have HW := Lib.hid (show (k : Int) ≤ 1000000 from by have := HB.out; rw [HLN.out] at this; omega)
      clear hcell hx hkl hal hk
      by_cases h0 : x < 0
      · have HE := Lib.hid (show allB n l = false from all_not HX.out (by unfold okB; simp; omega))
        clear hlt
        go_wp2
        go_ret
        exact ⟨by rw [HE.out]; rfl, rfl⟩
      · by_cases h1 : x < (n : Int)
        · have q2 : ¬ x ≥ (n : Int) := by omega
          have HO := Lib.hid (show okB n x = true from by unfold okB; simp; omega)
          clear hlt
          have qw := HW.out
          go_wp2
          go_round
          case rel => exact ⟨k + 1, by go_num, HLT.out, Lib.hid (take_all HAL.out HX.out HO.out)⟩
          case measure => simp [intOf]; have := HLT.out; omega
        · have q2 : x ≥ (n : Int) := by omega
          have HE := Lib.hid (show allB n l = false from all_not HX.out (by unfold okB; simp; omega))
          clear hlt
          go_wp2
          go_ret
          exact ⟨by rw [HE.out]; rfl, rfl⟩
    · obtain rfl : k = len := by omega
      have HE := Lib.hid (show allB n l = true from by have := HAL.out; rw [← HLN.out, List.take_length] at this; exact this)
      clear hal hk hlt
      go_wp2
      go_ret
      exact ⟨by rw [HE.out]; rfl, rfl⟩
set_option maxHeartbeats 8000000 in
set_option maxRecDepth 100000 in
theorem hasVars_any {M : List Nd} (h : StoreM M w o g) {v : Value} {l : List Int} (hv : Nums w v l) (hl : l.length ≤ 1000000) : Calls Try.prog 46 #[.pointer (some ⟨g.s, 0, none⟩), v] w fun e w' => e = .returned (.bool (allB g.V l)) ∧ w = w' := by
  obtain ⟨A, c, rfl, hc⟩ := hv
  have s0 := h.cell0
  have HC := Lib.hid hc
  have HB := Lib.hid hl
  obtain ⟨n, hn⟩ : ∃ n, g.V = n := ⟨_, rfl⟩
  rw [hn] at s0
  rw [hn]
  obtain ⟨len, hlen⟩ : ∃ len, l.length = len := ⟨_, rfl⟩
  have HLN := Lib.hid hlen
  rw [hlen]
  clear h hc hl hn hlen
  go_enter Try.func46, Try.ntmps46
  go_wp2
  go_loop [9] (fun v => ∃ k : Nat, v = .int .i64 (k : Int) ∧ k ≤ len ∧ Hid ((l.take k).all (okB n) = true)) (fun v => len - (intOf v).toNat)
  case atStart => exact ⟨0, rfl, Nat.zero_le _, Lib.hid (by simp)⟩
  case round =>
    obtain ⟨k, rfl, hk, hal⟩ := hrel
    have HAL := hal
    by_cases hlt : k < len
    · have hkl : k < l.length := by rw [HLN.out]; exact hlt
      obtain ⟨b, off, rfl, -, hcell⟩ := HC.out (by intro e; rw [e] at hkl; simp at hkl)
      obtain ⟨x, hx⟩ : ∃ x, l[k]? = some x := ⟨_, List.getElem?_eq_getElem hkl⟩
      have kx := hcell k x hx
      have HX := Lib.hid hx
      have q1 : (k : Int) < (len : Int) := by omega
      have HLT := Lib.hid hlt
      have HW := Lib.hid (show (k : Int) ≤ 1000000 from by have := HB.out; rw [HLN.out] at this; omega)
      clear hcell hx hkl hal hk
      by_cases h0 : x < 0
      · have HE := Lib.hid (show allB n l = false from all_not HX.out (by unfold okB; simp; omega))
        clear hlt
        go_wp2
        go_ret
        exact ⟨by rw [HE.out]; rfl, rfl⟩
      · by_cases h1 : x < (n : Int)
        · have q2 : ¬ x ≥ (n : Int) := by omega
          have HO := Lib.hid (show okB n x = true from by unfold okB; simp; omega)
          clear hlt
          have qw := HW.out
          go_wp2
          go_round
          case rel => exact ⟨k + 1, by go_num, HLT.out, Lib.hid (take_all HAL.out HX.out HO.out)⟩
          case measure => simp [intOf]; have := HLT.out; omega
        · have q2 : x ≥ (n : Int) := by omega
          have HE := Lib.hid (show allB n l = false from all_not HX.out (by unfold okB; simp; omega))
          clear hlt
          go_wp2
          go_ret
          exact ⟨by rw [HE.out]; rfl, rfl⟩
    · obtain rfl : k = len := by omega
      have HE := Lib.hid (show allB n l = true from by have := HAL.out; rw [← HLN.out, List.take_length] at this; exact this)
      clear hal hk hlt
      go_wp2
      go_ret
      exact ⟨by rw [HE.out]; rfl, rfl⟩
end

end Go.Proofs.Ytailpphafoamfaa
namespace Go.Proofs.Ytailpphafoamfaa
open Go Go.RowKit Go.Maps


section
variable {M : List Nd} {w w' w2 : World} {o o' o2 : Nat → Nat} {g g' g2 : SG} {D D' : DG} {f : Nat}
/-- What becomes of a store: nodes more, and more that was looked for. -/
structure Ups (g g' : SG) : Prop where
  s : g'.s = g.s
  V : g'.V = g.V
  room : g'.room = g.room
  W : g.W ≤ g'.W
  ns : ∃ K, g'.ns = g.ns ++ K
theorem Ups.refl (g : SG) : Ups g g := ⟨rfl, rfl, rfl, Nat.le_refl _, ⟨[], by simp⟩⟩
theorem Ups.trans (h : Ups g g') (k : Ups g' g2) : Ups g g2 := ⟨k.s.trans h.s, k.V.trans h.V, k.room.trans h.room, Nat.le_trans h.W k.W, by
  obtain ⟨K, h1⟩ := h.ns
  obtain ⟨K', h2⟩ := k.ns
  exact ⟨K ++ K', by rw [h2, h1, List.append_assoc]⟩⟩
theorem Ext.ups (e : Ext g D g' D') : Ups g g' := ⟨e.s, e.V, e.room, e.W, ⟨[], by simp [e.ns]⟩⟩
theorem More.ups (e : More g g') : Ups g g' := ⟨e.s, e.V, e.room, Nat.le_of_eq e.W.symm, e.ns⟩
/-- What a call that makes a diagram does: c bounds the nodes that it comes by, lo what it looks for at least. -/
structure OpOut (w : World) (o : Nat → Nat) (g : SG) (F : (Nat → Bool) → Bool) (c lo : Nat) (e : Ending) (w' : World) (o' : Nat → Nat) (g' : SG) : Prop where
  st : StoreAt w' o' g'
  keep : Keep T0 w o w' o'
  ups : Ups g g'
  W1 : g'.W ≤ g.W + c
  W2 : g.W + lo ≤ g'.W
  res : (e = .returned (.tuple #[.int .i64 0, .int .i64 90]) ∧ g'.ns = g.ns ∧ (65536 ≤ c ∨ g.room + 2 ≤ g.ns.length + 2 ^ g.V ∧ g.room + 1 ≤ g.ns.length + c)) ∨
    ∃ r : Nat, e = .returned (.tuple #[.int .i64 (r : Int), .int .i64 0]) ∧ r < g'.ns.length ∧ g'.ns.length + 1 ≤ g.ns.length + 2 ^ g.V ∧ ∀ m, ev g'.ns r m = F m
  src : ∀ r : Nat, e = .returned (.tuple #[.int .i64 (r : Int), .int .i64 0]) → Src g.ns.length g'.ns r
def OpPost (w : World) (o : Nat → Nat) (g : SG) (F : (Nat → Bool) → Bool) (c lo : Nat) (e : Ending) (w' : World) : Prop := ∃ o' g', OpOut w o g F c lo e w' o' g'
theorem OpPost.mono {F : (Nat → Bool) → Bool} {c c' lo : Nat} {e : Ending} (h : OpPost w o g F c lo e w') (hc : c ≤ c') : OpPost w o g F c' lo e w' := by
  obtain ⟨o', g', hz⟩ := h
  refine ⟨o', g', hz.st, hz.keep, hz.ups, Nat.le_trans hz.W1 (Nat.add_le_add_left hc _), hz.W2, ?_, hz.src⟩
  rcases hz.res with ⟨h1, h2, h3⟩ | h1
  · refine .inl ⟨h1, h2, ?_⟩
    rcases h3 with h3 | h3
    · exact .inl (Nat.le_trans h3 hc)
    · exact .inr ⟨h3.1, Nat.le_trans h3.2 (Nat.add_le_add_left hc _)⟩
  · exact .inr h1
theorem pow_le_V (V a : Nat) : 2 ^ (V - a) ≤ 2 ^ V := Nat.pow_le_pow_right (by decide) (by omega)
theorem t0_all {T : Nat → Bool} (h : T 0 = false) : ∀ t, T0 t = false → T t = false := t0_of h
/-- From what keeping leaves to what the call leaves. -/
theorem op_of_keep {wa wb : World} {oa ob : Nat → Nat} {ga gb : SG} {Da Db : DG} {F : (Nat → Bool) → Bool} {c lo r : Nat} {e : Ending}
    (hk0 : Keep T0 w o wa oa) (hd : DS wa oa ga Da) (hga : ga = g) (hd0 : Da.ds = [] ∧ 65536 ≤ Da.most) (hk1 : Keep T0 wa oa wb ob) (hdb : DS wb ob gb Db) (hx : Ext ga Da gb Db) (hlen : Db.ds.length ≤ c) (hW1 : gb.W ≤ ga.W + c) (hW2 : ga.W + lo ≤ gb.W)
    (hev : Db.full = false → ∀ m, ev (lst gb Db) r m = F m) (hp : KeepPost wb ob gb Db r e w') : OpPost w o g F c lo e w' := by
  subst hga
  have hful : Db.full = true → 65536 ≤ c := fun hf => by
    have h1 := hdb.dr.fl hf
    have h2 := hx.most
    omega
  have hpw := pow_le_V ga.V
  rcases hp with ⟨he, hg, hr⟩ | ⟨r', o', g', he, hr⟩
  · refine ⟨ob, gb, ⟨hdb.st.grown hg, (hk0.trans hk1).trans (keep_none _ _ hg), hx.ups, hW1, hW2, .inl ⟨he, hx.ns, ?_⟩, fun r h => by rw [he] at h; simp at h⟩⟩
    rcases hr with hr | hr
    · exact .inl (hful hr)
    · right
      obtain ⟨hr, hr2⟩ := hr
      rw [hx.room, hx.ns] at hr2
      rw [hx.V, hx.room, hx.ns] at hr
      have := hpw (ask (lst gb Db) r)
      omega
  · refine ⟨o', g', ⟨hr.st, (hk0.trans hk1).trans hr.keep, hx.ups.trans hr.more.ups, by rw [hr.more.W]; exact hW1, by rw [hr.more.W]; exact hW2, .inr ⟨r', he, hr.lt, ?_, fun m => (hr.ev m).trans (hev hr.full m)⟩, fun r h => by
      rw [he] at h
      have e : r' = r := by simp at h; omega
      subst e
      have := hr.src
      rw [hx.ns] at this
      exact this⟩⟩
    have h1 := hr.len
    rw [hx.V, hx.ns] at h1
    have := hpw (ask (lst gb Db) r)
    omega
theorem nums_one (w : World) (x : Int) : Nums (w.alloc (.cells #[.int .i64 x] 3)) (.slice (some ⟨w.heap.size, 0, none⟩) 1 1) [x] :=
  ⟨_, 1, rfl, fun _ => ⟨w.heap.size, 0, rfl, by simp, fun j y hy => by
    have h := (MapKept.heap_alloc w (.cells #[.int .i64 x] 3)).1
    match j, hy with
    | 0, hy => simp at hy; subst hy; exact (cell_of h).trans rfl
    | j + 1, hy => simp at hy⟩⟩
def VarPost (w : World) (o : Nat → Nat) (g : SG) (v : Int) (e : Ending) (w' : World) : Prop :=
  if okB g.V v = true then OpPost w o g (fun m => m v.toNat) 1 1 e w' else e = .returned (.tuple #[.int .i64 0, .int .i64 91]) ∧ w.grownBy w' none
set_option maxHeartbeats 8000000 in
set_option maxRecDepth 100000 in
theorem var_bad (h : StoreAt w o g) (v : Int) (hv : okB g.V v = false) : Calls Try.prog 30 #[.pointer (some ⟨g.s, 0, none⟩), .int .i64 v] w (VarPost w o g v) := by
  have HV := Lib.hid (hasVars_any (h.alloc (.cells #[.int .i64 v] 3)) (nums_one w v) (by simp))
  have e0 : allB g.V [v] = false := by simp [allB, hv]
  rw [e0] at HV
  have HE := Lib.hid (show VarPost w o g v (.returned (.tuple #[.int .i64 0, .int .i64 91])) (w.alloc (.cells #[.int .i64 v] 3)) from by
    unfold VarPost
    rw [if_neg (by rw [hv]; simp)]
    exact ⟨rfl, grown_alloc _ _⟩)
  have hnot : ∀ (x : Bool) (w : World), (Op.unary .not (.bool x)).run Try.prog w = .ok (.bool (!x)) w := fun _ _ => rfl
  clear h hv e0
  go_enter Try.func30, Try.ntmps30
  go_wp2_with fail
  refine (HV.out).mono ?_
  rintro e w1 ⟨rfl, rfl⟩
  go_wp2
  go_ret2
  exact HE.out
set_option maxHeartbeats 8000000 in
set_option maxRecDepth 100000 in
theorem var_good (h : StoreAt w o g) (n : Nat) (hn : n < g.V) : Calls Try.prog 30 #[.pointer (some ⟨g.s, 0, none⟩), .int .i64 (n : Int)] w (VarPost w o g (n : Int)) := by
  have HV := Lib.hid (hasVars_any (h.alloc (.cells #[.int .i64 (n : Int)] 3)) (nums_one w (n : Int)) (by simp))
  have e1 : okB g.V (n : Int) = true := by unfold okB; simp; omega
  have e0 : allB g.V [(n : Int)] = true := by simp [allB, e1]
  rw [e0] at HV
  have HDR := Lib.hid (draft_any (h.alloc (.cells #[.int .i64 (n : Int)] 3)))
  have HE := Lib.hid e1
  have HN := Lib.hid hn
  have hbd := h.bd
  have qw : wrap32 (n : Int) = (n : Int) := wrap32_id (by omega)
  have qw2 : IntKind.i32.wrap (n : Int) = (n : Int) := IntWalk.i32_in _ (by omega)
  have HH := Lib.hid h
  have hnot : ∀ (x : Bool) (w : World), (Op.unary .not (.bool x)).run Try.prog w = .ok (.bool (!x)) w := fun _ _ => rfl
  clear h e0 e1 hn hbd
  go_enter Try.func30, Try.ntmps30
  go_wp2_with fail
  refine (HV.out).mono ?_
  rintro e w1 ⟨rfl, rfl⟩
  go_wp2_with fail
  refine (HDR.out).mono ?_
  rintro e w2 ⟨d, dm, o2, rfl, hst, hdr, hk⟩
  have HS2 := Lib.hid (show DS w2 o2 g _ from ⟨hst, hdr⟩)
  have HK2 := Lib.hid (show Keep T0 w o w2 o2 from (keep_alloc T0 w o _).trans (hk.more (t0_of rfl)))
  clear hst hdr hk
  have hnd := node_any (n := ⟨n, 0, 1⟩) HS2.out ⟨by have := HS2.out.wf.two; show 0 < _; omega, by have := HS2.out.wf.two; show 1 < _; omega, by have := HS2.out.st.bd; have := HN.out; show n < _; omega, fun _ _ => ⟨HN.out, by rw [HS2.out.wf.ask0]; exact HN.out, by rw [HS2.out.wf.ask1]; exact HN.out⟩⟩
  have HND := Lib.hid hnd
  clear hnd
  go_wp2_with fail
  refine (HND.out).mono ?_
  rintro e w3 ⟨r, o3, g3, D3, rfl, hout⟩
  have HO := Lib.hid hout
  have hkp := keep_any hout.ds hout.lt
  rw [hout.ext.d] at hkp
  have HKP := Lib.hid hkp
  clear hout hkp
  go_wp2_with fail
  refine (HKP.out).mono ?_
  intro e w4 hp
  have hop : OpPost w o g (fun m => m n) 1 1 e w4 := op_of_keep HK2.out HS2.out rfl ⟨rfl, Nat.le_max_left _ _⟩ (HO.out.keep.more (t0_of rfl)) HO.out.ds HO.out.ext (by have := HO.out.len; simpa using this) HO.out.W1 (Nat.le_of_eq (HO.out.W2 (by simp)).symm) (fun hf m => by
    rcases HO.out.is.resolve_left (by rintro ⟨-, h2⟩; rw [hf] at h2; cases h2) with ⟨h1, -⟩ | ⟨-, h2, h3⟩
    · cases h1
    · rw [HO.out.ds.wf.ev_node m h2 h3]
      simp only [ev0, ev1]
      cases m n <;> rfl) hp
  have HFIN := Lib.hid (show VarPost w o g (n : Int) e w4 from by
    unfold VarPost
    rw [if_pos HE.out]
    exact hop)
  clear hop
  rcases hp with ⟨rfl, -⟩ | ⟨r', o', g', rfl, -⟩
  · go_wp2
    go_ret2
    exact HFIN.out
  · go_wp2
    go_ret2
    exact HFIN.out
end

end Go.Proofs.Ytailpphafoamfaa
