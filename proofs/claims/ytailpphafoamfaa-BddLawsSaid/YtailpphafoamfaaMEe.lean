/- Not of and is or of not; what can be of either: the law. -/
import Derived.Test.YtailpphafoamfaaPzas
set_option linter.all false
namespace Go.Proofs.Ytailpphafoamfaa
open Go Go.RowKit Go.Maps


/-- A diagram that is what a function tells. -/
def Dg (g : SG) (r : Nat) (F : (Nat → Bool) → Bool) : Prop := r < g.ns.length ∧ ∀ m, ev g.ns r m = F m
theorem Dg.ups {g g' : SG} {r : Nat} {F : (Nat → Bool) → Bool} (h : Dg g r F) (u : Ups g g') (hw : WF g.V g.ns) (hw' : WF g'.V g'.ns) : Dg g' r F := by
  obtain ⟨K, hK⟩ := u.ns
  rw [u.V, hK] at hw'
  refine ⟨by rw [hK, List.length_append]; have := h.1; omega, fun m => ?_⟩
  rw [hK, ev_app hw hw' m r h.1]
  exact h.2 m
theorem Dg.same {V : Nat} {g : SG} {r r' : Nat} {F F' : (Nat → Bool) → Bool} (hw : WF V g.ns) (h : Dg g r F) (h' : Dg g r' F') (he : ∀ m, F m = F' m) : r = r' := hw.one h.1 h'.1 fun m => by rw [h.2, h'.2, he]
/-- A store that is worked on. -/
structure Sx (W : World) (n s L : Nat) (w : World) (o : Nat → Nat) (g : SG) : Prop where
  st : StoreAt w o g
  kp : Keep T0 W (fun _ => 0) w o
  hs : g.s = s
  V : g.V = n
  room : 100000 ≤ g.room
  len : g.ns.length ≤ L
theorem Sx.op {W : World} {n s L : Nat} {w w' : World} {o : Nat → Nat} {g : SG} {F : (Nat → Bool) → Bool} {e : Ending} (h : Sx W n s L w o g) (hn : n ≤ 6) (hL : L ≤ 20000) (hp : OpPost w o g F 5000 0 e w') :
    ∃ (r : Nat) (o' : Nat → Nat) (g' : SG), e = .returned (.tuple #[.int .i64 (r : Int), .int .i64 0]) ∧ Sx W n s (L + 64) w' o' g' ∧ Ups g g' ∧ Dg g' r F ∧ Keep T0 w o w' o' := by
  obtain ⟨r, o', g', h1, h2, h3, h4, h5, h6, h7⟩ := op_ok hp (by rw [h.V]; exact hn) h.room (Nat.le_trans h.len hL)
  exact ⟨r, o', g', h1, ⟨h2, h.kp.trans h3, h4.s.trans h.hs, h4.V.trans h.V, by rw [h4.room]; exact h.room, by have := h.len; omega⟩, h4, ⟨h5, h7⟩, h3⟩
theorem Sx.grown {W : World} {n s L : Nat} {w w' : World} {o : Nat → Nat} {g : SG} (h : Sx W n s L w o g) (hg : w.grownBy w' none) : Sx W n s L w' o g := ⟨h.st.grown hg, h.kp.trans (keep_none _ _ hg), h.hs, h.V, h.room, h.len⟩
theorem ex1_or (F G : (Nat → Bool) → Bool) (v : Nat) (m : Nat → Bool) : ex1 (fun m => F m || G m) v m = (ex1 F v m || ex1 G v m) := by
  show ((F m || G m) || (F (flipM m v) || G (flipM m v))) = ((F m || F (flipM m v)) || (G m || G (flipM m v)))
  cases F m <;> cases G m <;> cases F (flipM m v) <;> cases G (flipM m v) <;> rfl
set_option maxHeartbeats 60000000 in
set_option maxRecDepth 100000 in
theorem laws_law (W : World) (v : Int) (av : Value) (ac : List ActI) (q0 q1 q2 : Int) (hv : 0 ≤ v ∧ v ≤ 255) (hq : (0 ≤ q0 ∧ q0 ≤ 255) ∧ (0 ≤ q1 ∧ q1 ≤ 255) ∧ (0 ≤ q2 ∧ q2 ≤ 255)) (ha : Acts W av ac) (hal : ac.length ≤ 9223372036854775807) (hav : ∀ a ∈ ac, a.vs.length ≤ 9223372036854775807) :
    Calls Try.prog 9 #[.int .u8 v, av, .agg #[.int .u8 q0, .int .u8 q1, .int .u8 q2]] W fun e w' => e = .returned (.bool true) ∧ W.grownBy w' none := by
  obtain ⟨W0, hW0⟩ : ∃ W0, W.alloc (.cells #[.int .u8 q0, .int .u8 q1, .int .u8 q2] 59) = W0 := ⟨_, rfl⟩
  have HG0 := Lib.hid (show W.grownBy W0 none from by rw [← hW0]; exact grown_alloc _ _)
  have hn0 : 0 ≤ v % 6 ∧ v % 6 < 6 := ⟨Int.emod_nonneg v (by decide), Int.emod_lt_of_pos v (by decide)⟩
  obtain ⟨n, hn⟩ : ∃ n : Nat, 1 + v % 6 = (n : Int) := ⟨(1 + v % 6).toNat, by omega⟩
  have HN := Lib.hid (show 1 ≤ n ∧ n ≤ 6 from by omega)
  have HNEW := Lib.hid (new_any (w := W0) (o := fun _ => 0) (fun _ _ => rfl) (n : Int) 200000)
  have HA := Lib.hid (show Acts W0 av ac from by rw [← hW0]; exact ha.grown (grown_alloc _ _))
  have HAL := Lib.hid hal
  have HAV := Lib.hid hav
  have qv0 : 0 ≤ v := hv.1
  have qv1 : v ≤ 255 := hv.2
  have wv : IntKind.i64.wrap v = v := IntWalk.i64_in _ (by omega)
  have wm : IntKind.i64.wrap (v % 6) = v % 6 := IntWalk.i64_in _ (by omega)
  have wn : IntKind.i64.wrap (1 + v % 6) = (n : Int) := (IntWalk.i64_in _ (by omega)).trans hn
  clear ha hal hav hn0
  obtain ⟨bq, hbq⟩ : ∃ bq, W.heap.size = bq := ⟨_, rfl⟩
  have HBQ := Lib.hid (show W0.heap[bq]? = some (.cells #[.int .u8 q0, .int .u8 q1, .int .u8 q2] 59 (0, 0)) from by rw [← hW0, ← hbq]; exact (MapKept.heap_alloc W _).1)
  have HQQ := Lib.hid hq
  clear hq
  go_enter Try.func9, Try.ntmps9
  go_wp2_with fail
  refine (HNEW.out).mono ?_
  intro e w1 hp
  obtain ⟨s, o1, g1, rfl, hst, hkp, hgs, hgV, hgR, hg2⟩ : ∃ (s : Nat) (o1 : Nat → Nat) (g1 : SG), e = .returned (.tuple #[.pointer (some ⟨s, 0, none⟩), .int .i64 0]) ∧ StoreAt w1 o1 g1 ∧ Keep T0 W0 (fun _ => 0) w1 o1 ∧ g1.s = s ∧ g1.V = n ∧ g1.room = 200000 ∧ g1.ns.length = 2 := by
    have h6 := HN.out
    rcases hp with ⟨h1, -⟩ | ⟨-, h1, -⟩ | ⟨-, -, s, val, o1, h1, h2, h3⟩
    · exact absurd (by omega) h1
    · exact absurd (by decide) h1
    · exact ⟨s, o1, _, h1, h2, h3.more (fun _ _ => rfl), rfl, by simp, rfl, rfl⟩
  have HST := Lib.hid hst
  have HKP := Lib.hid hkp
  have HGS := Lib.hid hgs
  have HGV := Lib.hid hgV
  have HGR := Lib.hid hgR
  have HG2 := Lib.hid hg2
  have HAW := Lib.hid (awake_any w1)
  clear hp hst hkp hgs hgV hgR hg2 HNEW
  go_wp2_with fail
  refine (HAW.out).mono ?_
  rintro e w2 ⟨rfl, hg⟩
  have HBU := Lib.hid (built_any (HST.out.grown hg) (HKP.out.trans (keep_none T0 o1 hg)) HN.out HGV.out (by rw [HGR.out]; decide) HG2.out HA.out HAL.out HAV.out)
  rw [HGS.out] at HBU
  clear hg HAW
  go_wp2_with fail
  refine (HBU.out).mono ?_
  rintro e w3 ⟨o', g', lv, tv, ls, ts, us, rfl, hlp⟩
  obtain ⟨m, hm⟩ : ∃ m, ls.length = m := ⟨_, rfl⟩
  obtain ⟨bl, ol, cl, hlv, hbl, hol, hcl⟩ := hlp.bt.nums.at_ (N := m) (i := 0) (by rw [List.length_map]; exact hm) (by have := hlp.good.two; omega)
  obtain ⟨bt, ot, ct, htv, hbt, hot, hat⟩ := hlp.bt.tabs.at_ (M := m) (j0 := 0) (by rw [← hlp.good.len]; exact hm) (by have := hlp.good.two; omega)
  subst hlv htv
  have HMM := Lib.hid hm
  have HLP := Lib.hid hlp
  have HGV2 := Lib.hid (show g'.V = n from hlp.ups.V.trans HGV.out)
  have qm : (m : Int) ≤ 32 := by have := hlp.le; omega
  have HCL := Lib.hid hcl
  have HAT := Lib.hid hat
  have HBL := Lib.hid hbl
  have HBT := Lib.hid hbt
  clear hlp hm hbl hol hcl hbt hot hat HBU
  have HSX := Lib.hid (show Sx W0 n s 1922 w3 o' g' from ⟨HLP.out.st, HLP.out.kp, HLP.out.ups.s.trans HGS.out, HGV2.out, by rw [HLP.out.ups.room, HGR.out]; decide, Nat.le_trans HLP.out.room (by decide)⟩)
  have HNV0 := Lib.hid HN.out.2
  have qm0 : ((m : Int) == 0) = false := by have := HLP.out.good.two; rw [HMM.out] at this; simp; omega
  have hm1 : 0 < m := by have := HLP.out.good.two; rw [HMM.out] at this; omega
  have hq := HQQ.out
  obtain ⟨i0, hi0, hi0m⟩ := nat_mod q0 hm1
  obtain ⟨i1, hi1, hi1m⟩ := nat_mod q1 hm1
  obtain ⟨vi, hvi, hvin⟩ := nat_mod q2 (show 0 < n from by have := HN.out; omega)
  have HVI := Lib.hid hvin
  have kf := HCL.out i0 hi0m
  have kg := HCL.out i1 hi1m
  rw [getD_nat] at kf kg
  obtain ⟨f, hf⟩ : ∃ f, ls.getD i0 0 = f := ⟨_, rfl⟩
  obtain ⟨g0, hg0⟩ : ∃ g0, ls.getD i1 0 = g0 := ⟨_, rfl⟩
  rw [hf] at kf
  rw [hg0] at kg
  have hfl := (HLP.out.good.tab i0 (by rw [HMM.out]; exact hi0m)).1
  have hgl := (HLP.out.good.tab i1 (by rw [HMM.out]; exact hi1m)).1
  rw [hf] at hfl
  rw [hg0] at hgl
  obtain ⟨Ff, hFf⟩ : ∃ F, ev g'.ns f = F := ⟨_, rfl⟩
  obtain ⟨Fg, hFg⟩ : ∃ F, ev g'.ns g0 = F := ⟨_, rfl⟩
  have HDf_0 := Lib.hid (show Dg g' f Ff from ⟨hfl, fun m => by rw [hFf]⟩)
  have HDg0_0 := Lib.hid (show Dg g' g0 Fg from ⟨hgl, fun m => by rw [hFg]⟩)
  have hbq3 : w3.heap[bq]? = some (.cells #[.int .u8 q0, .int .u8 q1, .int .u8 q2] 59 (0, 0)) := (grown_far HLP.out.kp.none (Array.getElem?_eq_some_iff.1 HBQ.out).1).trans HBQ.out
  have kq0 : w3.cell? ⟨bq, 0, none⟩ = some (.int .u8 q0) := (cell_of hbq3).trans rfl
  have kq1 : w3.cell? ⟨bq, 1, none⟩ = some (.int .u8 q1) := (cell_of hbq3).trans rfl
  have kq2 : w3.cell? ⟨bq, 2, none⟩ = some (.int .u8 q2) := (cell_of hbq3).trans rfl
  have z0 : 0 ≤ q0 := hq.1.1
  have z0' : q0 ≤ 255 := hq.1.2
  have z1 : 0 ≤ q1 := hq.2.1.1
  have z1' : q1 ≤ 255 := hq.2.1.2
  have z2 : 0 ≤ q2 := hq.2.2.1
  have z2' : q2 ≤ 255 := hq.2.2.2
  have qi0 : (i0 : Int) < (m : Int) := by omega
  have qi1 : (i1 : Int) < (m : Int) := by omega
  have qvi : (vi : Int) < (n : Int) := by omega
  have qn6 : (n : Int) ≤ 6 := by have := HN.out; omega
  have HMI := Lib.hid (show q0 % (m : Int) = (i0 : Int) ∧ q1 % (m : Int) = (i1 : Int) ∧ q2 % (n : Int) = (vi : Int) from ⟨hi0, hi1, hvi⟩)
  have qmp : 0 < (m : Int) := by omega
  have qnp : 0 < (n : Int) := by have := HN.out; omega
  have wq0 : IntKind.i64.wrap q0 = q0 := IntWalk.i64_in _ (by omega)
  have wq1 : IntKind.i64.wrap q1 = q1 := IntWalk.i64_in _ (by omega)
  have wq2 : IntKind.i64.wrap q2 = q2 := IntWalk.i64_in _ (by omega)
  have qm00 : ¬ m = 0 := by omega
  have qn00 : ¬ n = 0 := by have := HN.out; omega
  have ht0 : q0.tmod (m : Int) = (i0 : Int) := (Int.tmod_eq_emod_of_nonneg z0).trans hi0
  have ht1 : q1.tmod (m : Int) = (i1 : Int) := (Int.tmod_eq_emod_of_nonneg z1).trans hi1
  have ht2 : q2.tmod (n : Int) = (vi : Int) := (Int.tmod_eq_emod_of_nonneg z2).trans hvi
  have HLTQ := Lib.hid (show ∀ q ∈ [bl, bq], q < (World.drew w3).heap.size from fun q hq => by
    simp at hq
    rcases hq with rfl | rfl
    · exact HBL.out
    · exact (Array.getElem?_eq_some_iff.1 hbq3).1)
  clear wv wm wn qv0 qv1 hv hq hi0m hi1m hvin hf hg0 hfl hgl hFf hFg hbq3 hm1 hW0 hbq
  go_wp2
  refine wp_region_T (S := fun w' => ∀ k ∈ [bl, bq], w'.heap[k]? = w3.heap[k]?) (tail := fun _ => false) (by kernel_rfl) ?_
  change wpAnyT _ _ _ _ _ _ _ _ _ (World.drew w3)
  have BD := Lib.hid (show ∀ k ∈ [bl, bq], (World.drew w3).heap[k]? = w3.heap[k]? from fun _ _ => rfl)
  refine tk 0 72 (.slice (some ⟨bl, ol, none⟩) m cl) BD.out ?y0 ?_
  case y0 =>
    intro w' hw'
    go_simp
  try simp only [Act.put, List.setIfInBounds_toArray, List.set_cons_zero, List.set_cons_succ]
  refine tk 1 73 (.pointer (some ⟨bq, 0, none⟩)) BD.out ?y1 ?_
  case y1 =>
    intro w' hw'
    go_simp
  try simp only [Act.put, List.setIfInBounds_toArray, List.set_cons_zero, List.set_cons_succ]
  refine tk 2 74 (.int .u8 q0) BD.out ?y2 ?_
  case y2 =>
    intro w' hw'
    have z0 := (World.cell?_of_block (a := ⟨bq, 0, none⟩) (hw' bq (by simp))).trans kq0
    go_simp
  try simp only [Act.put, List.setIfInBounds_toArray, List.set_cons_zero, List.set_cons_succ]
  refine tk 3 75 (.int .i64 q0) BD.out ?y3 ?_
  case y3 =>
    intro w' hw'
    go_simp
  try simp only [Act.put, List.setIfInBounds_toArray, List.set_cons_zero, List.set_cons_succ]
  refine tk 4 76 (.slice (some ⟨bl, ol, none⟩) m cl) BD.out ?y4 ?_
  case y4 =>
    intro w' hw'
    go_simp
  try simp only [Act.put, List.setIfInBounds_toArray, List.set_cons_zero, List.set_cons_succ]
  refine tk 5 77 (.int .i64 (m : Int)) BD.out ?y5 ?_
  case y5 =>
    intro w' hw'
    go_simp
  try simp only [Act.put, List.setIfInBounds_toArray, List.set_cons_zero, List.set_cons_succ]
  refine tk 6 78 (.int .i64 (i0 : Int)) BD.out ?y6 ?_
  case y6 =>
    intro w' hw'
    go_simp
  try simp only [Act.put, List.setIfInBounds_toArray, List.set_cons_zero, List.set_cons_succ]
  refine tk 7 79 (.pointer (some ⟨bl, ol + i0, none⟩)) BD.out ?y7 ?_
  case y7 =>
    intro w' hw'
    go_simp
  try simp only [Act.put, List.setIfInBounds_toArray, List.set_cons_zero, List.set_cons_succ]
  refine tk 8 80 (.int .i64 (f : Int)) BD.out ?y8 ?_
  case y8 =>
    intro w' hw'
    have z0 := (World.cell?_of_block (a := ⟨bl, ol + i0, none⟩) (hw' bl (by simp))).trans kf
    go_simp
  try simp only [Act.put, List.setIfInBounds_toArray, List.set_cons_zero, List.set_cons_succ]
  refine tk 9 81 (.slice (some ⟨bl, ol, none⟩) m cl) BD.out ?y9 ?_
  case y9 =>
    intro w' hw'
    go_simp
  try simp only [Act.put, List.setIfInBounds_toArray, List.set_cons_zero, List.set_cons_succ]
  refine tk 10 82 (.pointer (some ⟨bq, 1, none⟩)) BD.out ?y10 ?_
  case y10 =>
    intro w' hw'
    go_simp
  try simp only [Act.put, List.setIfInBounds_toArray, List.set_cons_zero, List.set_cons_succ]
  refine tk 11 83 (.int .u8 q1) BD.out ?y11 ?_
  case y11 =>
    intro w' hw'
    have z0 := (World.cell?_of_block (a := ⟨bq, 1, none⟩) (hw' bq (by simp))).trans kq1
    go_simp
  try simp only [Act.put, List.setIfInBounds_toArray, List.set_cons_zero, List.set_cons_succ]
  refine tk 12 84 (.int .i64 q1) BD.out ?y12 ?_
  case y12 =>
    intro w' hw'
    go_simp
  try simp only [Act.put, List.setIfInBounds_toArray, List.set_cons_zero, List.set_cons_succ]
  refine tk 13 85 (.slice (some ⟨bl, ol, none⟩) m cl) BD.out ?y13 ?_
  case y13 =>
    intro w' hw'
    go_simp
  try simp only [Act.put, List.setIfInBounds_toArray, List.set_cons_zero, List.set_cons_succ]
  refine tk 14 86 (.int .i64 (m : Int)) BD.out ?y14 ?_
  case y14 =>
    intro w' hw'
    go_simp
  try simp only [Act.put, List.setIfInBounds_toArray, List.set_cons_zero, List.set_cons_succ]
  refine tk 15 87 (.int .i64 (i1 : Int)) BD.out ?y15 ?_
  case y15 =>
    intro w' hw'
    go_simp
  try simp only [Act.put, List.setIfInBounds_toArray, List.set_cons_zero, List.set_cons_succ]
  refine tk 16 88 (.pointer (some ⟨bl, ol + i1, none⟩)) BD.out ?y16 ?_
  case y16 =>
    intro w' hw'
    go_simp
  try simp only [Act.put, List.setIfInBounds_toArray, List.set_cons_zero, List.set_cons_succ]
  refine tk 17 89 (.int .i64 (g0 : Int)) BD.out ?y17 ?_
  case y17 =>
    intro w' hw'
    have z0 := (World.cell?_of_block (a := ⟨bl, ol + i1, none⟩) (hw' bl (by simp))).trans kg
    go_simp
  try simp only [Act.put, List.setIfInBounds_toArray, List.set_cons_zero, List.set_cons_succ]
  refine tk 18 90 (.pointer (some ⟨bq, 2, none⟩)) BD.out ?y18 ?_
  case y18 =>
    intro w' hw'
    go_simp
  try simp only [Act.put, List.setIfInBounds_toArray, List.set_cons_zero, List.set_cons_succ]
  refine tk 19 91 (.int .u8 q2) BD.out ?y19 ?_
  case y19 =>
    intro w' hw'
    have z0 := (World.cell?_of_block (a := ⟨bq, 2, none⟩) (hw' bq (by simp))).trans kq2
    go_simp
  try simp only [Act.put, List.setIfInBounds_toArray, List.set_cons_zero, List.set_cons_succ]
  refine tk 20 92 (.int .i64 q2) BD.out ?y20 ?_
  case y20 =>
    intro w' hw'
    go_simp
  try simp only [Act.put, List.setIfInBounds_toArray, List.set_cons_zero, List.set_cons_succ]
  refine tk 21 93 (.int .i64 ((n : Nat) : Int)) BD.out ?y21 ?_
  case y21 =>
    intro w' hw'
    go_simp
  try simp only [Act.put, List.setIfInBounds_toArray, List.set_cons_zero, List.set_cons_succ]
  refine tk 22 94 (.int .i64 (vi : Int)) BD.out ?y22 ?_
  case y22 =>
    intro w' hw'
    go_simp
  try simp only [Act.put, List.setIfInBounds_toArray, List.set_cons_zero, List.set_cons_succ]
  refine tk 24 13 (.int .i64 (f : Int)) BD.out ?y24 ?_
  case y24 =>
    intro w' hw'
    go_simp
  try simp only [Act.put, List.setIfInBounds_toArray, List.set_cons_zero, List.set_cons_succ]
  refine tk 25 14 (.int .i64 (g0 : Int)) BD.out ?y25 ?_
  case y25 =>
    intro w' hw'
    go_simp
  try simp only [Act.put, List.setIfInBounds_toArray, List.set_cons_zero, List.set_cons_succ]
  refine on 23 (fun K hK => ?_)
  go_simp
  have BA := Lib.hid (show ∀ q ∈ [bl, bq], ((World.drew w3).alloc (.cells #[.int .i64 (vi : Int)] 3)).heap[q]? = w3.heap[q]? from fun q hq => heap_alloc_old (HLTQ.out q hq))
  refine hK.out _ _ (fun _ => BA.out) ?_
  clear hK K
  try simp only [Act.put, List.setIfInBounds_toArray, List.set_cons_zero, List.set_cons_succ]
  refine on 26 (fun K hK => ?_)
  go_simp
  refine hK.out _ _ (fun _ => BA.out) ?_
  clear hK K
  try simp only [Act.put, List.setIfInBounds_toArray, List.set_cons_zero, List.set_cons_succ]
  refine dn ?_
  obtain ⟨bs, hbs⟩ : ∃ bs, w3.heap.size = bs := ⟨_, rfl⟩
  obtain ⟨wz, hwz⟩ : ∃ wz, World.drew (w3.alloc (.cells #[.int .i64 (vi : Int)] 3)) = wz := ⟨_, rfl⟩
  have hgz : w3.grownBy wz none := by rw [← hwz]; exact grown_trans (grown_alloc _ _) (grown_drewN _ 1)
  have SX0 := Lib.hid (HSX.out.grown hgz)
  have hcs : wz.heap[bs]? = some (.cells #[.int .i64 (vi : Int)] 3 (0, 0)) := by rw [← hwz, ← hbs]; exact (MapKept.heap_alloc w3 _).1
  have HSO0 := Lib.hid (show NumsO wz o' (.slice (some ⟨bs, 0, none⟩) 1 1) ([vi].map fun (x : Nat) => (x : Int)) from ⟨_, 1, rfl, fun _ => ⟨bs, 0, rfl, (Array.getElem?_eq_some_iff.1 hcs).1, HLP.out.st.new _ (by omega), fun j x hx => by
    match j, hx with
    | 0, hx => simp at hx; subst hx; exact (cell_of hcs).trans rfl
    | j + 1, hx => simp at hx⟩⟩)
  rw [hbs, hwz]
  clear hgz hcs hwz hbs kf kg kq0 kq1 kq2 z0 z0' z1 z1' z2 z2' wq0 wq1 wq2 ht0 ht1 ht2 qm00 qn00 hi0 hi1 hvi qi0 qi1 qvi qmp qnp qm0
  have HC1 := Lib.hid (and_any SX0.out.st (f : Int) (g0 : Int))
  rw [SX0.out.hs] at HC1
  go_wp2_with fail
  refine (HC1.out).mono ?_
  intro e w1x hp
  have hop := c_and SX0.out.st.wf (by rw [SX0.out.V]; exact HNV0.out) HDf_0.out.1 HDg0_0.out.1 hp
  obtain ⟨r1, o1x, g1x, rfl, hsx, hu, hd, hkk⟩ := SX0.out.op HNV0.out (by decide) hop
  have SX1 := Lib.hid hsx
  have HU1 := Lib.hid hu
  have HDf_1 := Lib.hid (HDf_0.out.ups hu SX0.out.st.wf hsx.st.wf)
  have HDg0_1 := Lib.hid (HDg0_0.out.ups hu SX0.out.st.wf hsx.st.wf)
  have HDr1_1 := Lib.hid (show Dg g1x r1 (fun m => Ff m && Fg m) from ⟨hd.1, fun m => (hd.2 m).trans (by simp only [HDf_0.out.2, HDg0_0.out.2])⟩)
  have HSO1 := Lib.hid (HSO0.out.keep hkk rfl)
  clear hp hop hsx hu hd hkk HC1 HDf_0 HDg0_0 HSO0
  have HC2 := Lib.hid (not_any SX1.out.st (r1 : Int))
  rw [SX1.out.hs] at HC2
  go_wp2_with fail
  refine (HC2.out).mono ?_
  intro e w2x hp
  have hop := c_not SX1.out.st.wf (by rw [SX1.out.V]; exact HNV0.out) HDr1_1.out.1 hp
  obtain ⟨r2, o2x, g2x, rfl, hsx, hu, hd, hkk⟩ := SX1.out.op HNV0.out (by decide) hop
  have SX2 := Lib.hid hsx
  have HU2 := Lib.hid hu
  have HDf_2 := Lib.hid (HDf_1.out.ups hu SX1.out.st.wf hsx.st.wf)
  have HDg0_2 := Lib.hid (HDg0_1.out.ups hu SX1.out.st.wf hsx.st.wf)
  have HDr1_2 := Lib.hid (HDr1_1.out.ups hu SX1.out.st.wf hsx.st.wf)
  have HDr2_2 := Lib.hid (show Dg g2x r2 (fun m => !(Ff m && Fg m)) from ⟨hd.1, fun m => (hd.2 m).trans (by simp only [HDr1_1.out.2])⟩)
  have HSO2 := Lib.hid (HSO1.out.keep hkk rfl)
  clear hp hop hsx hu hd hkk HC2 HDf_1 HDg0_1 HDr1_1 HSO1
  have HC3 := Lib.hid (not_any SX2.out.st (f : Int))
  rw [SX2.out.hs] at HC3
  go_wp2_with fail
  refine (HC3.out).mono ?_
  intro e w3x hp
  have hop := c_not SX2.out.st.wf (by rw [SX2.out.V]; exact HNV0.out) HDf_2.out.1 hp
  obtain ⟨r3, o3x, g3x, rfl, hsx, hu, hd, hkk⟩ := SX2.out.op HNV0.out (by decide) hop
  have SX3 := Lib.hid hsx
  have HU3 := Lib.hid hu
  have HDf_3 := Lib.hid (HDf_2.out.ups hu SX2.out.st.wf hsx.st.wf)
  have HDg0_3 := Lib.hid (HDg0_2.out.ups hu SX2.out.st.wf hsx.st.wf)
  have HDr1_3 := Lib.hid (HDr1_2.out.ups hu SX2.out.st.wf hsx.st.wf)
  have HDr2_3 := Lib.hid (HDr2_2.out.ups hu SX2.out.st.wf hsx.st.wf)
  have HDr3_3 := Lib.hid (show Dg g3x r3 (fun m => !Ff m) from ⟨hd.1, fun m => (hd.2 m).trans (by simp only [HDf_2.out.2])⟩)
  have HSO3 := Lib.hid (HSO2.out.keep hkk rfl)
  clear hp hop hsx hu hd hkk HC3 HDf_2 HDg0_2 HDr1_2 HDr2_2 HSO2
  have HC4 := Lib.hid (not_any SX3.out.st (g0 : Int))
  rw [SX3.out.hs] at HC4
  go_wp2_with fail
  refine (HC4.out).mono ?_
  intro e w4x hp
  have hop := c_not SX3.out.st.wf (by rw [SX3.out.V]; exact HNV0.out) HDg0_3.out.1 hp
  obtain ⟨r4, o4x, g4x, rfl, hsx, hu, hd, hkk⟩ := SX3.out.op HNV0.out (by decide) hop
  have SX4 := Lib.hid hsx
  have HU4 := Lib.hid hu
  have HDf_4 := Lib.hid (HDf_3.out.ups hu SX3.out.st.wf hsx.st.wf)
  have HDg0_4 := Lib.hid (HDg0_3.out.ups hu SX3.out.st.wf hsx.st.wf)
  have HDr1_4 := Lib.hid (HDr1_3.out.ups hu SX3.out.st.wf hsx.st.wf)
  have HDr2_4 := Lib.hid (HDr2_3.out.ups hu SX3.out.st.wf hsx.st.wf)
  have HDr3_4 := Lib.hid (HDr3_3.out.ups hu SX3.out.st.wf hsx.st.wf)
  have HDr4_4 := Lib.hid (show Dg g4x r4 (fun m => !Fg m) from ⟨hd.1, fun m => (hd.2 m).trans (by simp only [HDg0_3.out.2])⟩)
  have HSO4 := Lib.hid (HSO3.out.keep hkk rfl)
  clear hp hop hsx hu hd hkk HC4 HDf_3 HDg0_3 HDr1_3 HDr2_3 HDr3_3 HSO3
  have HC5 := Lib.hid (or_any SX4.out.st (r3 : Int) (r4 : Int))
  rw [SX4.out.hs] at HC5
  go_wp2_with fail
  refine (HC5.out).mono ?_
  intro e w5x hp
  have hop := c_or SX4.out.st.wf (by rw [SX4.out.V]; exact HNV0.out) HDr3_4.out.1 HDr4_4.out.1 hp
  obtain ⟨r5, o5x, g5x, rfl, hsx, hu, hd, hkk⟩ := SX4.out.op HNV0.out (by decide) hop
  have SX5 := Lib.hid hsx
  have HU5 := Lib.hid hu
  have HDf_5 := Lib.hid (HDf_4.out.ups hu SX4.out.st.wf hsx.st.wf)
  have HDg0_5 := Lib.hid (HDg0_4.out.ups hu SX4.out.st.wf hsx.st.wf)
  have HDr1_5 := Lib.hid (HDr1_4.out.ups hu SX4.out.st.wf hsx.st.wf)
  have HDr2_5 := Lib.hid (HDr2_4.out.ups hu SX4.out.st.wf hsx.st.wf)
  have HDr3_5 := Lib.hid (HDr3_4.out.ups hu SX4.out.st.wf hsx.st.wf)
  have HDr4_5 := Lib.hid (HDr4_4.out.ups hu SX4.out.st.wf hsx.st.wf)
  have HDr5_5 := Lib.hid (show Dg g5x r5 (fun m => (!Ff m) || !Fg m) from ⟨hd.1, fun m => (hd.2 m).trans (by simp only [HDr3_4.out.2, HDr4_4.out.2])⟩)
  have HSO5 := Lib.hid (HSO4.out.keep hkk rfl)
  clear hp hop hsx hu hd hkk HC5 HDf_4 HDg0_4 HDr1_4 HDr2_4 HDr3_4 HDr4_4 HSO4
  have HC6 := Lib.hid (or_any SX5.out.st (f : Int) (g0 : Int))
  rw [SX5.out.hs] at HC6
  go_wp2_with fail
  refine (HC6.out).mono ?_
  intro e w6x hp
  have hop := c_or SX5.out.st.wf (by rw [SX5.out.V]; exact HNV0.out) HDf_5.out.1 HDg0_5.out.1 hp
  obtain ⟨r6, o6x, g6x, rfl, hsx, hu, hd, hkk⟩ := SX5.out.op HNV0.out (by decide) hop
  have SX6 := Lib.hid hsx
  have HU6 := Lib.hid hu
  have HDf_6 := Lib.hid (HDf_5.out.ups hu SX5.out.st.wf hsx.st.wf)
  have HDg0_6 := Lib.hid (HDg0_5.out.ups hu SX5.out.st.wf hsx.st.wf)
  have HDr1_6 := Lib.hid (HDr1_5.out.ups hu SX5.out.st.wf hsx.st.wf)
  have HDr2_6 := Lib.hid (HDr2_5.out.ups hu SX5.out.st.wf hsx.st.wf)
  have HDr3_6 := Lib.hid (HDr3_5.out.ups hu SX5.out.st.wf hsx.st.wf)
  have HDr4_6 := Lib.hid (HDr4_5.out.ups hu SX5.out.st.wf hsx.st.wf)
  have HDr5_6 := Lib.hid (HDr5_5.out.ups hu SX5.out.st.wf hsx.st.wf)
  have HDr6_6 := Lib.hid (show Dg g6x r6 (fun m => Ff m || Fg m) from ⟨hd.1, fun m => (hd.2 m).trans (by simp only [HDf_5.out.2, HDg0_5.out.2])⟩)
  have HSO6 := Lib.hid (HSO5.out.keep hkk rfl)
  clear hp hop hsx hu hd hkk HC6 HDf_5 HDg0_5 HDr1_5 HDr2_5 HDr3_5 HDr4_5 HDr5_5 HSO5
  have HC7 := Lib.hid (exists_any SX6.out.st (r6 : Int) HSO6.out.nums (by simp))
  rw [SX6.out.hs] at HC7
  have e7 : (.slice (some ⟨bs, 0, none⟩) 1 1 : Value) = .slice (some ⟨bs, 0, none⟩) 1 1 := rfl
  clear e7
  go_wp2_with fail
  refine (HC7.out).mono ?_
  intro e w7x hp
  have hop := c_exists (vs := [vi]) (by rw [SX6.out.V]; exact HNV0.out) HDr6_6.out.1 (by rw [SX6.out.V]; simp; exact HVI.out) hp
  obtain ⟨r7, o7x, g7x, rfl, hsx, hu, hd, hkk⟩ := SX6.out.op HNV0.out (by decide) hop
  have SX7 := Lib.hid hsx
  have HU7 := Lib.hid hu
  have HDf_7 := Lib.hid (HDf_6.out.ups hu SX6.out.st.wf hsx.st.wf)
  have HDg0_7 := Lib.hid (HDg0_6.out.ups hu SX6.out.st.wf hsx.st.wf)
  have HDr1_7 := Lib.hid (HDr1_6.out.ups hu SX6.out.st.wf hsx.st.wf)
  have HDr2_7 := Lib.hid (HDr2_6.out.ups hu SX6.out.st.wf hsx.st.wf)
  have HDr3_7 := Lib.hid (HDr3_6.out.ups hu SX6.out.st.wf hsx.st.wf)
  have HDr4_7 := Lib.hid (HDr4_6.out.ups hu SX6.out.st.wf hsx.st.wf)
  have HDr5_7 := Lib.hid (HDr5_6.out.ups hu SX6.out.st.wf hsx.st.wf)
  have HDr6_7 := Lib.hid (HDr6_6.out.ups hu SX6.out.st.wf hsx.st.wf)
  have HDr7_7 := Lib.hid (show Dg g7x r7 (ex1 (fun m => Ff m || Fg m) vi) from ⟨hd.1, fun m => (hd.2 m).trans (by show ex1 (ev _ _) vi m = _; rw [show ev _ _ = _ from funext HDr6_6.out.2])⟩)
  have HSO7 := Lib.hid (HSO6.out.keep hkk rfl)
  clear hp hop hsx hu hd hkk HC7 HDf_6 HDg0_6 HDr1_6 HDr2_6 HDr3_6 HDr4_6 HDr5_6 HDr6_6 HSO6
  have HC8 := Lib.hid (exists_any SX7.out.st (f : Int) HSO7.out.nums (by simp))
  rw [SX7.out.hs] at HC8
  have e8 : (.slice (some ⟨bs, 0, none⟩) 1 1 : Value) = .slice (some ⟨bs, 0, none⟩) 1 1 := rfl
  clear e8
  go_wp2_with fail
  refine (HC8.out).mono ?_
  intro e w8x hp
  have hop := c_exists (vs := [vi]) (by rw [SX7.out.V]; exact HNV0.out) HDf_7.out.1 (by rw [SX7.out.V]; simp; exact HVI.out) hp
  obtain ⟨r8, o8x, g8x, rfl, hsx, hu, hd, hkk⟩ := SX7.out.op HNV0.out (by decide) hop
  have SX8 := Lib.hid hsx
  have HU8 := Lib.hid hu
  have HDf_8 := Lib.hid (HDf_7.out.ups hu SX7.out.st.wf hsx.st.wf)
  have HDg0_8 := Lib.hid (HDg0_7.out.ups hu SX7.out.st.wf hsx.st.wf)
  have HDr1_8 := Lib.hid (HDr1_7.out.ups hu SX7.out.st.wf hsx.st.wf)
  have HDr2_8 := Lib.hid (HDr2_7.out.ups hu SX7.out.st.wf hsx.st.wf)
  have HDr3_8 := Lib.hid (HDr3_7.out.ups hu SX7.out.st.wf hsx.st.wf)
  have HDr4_8 := Lib.hid (HDr4_7.out.ups hu SX7.out.st.wf hsx.st.wf)
  have HDr5_8 := Lib.hid (HDr5_7.out.ups hu SX7.out.st.wf hsx.st.wf)
  have HDr6_8 := Lib.hid (HDr6_7.out.ups hu SX7.out.st.wf hsx.st.wf)
  have HDr7_8 := Lib.hid (HDr7_7.out.ups hu SX7.out.st.wf hsx.st.wf)
  have HDr8_8 := Lib.hid (show Dg g8x r8 (ex1 Ff vi) from ⟨hd.1, fun m => (hd.2 m).trans (by show ex1 (ev _ _) vi m = _; rw [show ev _ _ = _ from funext HDf_7.out.2])⟩)
  have HSO8 := Lib.hid (HSO7.out.keep hkk rfl)
  clear hp hop hsx hu hd hkk HC8 HDf_7 HDg0_7 HDr1_7 HDr2_7 HDr3_7 HDr4_7 HDr5_7 HDr6_7 HDr7_7 HSO7
  have HC9 := Lib.hid (exists_any SX8.out.st (g0 : Int) HSO8.out.nums (by simp))
  rw [SX8.out.hs] at HC9
  have e9 : (.slice (some ⟨bs, 0, none⟩) 1 1 : Value) = .slice (some ⟨bs, 0, none⟩) 1 1 := rfl
  clear e9
  go_wp2_with fail
  refine (HC9.out).mono ?_
  intro e w9x hp
  have hop := c_exists (vs := [vi]) (by rw [SX8.out.V]; exact HNV0.out) HDg0_8.out.1 (by rw [SX8.out.V]; simp; exact HVI.out) hp
  obtain ⟨r9, o9x, g9x, rfl, hsx, hu, hd, hkk⟩ := SX8.out.op HNV0.out (by decide) hop
  have SX9 := Lib.hid hsx
  have HU9 := Lib.hid hu
  have HDf_9 := Lib.hid (HDf_8.out.ups hu SX8.out.st.wf hsx.st.wf)
  have HDg0_9 := Lib.hid (HDg0_8.out.ups hu SX8.out.st.wf hsx.st.wf)
  have HDr1_9 := Lib.hid (HDr1_8.out.ups hu SX8.out.st.wf hsx.st.wf)
  have HDr2_9 := Lib.hid (HDr2_8.out.ups hu SX8.out.st.wf hsx.st.wf)
  have HDr3_9 := Lib.hid (HDr3_8.out.ups hu SX8.out.st.wf hsx.st.wf)
  have HDr4_9 := Lib.hid (HDr4_8.out.ups hu SX8.out.st.wf hsx.st.wf)
  have HDr5_9 := Lib.hid (HDr5_8.out.ups hu SX8.out.st.wf hsx.st.wf)
  have HDr6_9 := Lib.hid (HDr6_8.out.ups hu SX8.out.st.wf hsx.st.wf)
  have HDr7_9 := Lib.hid (HDr7_8.out.ups hu SX8.out.st.wf hsx.st.wf)
  have HDr8_9 := Lib.hid (HDr8_8.out.ups hu SX8.out.st.wf hsx.st.wf)
  have HDr9_9 := Lib.hid (show Dg g9x r9 (ex1 Fg vi) from ⟨hd.1, fun m => (hd.2 m).trans (by show ex1 (ev _ _) vi m = _; rw [show ev _ _ = _ from funext HDg0_8.out.2])⟩)
  have HSO9 := Lib.hid (HSO8.out.keep hkk rfl)
  clear hp hop hsx hu hd hkk HC9 HDf_8 HDg0_8 HDr1_8 HDr2_8 HDr3_8 HDr4_8 HDr5_8 HDr6_8 HDr7_8 HDr8_8 HSO8
  have HC10 := Lib.hid (or_any SX9.out.st (r8 : Int) (r9 : Int))
  rw [SX9.out.hs] at HC10
  go_wp2_with fail
  refine (HC10.out).mono ?_
  intro e w10x hp
  have hop := c_or SX9.out.st.wf (by rw [SX9.out.V]; exact HNV0.out) HDr8_9.out.1 HDr9_9.out.1 hp
  obtain ⟨r10, o10x, g10x, rfl, hsx, hu, hd, hkk⟩ := SX9.out.op HNV0.out (by decide) hop
  have SX10 := Lib.hid hsx
  have HU10 := Lib.hid hu
  have HDf_10 := Lib.hid (HDf_9.out.ups hu SX9.out.st.wf hsx.st.wf)
  have HDg0_10 := Lib.hid (HDg0_9.out.ups hu SX9.out.st.wf hsx.st.wf)
  have HDr1_10 := Lib.hid (HDr1_9.out.ups hu SX9.out.st.wf hsx.st.wf)
  have HDr2_10 := Lib.hid (HDr2_9.out.ups hu SX9.out.st.wf hsx.st.wf)
  have HDr3_10 := Lib.hid (HDr3_9.out.ups hu SX9.out.st.wf hsx.st.wf)
  have HDr4_10 := Lib.hid (HDr4_9.out.ups hu SX9.out.st.wf hsx.st.wf)
  have HDr5_10 := Lib.hid (HDr5_9.out.ups hu SX9.out.st.wf hsx.st.wf)
  have HDr6_10 := Lib.hid (HDr6_9.out.ups hu SX9.out.st.wf hsx.st.wf)
  have HDr7_10 := Lib.hid (HDr7_9.out.ups hu SX9.out.st.wf hsx.st.wf)
  have HDr8_10 := Lib.hid (HDr8_9.out.ups hu SX9.out.st.wf hsx.st.wf)
  have HDr9_10 := Lib.hid (HDr9_9.out.ups hu SX9.out.st.wf hsx.st.wf)
  have HDr10_10 := Lib.hid (show Dg g10x r10 (fun m => ex1 Ff vi m || ex1 Fg vi m) from ⟨hd.1, fun m => (hd.2 m).trans (by simp only [HDr8_9.out.2, HDr9_9.out.2])⟩)
  have HSO10 := Lib.hid (HSO9.out.keep hkk rfl)
  clear hp hop hsx hu hd hkk HC10 HDf_9 HDg0_9 HDr1_9 HDr2_9 HDr3_9 HDr4_9 HDr5_9 HDr6_9 HDr7_9 HDr8_9 HDr9_9 HSO9
  have HC11 := Lib.hid (iff_any SX10.out.st (f : Int) (g0 : Int))
  rw [SX10.out.hs] at HC11
  go_wp2_with fail
  refine (HC11.out).mono ?_
  intro e w11x hp
  have hop := c_iff (by rw [SX10.out.V]; exact HNV0.out) HDf_10.out.1 HDg0_10.out.1 hp
  obtain ⟨r11, o11x, g11x, rfl, hsx, hu, hd, hkk⟩ := SX10.out.op HNV0.out (by decide) hop
  have SX11 := Lib.hid hsx
  have HU11 := Lib.hid hu
  have HDf_11 := Lib.hid (HDf_10.out.ups hu SX10.out.st.wf hsx.st.wf)
  have HDg0_11 := Lib.hid (HDg0_10.out.ups hu SX10.out.st.wf hsx.st.wf)
  have HDr1_11 := Lib.hid (HDr1_10.out.ups hu SX10.out.st.wf hsx.st.wf)
  have HDr2_11 := Lib.hid (HDr2_10.out.ups hu SX10.out.st.wf hsx.st.wf)
  have HDr3_11 := Lib.hid (HDr3_10.out.ups hu SX10.out.st.wf hsx.st.wf)
  have HDr4_11 := Lib.hid (HDr4_10.out.ups hu SX10.out.st.wf hsx.st.wf)
  have HDr5_11 := Lib.hid (HDr5_10.out.ups hu SX10.out.st.wf hsx.st.wf)
  have HDr6_11 := Lib.hid (HDr6_10.out.ups hu SX10.out.st.wf hsx.st.wf)
  have HDr7_11 := Lib.hid (HDr7_10.out.ups hu SX10.out.st.wf hsx.st.wf)
  have HDr8_11 := Lib.hid (HDr8_10.out.ups hu SX10.out.st.wf hsx.st.wf)
  have HDr9_11 := Lib.hid (HDr9_10.out.ups hu SX10.out.st.wf hsx.st.wf)
  have HDr10_11 := Lib.hid (HDr10_10.out.ups hu SX10.out.st.wf hsx.st.wf)
  have HDr11_11 := Lib.hid (show Dg g11x r11 (fun m => Ff m == Fg m) from ⟨hd.1, fun m => (hd.2 m).trans (by simp only [HDf_10.out.2, HDg0_10.out.2])⟩)
  have HSO11 := Lib.hid (HSO10.out.keep hkk rfl)
  clear hp hop hsx hu hd hkk HC11 HDf_10 HDg0_10 HDr1_10 HDr2_10 HDr3_10 HDr4_10 HDr5_10 HDr6_10 HDr7_10 HDr8_10 HDr9_10 HDr10_10 HSO10
  have hw := SX11.out.st.wf
  have e1 : ((r2 : Int) == (r5 : Int)) = true := by
    have := Dg.same hw HDr2_11.out HDr5_11.out fun m => by cases Ff m <;> cases Fg m <;> rfl
    rw [this]; simp
  have e2 : ((r7 : Int) == (r10 : Int)) = true := by
    have := Dg.same hw HDr7_11.out HDr10_11.out fun m => ex1_or Ff Fg vi m
    rw [this]; simp
  have hfg : r11 = 1 ↔ f = g0 := by
    constructor
    · intro e
      refine Dg.same hw HDf_11.out HDg0_11.out fun m => ?_
      have := HDr11_11.out.2 m
      rw [e, ev1] at this
      simpa using this.symm
    · intro e
      refine Dg.same (F' := fun _ => true) hw HDr11_11.out ⟨by have := hw.two; omega, fun m => ev1 m⟩ fun m => ?_
      have h1 := HDf_11.out.2 m
      have h2 := HDg0_11.out.2 m
      rw [e] at h1
      have : Ff m = Fg m := h1.symm.trans h2
      simp [this]
  obtain ⟨d, hd⟩ : ∃ d, decide (f = g0) = d := ⟨_, rfl⟩
  have e3 : ((r11 : Int) == 1) = d := by
    rw [← hd]
    by_cases e : f = g0
    · rw [decide_eq_true e, hfg.2 e]; rfl
    · rw [decide_eq_false e]
      have : r11 ≠ 1 := fun h => e (hfg.1 h)
      simp; omega
  have e4 : ((f : Int) == (g0 : Int)) = d := by
    rw [← hd]
    by_cases e : f = g0
    · rw [decide_eq_true e, e]; simp
    · rw [decide_eq_false e]; simp; omega
  have e5 : (d == d) = true := by cases d <;> rfl
  have HFIN := Lib.hid (show W.grownBy w11x none from grown_trans HG0.out SX11.out.kp.none)
  clear hw hfg hd
  go_wp2
  go_ret
  exact ⟨rfl, HFIN.out⟩

end Go.Proofs.Ytailpphafoamfaa
