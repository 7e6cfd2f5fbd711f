/- Counting. The counter. In how many ways a diagram is true: the method. Which nodes a walk meets, and in which order. Going through a diagram. Going through a diagram: the method. The size of a diagram. -/
import Derived.Test.YtailpphafoamfaaPzaj
set_option linter.all false
namespace Go.Proofs.Ytailpphafoamfaa
open Go Go.RowKit Go.Maps


def UM : Nat := 18446744073709551616
theorem wrap_nat (n : Nat) : IntKind.u64.wrap (n : Int) = ((n % UM : Nat) : Int) := by
  unfold UM
  show Int.emod (n : Int) _ = _
  rfl
theorem shl_mod (x sk : Nat) : (x % UM * 2 ^ min sk 64) % UM = (x * 2 ^ sk) % UM := by
  by_cases h : sk ≤ 64
  · rw [Nat.min_eq_left h, Nat.mod_mul_mod]
  · rw [Nat.min_eq_right (by omega)]
    have e : 2 ^ sk = 2 ^ 64 * 2 ^ (sk - 64) := by rw [← Nat.pow_add]; congr 1; omega
    rw [e, ← Nat.mul_assoc, Nat.mul_comm x, Nat.mul_assoc (2 ^ 64), show (2 ^ 64 : Nat) = UM from rfl]
    simp [Nat.mul_mod_right, Nat.mul_mod_left]
theorem shlv_mod (x sk : Nat) : IntKind.u64.wrap (((x % UM : Nat) : Int) * 2 ^ min sk 64) = (((x * 2 ^ sk) % UM : Nat) : Int) := by
  rw [show (((x % UM : Nat) : Int) * 2 ^ min sk 64) = ((x % UM * 2 ^ min sk 64 : Nat) : Int) by simp, wrap_nat, shl_mod]
theorem sum_mod (s x sk : Nat) : IntKind.u64.wrap (((s % UM : Nat) : Int) + IntKind.u64.wrap (((x % UM : Nat) : Int) * 2 ^ min sk 64)) = (((s + x * 2 ^ sk) % UM : Nat) : Int) := by
  rw [shlv_mod, show (((s % UM : Nat) : Int) + ((x * 2 ^ sk % UM : Nat) : Int)) = ((s % UM + x * 2 ^ sk % UM : Nat) : Int) by simp, wrap_nat, ← Nat.add_mod]
structure CEnv where
  bm : Nat
  bs : Nat
  bc : Nat
  bd : Nat
def cntV (E : CEnv) : Value := .func (.func 56) #[] #[.pointer (some ⟨E.bm, 0, none⟩), .pointer (some ⟨E.bs, 0, none⟩), .pointer (some ⟨E.bc, 0, none⟩)]
structure CntAt (w : World) (o : Nat → Nat) (g : SG) (E : CEnv) (mp : Value → Option Value) : Prop where
  cm : w.cell? ⟨E.bm, 0, none⟩ = some (.map (some E.bd))
  cs : w.cell? ⟨E.bs, 0, none⟩ = some (.pointer (some ⟨g.s, 0, none⟩))
  cc : w.cell? ⟨E.bc, 0, none⟩ = some (cntV E)
  om : o E.bm = 0
  os : o E.bs = 0
  oc : o E.bc = 0
  od : o E.bd = 8
  map : MapIs 21 w E.bd mp
structure CDone (g : SG) (mp : Value → Option Value) : Prop where
  z : mp (.int .i32 0) = some (.int .u64 0)
  o : mp (.int .i32 1) = some (.int .u64 1)
  al : ∀ v x, mp v = some x → ∃ k : Nat, v = .int .i32 (k : Int) ∧ x = .int .u64 ((cN g.ns k % UM : Nat) : Int)
section
variable {M : List Nd} {w w' w2 : World} {o o' o2 : Nat → Nat} {g : SG} {E : CEnv} {mp mp' : Value → Option Value}
theorem CntAt.keep {T : Nat → Bool} (h : CntAt w o g E mp) (k : Keep T w o w' o') (t0 : T 0 = false) (t8 : T 8 = false) : CntAt w' o' g E mp :=
  ⟨(k.box h.cm h.om t0).1, (k.box h.cs h.os t0).1, (k.box h.cc h.oc t0).1, (k.box h.cm h.om t0).2, (k.box h.cs h.os t0).2, (k.box h.cc h.oc t0).2, (k.own _ h.map.lt).trans h.od, h.map.move (k.blk _ h.map.lt (by rw [h.od]; exact t8))⟩
def CntPost (w : World) (o : Nat → Nat) (g : SG) (E : CEnv) (n : Nat) (e : Ending) (w' : World) : Prop :=
  e = .returned (.int .u64 ((cN g.ns n % UM : Nat) : Int)) ∧ ∃ mp', CntAt w' o g E mp' ∧ CDone g mp' ∧ Keep (· == 8) w o w' o
def CntC (g : SG) (E : CEnv) (n : Nat) : Prop := ∀ (M : List Nd) (w : World) (o : Nat → Nat) (mp : Value → Option Value), StoreM M w o g → CntAt w o g E mp → CDone g mp → n < g.ns.length →
  Calls Try.prog 56 #[.int .i32 (n : Int), .pointer (some ⟨E.bm, 0, none⟩), .pointer (some ⟨E.bs, 0, none⟩), .pointer (some ⟨E.bc, 0, none⟩)] w (CntPost w o g E n)
theorem z38 (w : World) : (zeroValue 38).run Try.prog w = .ok (.int .u64 0) w := by kernel_rfl
theorem StoreM.keep8 (h : StoreM M w o g) (k : Keep (· == 8) w o w' o) : StoreM M w' o g := h.keep k ⟨rfl, rfl, rfl⟩ (fun b hb => h.new b (Nat.le_trans k.size hb))
set_option maxHeartbeats 8000000 in
set_option maxRecDepth 100000 in
theorem cnt_hit {n : Nat} (h : StoreM M w o g) (ha : CntAt w o g E mp) (hd : CDone g mp) (hn : n < g.ns.length) (hx : (mp (.int .i32 (n : Int))).isSome = true) : Calls Try.prog 56 #[.int .i32 (n : Int), .pointer (some ⟨E.bm, 0, none⟩), .pointer (some ⟨E.bs, 0, none⟩), .pointer (some ⟨E.bc, 0, none⟩)] w (CntPost w o g E n) := by
  have hbd := h.bd
  have hlk := ha.map.look K21 Try.underlying104 (z38 _) (isK21 (x := (n : Int)) (by omega))
  obtain ⟨x, hxx⟩ := Option.isSome_iff_exists.1 hx
  rw [hxx] at hlk
  simp only [Option.getD_some, Option.isSome_some] at hlk
  obtain ⟨k, e1, rfl⟩ := hd.al _ _ hxx
  have e2 : n = k := by simp at e1; omega
  subst e2
  have HR := Lib.hid (show CntPost w o g E n (.returned (.int .u64 ((cN g.ns n % UM : Nat) : Int))) w from ⟨rfl, mp, ha, hd, Keep.refl _ _ _⟩)
  have cm := ha.cm
  obtain ⟨y, hy⟩ : ∃ y : Int, ((cN g.ns n % UM : Nat) : Int) = y := ⟨_, rfl⟩
  rw [hy] at hlk HR
  clear h ha hd hn hx hxx e1 hy hbd
  go_enter Try.func56, Try.ntmps56
  go_wp2
  go_ret
  exact HR.out
/-- What has been added up to the child number k. -/
def sumK (g : SG) (n : Nd) : Nat → Nat
  | 0 => 0
  | 1 => cN g.ns n.a * 2 ^ (ask g.ns n.a - n.v - 1)
  | _ => cN g.ns n.a * 2 ^ (ask g.ns n.a - n.v - 1) + cN g.ns n.b * 2 ^ (ask g.ns n.b - n.v - 1)
structure CLoop (w wr : World) (o : Nat → Nat) (g : SG) (E : CEnv) (mp : Value → Option Value) : Prop where
  at_ : CntAt wr o g E mp
  dn : CDone g mp
  keep : Keep (· == 8) w o wr o
theorem cnt_end {n : Nat} {w9 : World} (ha : CntAt w' o g E mp) (hd : CDone g mp) (hk : Keep (· == 8) w o w' o) (hm : MapIs 21 w9 E.bd (updV mp (.int .i32 (n : Int)) (.int .u64 ((cN g.ns n % UM : Nat) : Int)))) (hg : w'.grownBy w9 (some E.bd)) : CntPost w o g E n (.returned (.int .u64 ((cN g.ns n % UM : Nat) : Int))) w9 := by
  have k9 : Keep (· == 8) w' o w9 o := Keep.grown hg (fun k hk => by cases hk; rw [ha.od]; rfl) (fun _ _ => rfl)
  refine ⟨rfl, _, ⟨(k9.box ha.cm ha.om rfl).1, (k9.box ha.cs ha.os rfl).1, (k9.box ha.cc ha.oc rfl).1, ha.om, ha.os, ha.oc, ha.od, hm⟩, ⟨?_, ?_, ?_⟩, hk.trans k9⟩
  · by_cases e : (.int .i32 0 : Value) = .int .i32 (n : Int)
    · have : n = 0 := by simp at e; omega
      subst this
      rw [e, updV_same, cN_end (by omega)]; rfl
    · rw [updV_other _ _ e]; exact hd.z
  · by_cases e : (.int .i32 1 : Value) = .int .i32 (n : Int)
    · have : n = 1 := by simp at e; omega
      subst this
      rw [e, updV_same, cN_end (by omega)]; rfl
    · rw [updV_other _ _ e]; exact hd.o
  · intro v x hv
    by_cases e : v = .int .i32 (n : Int)
    · rw [e, updV_same] at hv
      cases hv
      exact ⟨n, e, rfl⟩
    · rw [updV_other _ _ e] at hv
      exact hd.al v x hv
set_option maxHeartbeats 8000000 in
set_option maxRecDepth 100000 in
theorem cnt_miss {n : Nat} (IH : ∀ k, k < n → CntC g E k) (h : StoreM M w o g) (ha : CntAt w o g E mp) (hd : CDone g mp) (hn : n < g.ns.length) (hx : mp (.int .i32 (n : Int)) = none) : Calls Try.prog 56 #[.int .i32 (n : Int), .pointer (some ⟨E.bm, 0, none⟩), .pointer (some ⟨E.bs, 0, none⟩), .pointer (some ⟨E.bc, 0, none⟩)] w (CntPost w o g E n) := by
  have hbd := h.bd
  have h2 : 2 ≤ n := by
    apply Classical.byContradiction
    intro hc
    rcases (by omega : n = 0 ∨ n = 1) with rfl | rfl
    · rw [show ((0 : Nat) : Int) = 0 from rfl, hd.z] at hx; cases hx
    · rw [show ((1 : Nat) : Int) = 1 from rfl, hd.o] at hx; cases hx
  have HISK := Lib.hid (isK21 (x := (n : Int)) (by omega))
  have hlk := ha.map.look K21 Try.underlying104 (z38 _) HISK.out
  rw [hx] at hlk
  simp only [Option.getD_none, Option.isSome_none] at hlk
  obtain ⟨nd, hnd⟩ := get_lt hn
  obtain ⟨gx, c, hvv, k0, k1, k2, hxl⟩ := row_node h.row hnd
  have s2 := h.cell2
  rw [hvv] at s2
  have cm := ha.cm
  have cs := ha.cs
  have HH := Lib.hid h
  have HA := Lib.hid ha
  have HD := Lib.hid hd
  have HIH := Lib.hid IH
  have HND := Lib.hid (h.wf.nd n nd h2 hnd)
  have HN := Lib.hid (show n < g.ns.length ∧ 2 ≤ n ∧ g.ns[n]? = some nd from ⟨hn, h2, hnd⟩)
  have q2 : (n : Int) < (g.ns.length : Int) := by omega
  have HV := Lib.hid hvv
  clear h ha hd hx h2 hnd hvv IH hn hbd
  go_enter Try.func56, Try.ntmps56
  go_wp2
  obtain ⟨wa, hwa⟩ : ∃ wa, (w.alloc (.cells #[.int .i32 (nd.v : Int), .int .i32 (nd.a : Int), .int .i32 (nd.b : Int)] 63)).alloc (.cells #[.int .i32 (nd.a : Int), .int .i32 (nd.b : Int)] 21) = wa := ⟨_, rfl⟩
  have hY : wa.heap[w.heap.size]? = some (.cells #[.int .i32 (nd.v : Int), .int .i32 (nd.a : Int), .int .i32 (nd.b : Int)] 63 (0, 0)) := by
    rw [← hwa, heap_alloc_old (by simp)]
    exact (MapKept.heap_alloc w _).1
  have hZ : wa.heap[w.heap.size + 1]? = some (.cells #[.int .i32 (nd.a : Int), .int .i32 (nd.b : Int)] 21 (0, 0)) := by
    have := (MapKept.heap_alloc (w.alloc (.cells #[.int .i32 (nd.v : Int), .int .i32 (nd.a : Int), .int .i32 (nd.b : Int)] 63)) (.cells #[.int .i32 (nd.a : Int), .int .i32 (nd.b : Int)] 21)).1
    have e : (w.alloc (.cells #[.int .i32 (nd.v : Int), .int .i32 (nd.a : Int), .int .i32 (nd.b : Int)] 63)).heap.size = w.heap.size + 1 := by simp
    rw [e, hwa] at this
    exact this
  have HGA := Lib.hid (show w.grownBy wa none from by rw [← hwa]; exact grown_trans (grown_alloc _ _) (grown_alloc _ _))
  try rw [hwa]
  have hgx := grown_far HGA.out hxl
  obtain ⟨N, hN⟩ : ∃ N, w.heap.size = N := ⟨_, rfl⟩
  have HON := Lib.hid (show o N = 0 ∧ o (N + 1) = 0 from ⟨HH.out.new N (by omega), HH.out.new (N + 1) (by omega)⟩)
  rw [hN] at hY hZ ⊢
  obtain ⟨N1, hN1⟩ : ∃ N1, N + 1 = N1 := ⟨_, rfl⟩
  rw [hN1] at hZ HON ⊢
  have HY := Lib.hid hY
  have HZ := Lib.hid hZ
  have HL0 := Lib.hid (show CLoop w wa o g E mp from ⟨HA.out.keep (keep_none (fun _ => false) o HGA.out) rfl rfl, HD.out, keep_none _ o HGA.out⟩)
  clear hwa hY hZ hN hN1 k0 k1 k2 hxl s2 cm cs hlk hgx
  have HKA := Lib.hid (show Keep (· == 8) w o wa o from keep_none _ o HGA.out)
  go_loopw [9, 34] (fun v i wr => ∃ (k : Nat) (mp : Value → Option Value), i = .int .i64 (k : Int) ∧ k ≤ 2 ∧ v = .int .u64 ((sumK g nd k % UM : Nat) : Int) ∧ Hid (CLoop w wr o g E mp ∧ Keep (· == 8) wa o wr o)) (fun _ i _ => 2 - (intOf i).toNat)
  case atStart => exact ⟨0, mp, rfl, by omega, rfl, Lib.hid ⟨HL0.out, Keep.refl _ _ _⟩⟩
  case round =>
    obtain ⟨k, mp2, rfl, hk, rfl, hL⟩ := hrel
    have HL := hL
    have cm := HL.out.1.at_.cm
    have cs := HL.out.1.at_.cs
    have cc := HL.out.1.at_.cc
    have yN : wr.heap[N]? = _ := (HL.out.2.blk N (Array.getElem?_eq_some_iff.1 HY.out).1 (by rw [HON.out.1]; rfl)).trans HY.out
    have zN : wr.heap[N1]? = _ := (HL.out.2.blk N1 (Array.getElem?_eq_some_iff.1 HZ.out).1 (by rw [HON.out.2]; rfl)).trans HZ.out
    have hst := HH.out.keep8 HL.out.1.keep
    by_cases hlt : k < 2
    · obtain ⟨ch, hch⟩ : ∃ ch, (if k = 0 then nd.a else nd.b) = ch := ⟨_, rfl⟩
      have hchl : ch < n := by rw [← hch]; have := HND.out; split <;> omega
      have cch : wr.cell? ⟨N1, k, none⟩ = some (.int .i32 (ch : Int)) := by
        rw [cell_of zN, ← hch]
        rcases (by omega : k = 0 ∨ k = 1) with rfl | rfl <;> rfl
      obtain ⟨y0, y1, y2⟩ := box_cells yN
      have hcn := Nat.lt_trans hchl HN.out.1
      obtain ⟨nc, hnc⟩ := get_lt hcn
      obtain ⟨gx', c', hvv', j0, j1, j2, hx'⟩ := row_node hst.row hnc
      have s2 := hst.cell2
      rw [hvv'] at s2
      have hask := ask_at hnc
      have hal : ask g.ns ch ≤ g.V := HH.out.wf.ask_le hcn
      have hlo : nd.v < ask g.ns ch := by rw [← hch]; have := HND.out; split <;> omega
      have hVV := HH.out.bd.1
      obtain ⟨sk, hsk⟩ : ∃ sk, ask g.ns ch - nd.v - 1 = sk := ⟨_, rfl⟩
      have QS1 := Lib.hid (show IntKind.i32.wrap ((nc.v : Int) - (nd.v : Int)) = ((nc.v - nd.v : Nat) : Int) from (IntWalk.i32_in _ (by omega)).trans (by omega))
      have QS2 := Lib.hid (show IntKind.i32.wrap (((nc.v - nd.v : Nat) : Int) - 1) = (sk : Int) from (IntWalk.i32_in _ (by omega)).trans (by omega))
      obtain ⟨df, hdf⟩ : ∃ df, nc.v - nd.v = df := ⟨_, rfl⟩
      rw [hdf] at QS1 QS2
      have q1 : (k : Int) < 2 := by omega
      have qk : 0 ≤ (k : Int) := by omega
      have q3 : (ch : Int) < (g.ns.length : Int) := by omega
      have HSK := Lib.hid (show sk ≤ 256 ∧ ask g.ns ch - nd.v - 1 = sk ∧ (if k = 0 then nd.a else nd.b) = ch ∧ k < 2 from ⟨by omega, hsk, hch, hlt⟩)
      have HIC := Lib.hid (fun w5 mp5 (h5 : CntAt w5 o g E mp5) (hd5 : CDone g mp5) (hs5 : StoreM M w5 o g) => HIH.out ch hchl M w5 o mp5 hs5 h5 hd5 hcn)
      have HST := Lib.hid hst
      clear hch hchl hcn hnc hvv' hask hal hlo hVV hsk hdf hst hlt hk hL yN zN hx' j1 j2
      go_wp2
      refine wp_region_T (S := fun w' => ∀ k ∈ [E.bs, g.s, gx', N], w'.heap[k]? = wr.heap[k]?) (tail := fun _ => false) (by kernel_rfl) ?_
      change wpAnyT _ _ _ _ _ _ _ _ _ (World.drew wr)
      have BD := Lib.hid (show ∀ k ∈ [E.bs, g.s, gx', N], (World.drew wr).heap[k]? = wr.heap[k]? from fun _ _ => rfl)
      refine tk 0 38 (.pointer (some ⟨g.s, 0, none⟩)) BD.out ?y0 ?_
      case y0 =>
        intro w' hw'
        have y0 := (World.cell?_of_block (a := ⟨E.bs, 0, none⟩) (hw' _ (by simp))).trans cs
        go_simp
      try simp only [Act.put, List.setIfInBounds_toArray, List.set_cons_zero, List.set_cons_succ]
      refine tk 1 39 (.pointer (some ⟨g.s, 0, none⟩)) BD.out ?y1 ?_
      case y1 =>
        intro w' hw'
        go_simp
      try simp only [Act.put, List.setIfInBounds_toArray, List.set_cons_zero, List.set_cons_succ]
      refine tk 2 40 (.pointer (some ⟨g.s, 2, none⟩)) BD.out ?y2 ?_
      case y2 =>
        intro w' hw'
        go_simp
      try simp only [Act.put, List.setIfInBounds_toArray, List.set_cons_zero, List.set_cons_succ]
      refine tk 3 41 (.slice (some ⟨gx', 0, none⟩) g.ns.length c') BD.out ?y3 ?_
      case y3 =>
        intro w' hw'
        have y0 := (World.cell?_of_block (a := ⟨g.s, 2, none⟩) (hw' _ (by simp))).trans s2
        go_simp
      try simp only [Act.put, List.setIfInBounds_toArray, List.set_cons_zero, List.set_cons_succ]
      refine tk 4 42 (.int .i32 (ch : Int)) BD.out ?y4 ?_
      case y4 =>
        intro w' hw'
        go_simp
      try simp only [Act.put, List.setIfInBounds_toArray, List.set_cons_zero, List.set_cons_succ]
      refine tk 5 43 (.pointer (some ⟨gx', ch * 3, none⟩)) BD.out ?y5 ?_
      case y5 =>
        intro w' hw'
        go_simp
      try simp only [Act.put, List.setIfInBounds_toArray, List.set_cons_zero, List.set_cons_succ]
      refine tk 6 44 (.pointer (some ⟨gx', ch * 3, none⟩)) BD.out ?y6 ?_
      case y6 =>
        intro w' hw'
        go_simp
      try simp only [Act.put, List.setIfInBounds_toArray, List.set_cons_zero, List.set_cons_succ]
      refine tk 7 45 (.int .i32 (nc.v : Int)) BD.out ?y7 ?_
      case y7 =>
        intro w' hw'
        have z0 := (World.cell?_of_block (a := ⟨gx', ch * 3, none⟩) (hw' gx' (by simp))).trans j0
        go_simp
      try simp only [Act.put, List.setIfInBounds_toArray, List.set_cons_zero, List.set_cons_succ]
      refine tk 8 46 (.pointer (some ⟨N, 0, none⟩)) BD.out ?y8 ?_
      case y8 =>
        intro w' hw'
        go_simp
      try simp only [Act.put, List.setIfInBounds_toArray, List.set_cons_zero, List.set_cons_succ]
      refine tk 9 47 (.int .i32 (nd.v : Int)) BD.out ?y9 ?_
      case y9 =>
        intro w' hw'
        have y0 := (World.cell?_of_block (a := ⟨N, 0, none⟩) (hw' _ (by simp))).trans y0
        go_simp
      try simp only [Act.put, List.setIfInBounds_toArray, List.set_cons_zero, List.set_cons_succ]
      refine tk 10 48 (.int .i32 (df : Int)) BD.out ?y10 ?_
      case y10 =>
        intro w' hw'
        go_simp
        exact QS1.out
      try simp only [Act.put, List.setIfInBounds_toArray, List.set_cons_zero, List.set_cons_succ]
      refine tk 11 49 (.int .i32 (sk : Int)) BD.out ?y11 ?_
      case y11 =>
        intro w' hw'
        go_simp
        exact QS2.out
      try simp only [Act.put, List.setIfInBounds_toArray, List.set_cons_zero, List.set_cons_succ]
      refine tk 12 12 (.int .i32 (sk : Int)) BD.out ?y12 ?_
      case y12 =>
        intro w' hw'
        go_simp
      try simp only [Act.put, List.setIfInBounds_toArray, List.set_cons_zero, List.set_cons_succ]
      refine dn ?_
      unfold cntV at cc
      go_wp2_with fail
      refine (HIC.out (World.drew wr) mp2 (HL.out.1.at_.keep (keep_drew (fun _ => false) wr o) rfl rfl) HL.out.1.dn HST.out.drew).mono ?_
      rintro e w5 ⟨rfl, mp5, ha5, hd5, hk5⟩
      have H5 := Lib.hid (show CLoop w w5 o g E mp5 ∧ Keep (· == 8) wa o w5 o from ⟨⟨ha5, hd5, HL.out.1.keep.trans ((keep_drew _ wr o).trans hk5)⟩, HL.out.2.trans ((keep_drew _ wr o).trans hk5)⟩)
      obtain ⟨x, hx⟩ : ∃ x, cN g.ns ch % UM = x := ⟨_, rfl⟩
      obtain ⟨sm, hsm⟩ : ∃ sm, sumK g nd k % UM = sm := ⟨_, rfl⟩
      rw [hx, hsm]
      clear ha5 hd5 hk5
      go_wp2
      have hs1 : sumK g nd (k + 1) = sumK g nd k + cN g.ns ch * 2 ^ sk := by
        obtain ⟨-, e1, e2, e3⟩ := HSK.out
        rw [← e1, ← e2]
        rcases (by omega : k = 0 ∨ k = 1) with rfl | rfl
        · simp [sumK]
        · simp [sumK]
      refine ⟨⟨k + 1, mp5, by simp, by have := HSK.out; omega, ?_, H5⟩, ?_⟩
      · rw [hs1, ← sum_mod, hx, hsm]
      · have := HSK.out
        simp only [intOf]
        omega
    · have e2 : k = 2 := by omega
      subst e2
      have hsum : sumK g nd 2 = cN g.ns n := by rw [HH.out.wf.cN_node HN.out.2.1 HN.out.2.2]; rfl
      rw [hsum]
      obtain ⟨w9, hrun, hm9, ht9⟩ := HL.out.1.at_.map.store K21 Try.underlying104 HISK.out (.int .u64 ((cN g.ns n % UM : Nat) : Int))
      have HR := Lib.hid (cnt_end HL.out.1.at_ HL.out.1.dn HL.out.1.keep hm9 ht9.grown)
      obtain ⟨y, hy⟩ : ∃ y : Int, ((cN g.ns n % UM : Nat) : Int) = y := ⟨_, rfl⟩
      rw [hy] at hrun HR ⊢
      have q1 : ¬ ((2 : Nat) : Int) < 2 := by omega
      have HST := Lib.hid hst
      clear hst hm9 ht9 hlt hk hL yN zN hsum hy
      go_wp2
      go_ret
      exact HR.out
theorem cnt_any : ∀ n, CntC g E n := by
  intro n
  induction n using Nat.strongRecOn with
  | ind n ih =>
    intro M w o mp h ha hd hn
    cases hx : mp (.int .i32 (n : Int)) with
    | none => exact cnt_miss ih h ha hd hn hx
    | some z => exact cnt_hit h ha hd hn (by rw [hx]; rfl)
end

end Go.Proofs.Ytailpphafoamfaa
namespace Go.Proofs.Ytailpphafoamfaa
open Go Go.RowKit Go.Maps


section
variable {M : List Nd} {w w' w2 : World} {o o' o2 : Nat → Nat} {g : SG} {E : CEnv} {mp mp' : Value → Option Value}
noncomputable def mq01 : Value → Option Value := updV (updV (fun _ => none) (.int .i32 0) (.int .u64 0)) (.int .i32 1) (.int .u64 1)
theorem cdone_start : CDone g mq01 := by
  refine ⟨?_, updV_same _ _ _, fun v x hv => ?_⟩
  · unfold mq01
    rw [updV_other _ _ (by simp), updV_same]
  · unfold mq01 at hv
    by_cases e1 : v = .int .i32 1
    · rw [e1, updV_same] at hv
      cases hv
      exact ⟨1, e1, by rw [cN_end (by omega)]; rfl⟩
    · rw [updV_other _ _ e1] at hv
      by_cases e0 : v = .int .i32 0
      · rw [e0, updV_same] at hv
        cases hv
        exact ⟨0, e0, by rw [cN_end (by omega)]; rfl⟩
      · rw [updV_other _ _ e0] at hv
        cases hv
def CounterPost (M : List Nd) (w : World) (o : Nat → Nat) (g : SG) (e : Ending) (w' : World) : Prop :=
  ∃ E o', e = .returned (cntV E) ∧ StoreM M w' o' g ∧ CntAt w' o' g E mq01 ∧ Keep (fun _ => false) w o w' o'
theorem counter_new (hs : StoreM M w o g) (x : Value) {w3 w5 : World} (hw3 : w3 = (w.alloc (.cells #[.pointer (some ⟨g.s, 0, none⟩)] 23)).alloc (.map #[] 0)) (hg : w3.grownBy w5 (some (w.heap.size + 1))) (hz : w5.heap.size = w3.heap.size) (hm : MapIs 21 w5 (w.heap.size + 1) mq01)
    (hx : x = cntV ⟨w5.heap.size, w.heap.size, w5.heap.size + 1, w.heap.size + 1⟩) : CounterPost M w o g (.returned x) ((w5.alloc (.cells #[.map (some (w.heap.size + 1))] 104)).alloc (.cells #[x] 87)) := by
  have e3 : w3.heap.size = w.heap.size + 2 := by rw [hw3]; simp
  have s1 : ∀ (w : World) (x : Obj), (w.alloc x).heap = w.heap.push x := fun _ _ => rfl
  have h0 : w3.heap[w.heap.size]? = some (.cells #[.pointer (some ⟨g.s, 0, none⟩)] 23 (0, 0)) := by
    rw [hw3]
    simp only [s1, Array.size_push, Array.getElem?_push]
    rw [if_neg (by omega), if_pos trivial]
  have hg0 : w.grownBy w3 none := by rw [hw3]; exact grown_trans (grown_alloc _ _) (grown_alloc _ _)
  have hg5 : w.grownBy w5 none := grown_out hg0 hg (by omega)
  obtain ⟨wz, hwz⟩ : ∃ wz, (w5.alloc (.cells #[.map (some (w.heap.size + 1))] 104)).alloc (.cells #[x] 87) = wz := ⟨_, rfl⟩
  have hg6 : w5.grownBy wz none := by rw [← hwz]; exact grown_trans (grown_alloc _ _) (grown_alloc _ _)
  have h5 : wz.heap[w5.heap.size]? = some (.cells #[.map (some (w.heap.size + 1))] 104 (0, 0)) := by
    rw [← hwz, heap_alloc_old (by simp)]
    exact (MapKept.heap_alloc w5 _).1
  have h6 : wz.heap[w5.heap.size + 1]? = some (.cells #[x] 87 (0, 0)) := by
    have := (MapKept.heap_alloc (w5.alloc (.cells #[.map (some (w.heap.size + 1))] 104)) (.cells #[x] 87)).1
    have e : (w5.alloc (.cells #[.map (some (w.heap.size + 1))] 104)).heap.size = w5.heap.size + 1 := by simp
    rw [e, hwz] at this
    exact this
  have hsz : wz.heap.size = w5.heap.size + 2 := by rw [← hwz]; simp
  rw [hwz]
  have hk : Keep (fun _ => false) w o wz (ownG o (w.heap.size + 1) 8) := Keep.grown (grown_trans hg5 hg6) (by simp) (fun k hk => ownG_other _ _ (by omega))
  have ho := hs.new
  have cc : ∀ (b : Nat) (v : Value) (t : TypeId), wz.heap[b]? = some (.cells #[v] t (0, 0)) → wz.cell? ⟨b, 0, none⟩ = some v := fun b v t h => (cell_of h).trans rfl
  have b0 : wz.heap[w.heap.size]? = some (.cells #[.pointer (some ⟨g.s, 0, none⟩)] 23 (0, 0)) := (grown_far hg6 (by omega)).trans ((hg.block _ (by omega) (by simp only [ne_eq, Option.some.injEq]; omega)).trans h0)
  refine ⟨⟨w5.heap.size, w.heap.size, w5.heap.size + 1, w.heap.size + 1⟩, _, by rw [hx], hs.keep hk ⟨rfl, rfl, rfl⟩ (fun b hb => ?_), ⟨cc _ _ _ h5, cc _ _ _ b0, (cc _ _ _ h6).trans (by rw [hx]), ?_, ?_, ?_, ownG_same _ _ _, hm.move (grown_far hg6 hm.lt)⟩, hk⟩
  · rw [ownG_other _ _ (by omega)]
    exact ho b (by omega)
  · show ownG o _ 8 w5.heap.size = 0
    rw [ownG_other _ _ (by omega)]; exact ho _ (by omega)
  · show ownG o _ 8 w.heap.size = 0
    rw [ownG_other _ _ (by omega)]; exact ho _ (Nat.le_refl _)
  · show ownG o _ 8 (w5.heap.size + 1) = 0
    rw [ownG_other _ _ (by omega)]; exact ho _ (by omega)
set_option maxHeartbeats 8000000 in
set_option maxRecDepth 100000 in
theorem counter_any (hs : StoreM M w o g) : Calls Try.prog 38 #[.pointer (some ⟨g.s, 0, none⟩)] w (CounterPost M w o g) := by
  have hmm := @run_makeMap Try.prog
  have hmf : ∀ (fn : Fn) (first cap : Array Value) (w : World), (Instr.makeFunc fn first cap).run Try.prog w = .ok (.func fn first cap) w := fun _ _ _ _ => rfl
  obtain ⟨w3, hw3⟩ : ∃ w3, w3 = (w.alloc (.cells #[.pointer (some ⟨g.s, 0, none⟩)] 23)).alloc (.map #[] 0) := ⟨_, rfl⟩
  have hm0 : MapIs 21 w3 (w.heap.size + 1) (fun _ => none) := by
    have := MapIs.made (k := 21) (w.alloc (.cells #[.pointer (some ⟨g.s, 0, none⟩)] 23))
    rw [← hw3] at this
    have e : (w.alloc (.cells #[.pointer (some ⟨g.s, 0, none⟩)] 23)).heap.size = w.heap.size + 1 := by simp
    rw [e] at this
    exact this
  obtain ⟨w4, hr4, hm4, ht4⟩ := hm0.store K21 Try.underlying104 (isK21 (x := 0) (by omega)) (.int .u64 0)
  obtain ⟨w5, hr5, hm5, ht5⟩ := hm4.store K21 Try.underlying104 (isK21 (x := 1) (by omega)) (.int .u64 1)
  have HNEW := Lib.hid (counter_new hs _ hw3 (grown_trans ht4.grown ht5.grown) ((turned_size ht5).trans (turned_size ht4)) hm5 rfl)
  have hc : ((w5.alloc (.cells #[.map (some (w.heap.size + 1))] 104)).alloc (.cells #[.nilFunc] 87)).cell? ⟨w5.heap.size + 1, 0, none⟩ = some .nilFunc := by
    have := (MapKept.heap_alloc (w5.alloc (.cells #[.map (some (w.heap.size + 1))] 104)) (.cells #[.nilFunc] 87)).1
    have e : (w5.alloc (.cells #[.map (some (w.heap.size + 1))] 104)).heap.size = w5.heap.size + 1 := by simp
    rw [e] at this
    exact (cell_of this).trans rfl
  have hz : ((w5.alloc (.cells #[.map (some (w.heap.size + 1))] 104)).alloc (.cells #[.nilFunc] 87)).frozen? ⟨w5.heap.size + 1, 0, none⟩ = false := by
    have := (MapKept.heap_alloc (w5.alloc (.cells #[.map (some (w.heap.size + 1))] 104)) (.cells #[.nilFunc] 87)).1
    have e : (w5.alloc (.cells #[.map (some (w.heap.size + 1))] 104)).heap.size = w5.heap.size + 1 := by simp
    rw [e] at this
    exact frz_of this
  rw [hw3] at hr4
  clear hs hw3 hm0 hm4 ht4 hm5 ht5
  unfold cntV at HNEW
  go_enter Try.func38, Try.ntmps38
  go_wp2
  go_ret
  exact HNEW.out
end

end Go.Proofs.Ytailpphafoamfaa
namespace Go.Proofs.Ytailpphafoamfaa
open Go Go.RowKit Go.Maps


section
variable {M : List Nd} {w w' w2 : World} {o o' o2 : Nat → Nat} {g : SG} {E : CEnv} {mp mp' : Value → Option Value}
/-- In how many ways the diagram is true, of all variables. -/
def cntAll (g : SG) (f : Nat) : Nat := cN g.ns f * 2 ^ ask g.ns f
def CountPost (M : List Nd) (w : World) (o : Nat → Nat) (g : SG) (f : Int) (e : Ending) (w' : World) : Prop :=
  (∃ o', StoreM M w' o' g ∧ Keep T0 w o w' o') ∧ e = .returned (if okB g.ns.length f = true then .tuple #[.int .u64 ((cntAll g f.toNat % UM : Nat) : Int), .int .i64 0] else .tuple #[.int .u64 0, .int .i64 92])
set_option maxHeartbeats 8000000 in
set_option maxRecDepth 100000 in
theorem count_bad (h : StoreM M w o g) (f : Int) (hv : okB g.ns.length f = false) : Calls Try.prog 16 #[.pointer (some ⟨g.s, 0, none⟩), .int .i64 f] w (CountPost M w o g f) := by
  have HV := Lib.hid (hasNodes_any (h.alloc (.cells #[.int .i64 f] 3)) (nums_one w f) (by simp))
  have e0 : allB g.ns.length [f] = false := by simp [allB, hv]
  rw [e0] at HV
  have HE := Lib.hid (show CountPost M w o g f (.returned (.tuple #[.int .u64 0, .int .i64 92])) (w.alloc (.cells #[.int .i64 f] 3)) from ⟨⟨o, h.alloc _, keep_alloc _ _ _ _⟩, by rw [if_neg (by rw [hv]; simp)]⟩)
  have hnot : ∀ (x : Bool) (w : World), (Op.unary .not (.bool x)).run Try.prog w = .ok (.bool (!x)) w := fun _ _ => rfl
  clear h hv e0
  go_enter Try.func16, Try.ntmps16
  go_wp2_with fail
  refine (HV.out).mono ?_
  rintro e w1 ⟨rfl, rfl⟩
  go_wp2
  go_ret2
  exact HE.out
set_option maxHeartbeats 8000000 in
set_option maxRecDepth 100000 in
theorem count_good (h : StoreM M w o g) (f : Nat) (hv : f < g.ns.length) : Calls Try.prog 16 #[.pointer (some ⟨g.s, 0, none⟩), .int .i64 (f : Int)] w (CountPost M w o g (f : Int)) := by
  have HV := Lib.hid (hasNodes_any (h.alloc (.cells #[.int .i64 (f : Int)] 3)) (nums_one w (f : Int)) (by simp))
  have e1 := okB_of hv
  have e0 : allB g.ns.length [(f : Int)] = true := by simp [allB, e1]
  rw [e0] at HV
  have hnot : ∀ (x : Bool) (w : World), (Op.unary .not (.bool x)).run Try.prog w = .ok (.bool (!x)) w := fun _ _ => rfl
  have HA := Lib.hid (h.alloc (.cells #[.int .i64 (f : Int)] 3))
  have HKA := Lib.hid (keep_alloc T0 w o (.cells #[.int .i64 (f : Int)] 3))
  have HE1 := Lib.hid e1
  have hbd := h.bd
  have HF := Lib.hid hv
  have qw : wrap32 (f : Int) = (f : Int) := wrap32_id (by omega)
  have qw2 : IntKind.i32.wrap (f : Int) = (f : Int) := IntWalk.i32_in _ (by omega)
  have q3 : (f : Int) < (g.ns.length : Int) := by omega
  clear h hv e0 e1 hbd
  go_enter Try.func16, Try.ntmps16
  go_wp2_with fail
  refine (HV.out).mono ?_
  rintro e w1 ⟨rfl, hw1⟩
  rw [hw1] at HA HKA
  clear hw1
  obtain ⟨n, hn⟩ := get_lt HF.out
  obtain ⟨gx, c2, hvv, k0, k1, k2, hx⟩ := row_node HA.out.row hn
  have s2 := HA.out.cell2
  have HOR := Lib.hid (HA.out.orow gx (by rw [hvv]; rfl))
  rw [hvv] at s2
  have HAS := Lib.hid (ask_at hn)
  have HL := Lib.hid (show g.s < w1.heap.size ∧ gx < w1.heap.size from ⟨HA.out.lts, hx⟩)
  have HB8 := Lib.hid (show n.v ≤ 256 from by have h1 := HA.out.wf.ask_le HF.out; rw [ask_at hn] at h1; have := HA.out.bd.1; omega)
  have HSD := Lib.hid HA.out.drew
  have q8 : (0 : Int) ≤ (n.v : Int) := by omega
  clear hn hvv hx
  go_wp2
  refine wp_region_T (S := fun w' => ∀ k ∈ [g.s, gx], w'.heap[k]? = w1.heap[k]?) (tail := fun j => decide (13 ≤ j)) (by kernel_rfl) ?_
  change wpAnyT _ _ _ _ _ _ _ _ _ (World.drew w1)
  have BD := Lib.hid (show ∀ k ∈ [g.s, gx], (World.drew w1).heap[k]? = w1.heap[k]? from fun _ _ => rfl)
  refine tk 0 11 (.pointer (some ⟨g.s, 0, none⟩)) BD.out ?y0 ?_
  case y0 =>
    intro w' hw'
    go_simp
  try simp only [Act.put, List.setIfInBounds_toArray, List.set_cons_zero, List.set_cons_succ]
  refine tk 2 13 (.int .i64 ((f : Nat) : Int)) BD.out ?y2 ?_
  case y2 =>
    intro w' hw'
    go_simp
  try simp only [Act.put, List.setIfInBounds_toArray, List.set_cons_zero, List.set_cons_succ]
  refine tk 3 14 (.int .i32 (f : Int)) BD.out ?y3 ?_
  case y3 =>
    intro w' hw'
    go_simp
  try simp only [Act.put, List.setIfInBounds_toArray, List.set_cons_zero, List.set_cons_succ]
  refine tk 5 16 (.pointer (some ⟨g.s, 0, none⟩)) BD.out ?y5 ?_
  case y5 =>
    intro w' hw'
    go_simp
  try simp only [Act.put, List.setIfInBounds_toArray, List.set_cons_zero, List.set_cons_succ]
  refine tk 6 17 (.pointer (some ⟨g.s, 0, none⟩)) BD.out ?y6 ?_
  case y6 =>
    intro w' hw'
    go_simp
  try simp only [Act.put, List.setIfInBounds_toArray, List.set_cons_zero, List.set_cons_succ]
  refine tk 7 18 (.pointer (some ⟨g.s, 2, none⟩)) BD.out ?y7 ?_
  case y7 =>
    intro w' hw'
    go_simp
  try simp only [Act.put, List.setIfInBounds_toArray, List.set_cons_zero, List.set_cons_succ]
  refine tk 8 19 (.slice (some ⟨gx, 0, none⟩) g.ns.length c2) BD.out ?y8 ?_
  case y8 =>
    intro w' hw'
    have y0 := (World.cell?_of_block (a := ⟨g.s, 2, none⟩) (hw' _ (by simp))).trans s2
    go_simp
  try simp only [Act.put, List.setIfInBounds_toArray, List.set_cons_zero, List.set_cons_succ]
  refine tk 9 20 (.int .i64 ((f : Nat) : Int)) BD.out ?y9 ?_
  case y9 =>
    intro w' hw'
    go_simp
  try simp only [Act.put, List.setIfInBounds_toArray, List.set_cons_zero, List.set_cons_succ]
  refine tk 10 21 (.pointer (some ⟨gx, f * 3, none⟩)) BD.out ?y10 ?_
  case y10 =>
    intro w' hw'
    go_simp
  try simp only [Act.put, List.setIfInBounds_toArray, List.set_cons_zero, List.set_cons_succ]
  refine tk 11 22 (.pointer (some ⟨gx, f * 3, none⟩)) BD.out ?y11 ?_
  case y11 =>
    intro w' hw'
    go_simp
  try simp only [Act.put, List.setIfInBounds_toArray, List.set_cons_zero, List.set_cons_succ]
  refine tk 12 23 (.int .i32 (n.v : Int)) BD.out ?y12 ?_
  case y12 =>
    intro w' hw'
    have z0 := (World.cell?_of_block (a := ⟨gx, f * 3, none⟩) (hw' gx (by simp))).trans k0
    go_simp
  try simp only [Act.put, List.setIfInBounds_toArray, List.set_cons_zero, List.set_cons_succ]
  refine on 1 (fun K hK => ?_)
  go_simp
  refine (counter_any HSD.out).mono ?_
  rintro e w4 ⟨E, o4, rfl, hst, hat, hk⟩
  have HST := Lib.hid hst
  have HAT := Lib.hid hat
  have HB4 := Lib.hid (show ∀ k ∈ [g.s, gx], w4.heap[k]? = w1.heap[k]? from fun k hk2 => (hk.blk k (by
    rcases (by simpa using hk2 : k = g.s ∨ k = gx) with rfl | rfl
    · exact HL.out.1
    · exact HL.out.2) rfl).trans (BD.out k hk2))
  have HO4 := Lib.hid (show o4 g.s = 1 ∧ o4 gx = 2 from ⟨(hk.own _ HL.out.1).trans HA.out.os, (hk.own _ HL.out.2).trans HOR.out⟩)
  have HK4 := Lib.hid (show Keep T0 w o w4 o4 from HKA.out.trans ((keep_drew _ w1 o).trans (hk.more (t0_of rfl))))
  have HSZ := Lib.hid (show w1.heap.size ≤ w4.heap.size from hk.size)
  refine hK.out _ _ (fun _ => HB4.out) ?_
  clear hK K hk hst hat
  try simp only [Act.put, List.setIfInBounds_toArray, List.set_cons_zero, List.set_cons_succ]
  refine on 4 (fun K hK => ?_)
  unfold cntV
  go_simp
  refine (cnt_any f M w4 o4 mq01 HST.out HAT.out cdone_start HF.out).mono ?_
  rintro e w5 ⟨rfl, mp5, ha5, hd5, hk5⟩
  have HST5 := Lib.hid (HST.out.keep8 hk5)
  have HFIN := Lib.hid (show CountPost M w o g (f : Int) (.returned (.tuple #[.int .u64 ((cntAll g f % UM : Nat) : Int), .int .i64 0])) w5 from ⟨⟨o4, HST5.out, HK4.out.trans (hk5.more (t0_of rfl))⟩, by rw [if_pos HE1.out]; rfl⟩)
  refine hK.out _ _ (fun _ k hk2 => (hk5.blk k (by
    rcases (by simpa using hk2 : k = g.s ∨ k = gx) with rfl | rfl
    · exact Nat.lt_of_lt_of_le HL.out.1 HSZ.out
    · exact Nat.lt_of_lt_of_le HL.out.2 HSZ.out) (by
    rcases (by simpa using hk2 : k = g.s ∨ k = gx) with rfl | rfl
    · rw [HO4.out.1]; rfl
    · rw [HO4.out.2]; rfl)).trans (HB4.out k hk2)) ?_
  clear hK K hk5 ha5 hd5
  try simp only [Act.put, List.setIfInBounds_toArray, List.set_cons_zero, List.set_cons_succ]
  have HSH := Lib.hid (show IntKind.u64.wrap (((cN g.ns f % UM : Nat) : Int) * 2 ^ min n.v 64) = ((cntAll g f % UM : Nat) : Int) from by
    unfold cntAll
    rw [HAS.out]
    exact shlv_mod _ _)
  refine tkM 13 24 (.int .u64 ((cntAll g f % UM : Nat) : Int)) ?y13 ?_
  case y13 =>
    intro w'
    go_simp
    exact HSH.out
  try simp only [Act.put, List.setIfInBounds_toArray, List.set_cons_zero, List.set_cons_succ]
  refine tkM 14 4 (.int .u64 ((cntAll g f % UM : Nat) : Int)) ?y14 ?_
  case y14 =>
    intro w'
    go_simp
  try simp only [Act.put, List.setIfInBounds_toArray, List.set_cons_zero, List.set_cons_succ]
  refine tkM 15 5 (.int .i64 0) ?y15 ?_
  case y15 =>
    intro w'
    go_simp
  try simp only [Act.put, List.setIfInBounds_toArray, List.set_cons_zero, List.set_cons_succ]
  refine dn ?_
  go_wp2
  go_ret2
  exact HFIN.out
theorem count_any (h : StoreM M w o g) (f : Int) : Calls Try.prog 16 #[.pointer (some ⟨g.s, 0, none⟩), .int .i64 f] w (CountPost M w o g f) := by
  cases hv : okB g.ns.length f with
  | false => exact count_bad h f hv
  | true =>
    obtain ⟨k, rfl, hk⟩ := okB_nat hv
    exact count_good h k hk
end

end Go.Proofs.Ytailpphafoamfaa
namespace Go.Proofs.Ytailpphafoamfaa

def visF (L : List Nd) : Nat → List Nat → Nat → List Nat
  | 0, s, _ => s
  | k + 1, s, i => if i ≤ 1 ∨ i ∈ s then s else match L[i]? with
    | none => s
    | some n => visF L k (visF L k (s ++ [i]) n.a) n.b
/-- The nodes met, with those met before. -/
def vis (L : List Nd) (s : List Nat) (i : Nat) : List Nat := visF L (i + 1) s i
section
variable {V : Nat} {L : List Nd}
theorem WF.visF_eq (h : WF V L) : ∀ k s i, i < k → visF L k s i = vis L s i := by
  intro k
  induction k using Nat.strongRecOn with
  | ind k ih =>
    intro s i hi
    unfold vis
    match k, hi with
    | k + 1, hi =>
      unfold visF
      split
      · rfl
      · rename_i hc
        cases hn : L[i]? with
        | none => rfl
        | some n =>
          have hh := h.nd i n (by omega) hn
          simp only
          rw [ih k (by omega) _ n.a (by omega), ih k (by omega) _ n.b (by omega)]
          by_cases hki : i = k
          · subst hki
            rw [ih i (by omega) _ n.a (by omega), ih i (by omega) _ n.b (by omega)]
          · rw [ih i (by omega) _ n.a (by omega), ih i (by omega) _ n.b (by omega)]
theorem vis_met {s : List Nat} {i : Nat} (h : i ≤ 1 ∨ i ∈ s) : vis L s i = s := by simp [vis, visF, h]
theorem WF.vis_node (h : WF V L) {s : List Nat} {i : Nat} {n : Nd} (hi : ¬ (i ≤ 1 ∨ i ∈ s)) (hn : L[i]? = some n) : vis L s i = vis L (vis L (s ++ [i]) n.a) n.b := by
  have hh := h.nd i n (by omega) hn
  have : vis L s i = visF L i (visF L i (s ++ [i]) n.a) n.b := by
    show visF L (i + 1) s i = _
    rw [visF, if_neg hi, hn]
  rw [this, h.visF_eq i _ n.a (by omega), h.visF_eq i _ n.b (by omega)]
/-- What is met stays met; all that is met new has its ways met. -/
theorem WF.vis_ok (h : WF V L) : ∀ i s, i < L.length → (∀ j ∈ s, j < L.length) → s.Nodup → (∀ j ∈ s, j ∈ vis L s i) ∧ (i ≤ 1 ∨ i ∈ vis L s i) ∧ (vis L s i).Nodup ∧ (∀ j ∈ vis L s i, j ∈ s ∨ 2 ≤ j ∧ j ≤ i) ∧
    ∀ j ∈ vis L s i, j ∈ s ∨ ∃ n, L[j]? = some n ∧ (n.a ≤ 1 ∨ n.a ∈ vis L s i) ∧ (n.b ≤ 1 ∨ n.b ∈ vis L s i) := by
  intro i
  induction i using Nat.strongRecOn with
  | ind i ih =>
    intro s hl hs hd
    by_cases hc : i ≤ 1 ∨ i ∈ s
    · rw [vis_met hc]
      exact ⟨fun _ hj => hj, hc, hd, fun j hj => .inl hj, fun j hj => .inl hj⟩
    · obtain ⟨n, hn⟩ : ∃ n, L[i]? = some n := ⟨_, List.getElem?_eq_getElem hl⟩
      have hh := h.nd i n (by omega) hn
      have hd1 : (s ++ [i]).Nodup := by
        rw [List.nodup_append]
        exact ⟨hd, by simp, fun x hx y hy => by simp at hy; subst hy; intro e; subst e; exact hc (.inr hx)⟩
      have hs1 : ∀ j ∈ s ++ [i], j < L.length := by
        intro j hj
        rcases List.mem_append.1 hj with hj | hj
        · exact hs j hj
        · simp at hj; omega
      obtain ⟨a1, a2, a3, a4, a5⟩ := ih n.a (by omega) (s ++ [i]) (by omega) hs1 hd1
      have hs2 : ∀ j ∈ vis L (s ++ [i]) n.a, j < L.length := by
        intro j hj
        rcases a4 j hj with hj | hj
        · exact hs1 j hj
        · omega
      obtain ⟨b1, b2, b3, b4, b5⟩ := ih n.b (by omega) _ (by omega) hs2 a3
      rw [h.vis_node hc hn]
      have hi : i ∈ vis L (vis L (s ++ [i]) n.a) n.b := b1 _ (a1 _ (by simp))
      refine ⟨fun j hj => b1 _ (a1 _ (List.mem_append.2 (.inl hj))), .inr hi, b3, fun j hj => ?_, fun j hj => ?_⟩
      · rcases b4 j hj with hj | hj
        · rcases a4 j hj with hj | hj
          · rcases List.mem_append.1 hj with hj | hj
            · exact .inl hj
            · simp at hj; omega
          · omega
        · omega
      · rcases b5 j hj with hj | hj
        · rcases a5 j hj with hj | ⟨m, h1, h2, h3⟩
          · rcases List.mem_append.1 hj with hj | hj
            · exact .inl hj
            · simp at hj
              subst hj
              exact .inr ⟨n, hn, a2.imp id (b1 _), b2⟩
          · exact .inr ⟨m, h1, h2.imp id (b1 _), h3.imp id (b1 _)⟩
        · exact .inr hj
end
end Go.Proofs.Ytailpphafoamfaa
namespace Go.Proofs.Ytailpphafoamfaa
open Go Go.RowKit Go.Maps


structure VEnv where
  b1 : Nat
  b2 : Nat
  b3 : Nat
  b4 : Nat
  bd : Nat
  af : FuncId
  k1 : Value
def visV (E : VEnv) : Value := .func (.func 57) #[] #[.pointer (some ⟨E.b1, 0, none⟩), .pointer (some ⟨E.b2, 0, none⟩), .pointer (some ⟨E.b3, 0, none⟩), .pointer (some ⟨E.b4, 0, none⟩)]
structure VDone (l : List Nat) (mp : Value → Option Value) : Prop where
  is : ∀ k : Nat, (mp (.int .i32 (k : Int))).isSome = decide (k ≤ 1 ∨ k ∈ l)
  al : ∀ v x, mp v = some x → x = .agg #[]
structure VisAt (w : World) (o : Nat → Nat) (g : SG) (E : VEnv) (l : List Nat) : Prop where
  c1 : w.cell? ⟨E.b1, 0, none⟩ = some (.map (some E.bd))
  c2 : w.cell? ⟨E.b2, 0, none⟩ = some (.pointer (some ⟨g.s, 0, none⟩))
  c3 : w.cell? ⟨E.b3, 0, none⟩ = some (.func (.func E.af) #[] #[E.k1])
  c4 : w.cell? ⟨E.b4, 0, none⟩ = some (visV E)
  o1 : o E.b1 = 0
  o2 : o E.b2 = 0
  o3 : o E.b3 = 0
  o4 : o E.b4 = 0
  od : o E.bd = 8
  map : ∃ mp, MapIs 21 w E.bd mp ∧ VDone l mp
/-- What an action does with the node number i, told which. -/
structure SeeS (af : FuncId) (k1 : Value) (J : World → (Nat → Nat) → SG → List Nat → Prop) : Prop where
  enters : ∀ args w, (callFunc af args).run Try.prog w = .ok (.enter af args) w
  keep : ∀ (w w' : World) (o o' : Nat → Nat) (g : SG) (l : List Nat), J w o g l → Keep (· == 8) w o w' o' → J w' o' g l
  run : ∀ (M : List Nd) (w : World) (o : Nat → Nat) (g : SG) (l : List Nat) (i : Nat) (n : Nd), StoreM M w o g → J w o g l → 2 ≤ i → g.ns[i]? = some n →
    Calls Try.prog af #[ndV n, k1] w fun e w' => e = .returned (.tuple #[]) ∧ ∃ o', StoreM M w' o' g ∧ J w' o' g (l ++ [i]) ∧ Keep (· == 10) w o w' o'
section
variable {M : List Nd} {w w' w2 : World} {o o' o2 : Nat → Nat} {g : SG} {E : VEnv} {l l' : List Nat} {J : World → (Nat → Nat) → SG → List Nat → Prop}
theorem VisAt.keep {T : Nat → Bool} (h : VisAt w o g E l) (k : Keep T w o w' o') (t0 : T 0 = false) (t8 : T 8 = false) : VisAt w' o' g E l := by
  obtain ⟨mp, hm, hd⟩ := h.map
  exact ⟨(k.box h.c1 h.o1 t0).1, (k.box h.c2 h.o2 t0).1, (k.box h.c3 h.o3 t0).1, (k.box h.c4 h.o4 t0).1, (k.box h.c1 h.o1 t0).2, (k.box h.c2 h.o2 t0).2, (k.box h.c3 h.o3 t0).2, (k.box h.c4 h.o4 t0).2, (k.own _ hm.lt).trans h.od, mp, hm.move (k.blk _ hm.lt (by rw [h.od]; exact t8)), hd⟩
def T8 (t : Nat) : Bool := t == 8 || t == 10
theorem t8_of {T : Nat → Bool} (h : ∀ t, T t = true → t = 8 ∨ t = 10) : ∀ t, T8 t = false → T t = false := fun t ht => by
  cases hT : T t with
  | false => rfl
  | true =>
    unfold T8 at ht
    rcases h t hT with rfl | rfl <;> simp at ht
structure VisOut (M : List Nd) (w : World) (o : Nat → Nat) (g : SG) (E : VEnv) (J : World → (Nat → Nat) → SG → List Nat → Prop) (l' : List Nat) (w' : World) (o' : Nat → Nat) : Prop where
  st : StoreM M w' o' g
  at_ : VisAt w' o' g E l'
  j_ : J w' o' g l'
  keep : Keep T8 w o w' o'
def VisPost (M : List Nd) (w : World) (o : Nat → Nat) (g : SG) (E : VEnv) (J : World → (Nat → Nat) → SG → List Nat → Prop) (l : List Nat) (n : Nat) (e : Ending) (w' : World) : Prop :=
  e = .returned (.tuple #[]) ∧ ∃ o', VisOut M w o g E J (vis g.ns l n) w' o'
def VisC (M : List Nd) (g : SG) (E : VEnv) (J : World → (Nat → Nat) → SG → List Nat → Prop) (n : Nat) : Prop := ∀ (w : World) (o : Nat → Nat) (l : List Nat), StoreM M w o g → VisAt w o g E l → J w o g l → n < g.ns.length →
  Calls Try.prog 57 #[.int .i32 (n : Int), .pointer (some ⟨E.b1, 0, none⟩), .pointer (some ⟨E.b2, 0, none⟩), .pointer (some ⟨E.b3, 0, none⟩), .pointer (some ⟨E.b4, 0, none⟩)] w (VisPost M w o g E J l n)
theorem VDone.getD {mp : Value → Option Value} (h : VDone l mp) (v : Value) : (mp v).getD (.agg #[]) = .agg #[] := by
  cases hx : mp v with
  | none => rfl
  | some x => exact h.al _ _ hx
set_option maxHeartbeats 8000000 in
set_option maxRecDepth 100000 in
theorem vis_hit {n : Nat} (hS : SeeS E.af E.k1 J) (h : StoreM M w o g) (ha : VisAt w o g E l) (hj : J w o g l) (hn : n < g.ns.length) (hx : n ≤ 1 ∨ n ∈ l) : Calls Try.prog 57 #[.int .i32 (n : Int), .pointer (some ⟨E.b1, 0, none⟩), .pointer (some ⟨E.b2, 0, none⟩), .pointer (some ⟨E.b3, 0, none⟩), .pointer (some ⟨E.b4, 0, none⟩)] w (VisPost M w o g E J l n) := by
  have hbd := h.bd
  obtain ⟨mp, hm, hd⟩ := ha.map
  have hlk := hm.look K21 Try.underlying107 (z65 _) (isK21 (x := (n : Int)) (by omega))
  rw [hd.getD, hd.is, decide_eq_true hx] at hlk
  have HR := Lib.hid (fun (x : Obj) => show VisPost M w o g E J l n (.returned (.tuple #[])) (w.alloc x) from ⟨rfl, o, by
    rw [vis_met hx]
    exact ⟨h.alloc _, ha.keep (keep_alloc (fun _ => false) w o x) rfl rfl, hS.keep _ _ _ _ _ _ hj (keep_alloc _ w o x), keep_alloc _ _ _ _⟩⟩)
  have c1 := ha.c1
  clear hS h ha hj hn hx hm hd hbd
  go_enter Try.func57, Try.ntmps57
  go_wp2
  first | go_end0 | (simp only [Exit.inBlock, Exit.then]; refine bodyPost_ret (results_none rfl _ _ _) rfl ?_) | refine bodyPost_ret (results_none rfl _ _ _) rfl ?_
  exact HR.out _
theorem VDone.more {mp : Value → Option Value} (h : VDone l mp) (n : Nat) : VDone (l ++ [n]) (updV mp (.int .i32 (n : Int)) (.agg #[])) := by
  refine ⟨fun k => ?_, fun v x hv => ?_⟩
  · by_cases e : k = n
    · subst e
      rw [updV_same]
      simp
    · rw [updV_other _ _ (by intro e2; simp at e2; omega), h.is]
      simp [e]
  · by_cases e : v = .int .i32 (n : Int)
    · rw [e, updV_same] at hv
      cases hv
      rfl
    · rw [updV_other _ _ e] at hv
      exact h.al _ _ hv
set_option maxHeartbeats 8000000 in
set_option maxRecDepth 100000 in
theorem vis_miss {n : Nat} (hS : SeeS E.af E.k1 J) (IH : ∀ k, k < n → VisC M g E J k) (h : StoreM M w o g) (ha : VisAt w o g E l) (hj : J w o g l) (hn : n < g.ns.length) (hx : ¬ (n ≤ 1 ∨ n ∈ l)) : Calls Try.prog 57 #[.int .i32 (n : Int), .pointer (some ⟨E.b1, 0, none⟩), .pointer (some ⟨E.b2, 0, none⟩), .pointer (some ⟨E.b3, 0, none⟩), .pointer (some ⟨E.b4, 0, none⟩)] w (VisPost M w o g E J l n) := by
  have hbd := h.bd
  obtain ⟨mp, hm, hd⟩ := ha.map
  have HISK := Lib.hid (isK21 (x := (n : Int)) (by omega))
  have hlk := hm.look K21 Try.underlying107 (z65 _) HISK.out
  rw [hd.getD, hd.is, decide_eq_false hx] at hlk
  obtain ⟨nd, hnd⟩ := get_lt hn
  have c1 := ha.c1
  have HH := Lib.hid h
  have HA := Lib.hid ha
  have HJ := Lib.hid hj
  have HS := Lib.hid hS
  have HIH := Lib.hid IH
  have HN := Lib.hid (show n < g.ns.length ∧ ¬ (n ≤ 1 ∨ n ∈ l) ∧ g.ns[n]? = some nd from ⟨hn, hx, hnd⟩)
  have q2 : (n : Int) < (g.ns.length : Int) := by omega
  have HMD := Lib.hid (show MapIs 21 w E.bd mp ∧ VDone l mp from ⟨hm, hd⟩)
  have hb1 : E.b1 < w.heap.size := lt_cell c1
  obtain ⟨w9, hrun, hm9, ht9⟩ := (hm.move (heap_alloc_old (o := .cells #[] 65) hm.lt)).store K21 Try.underlying107 HISK.out (.agg #[])
  have k9 : Keep (· == 8) w o w9 o := (keep_alloc _ w o (.cells #[] 65)).trans (Keep.grown ht9.grown (fun k hk => by cases hk; rw [ha.od]; rfl) (fun _ _ => rfl))
  have h9 : StoreM M w9 o g := h.keep8 k9
  have j9 : J w9 o g l := hS.keep _ _ _ _ _ _ hj k9
  have a9 : VisAt w9 o g E (l ++ [n]) := ⟨(k9.box ha.c1 ha.o1 rfl).1, (k9.box ha.c2 ha.o2 rfl).1, (k9.box ha.c3 ha.o3 rfl).1, (k9.box ha.c4 ha.o4 rfl).1, ha.o1, ha.o2, ha.o3, ha.o4, ha.od, _, hm9, hd.more n⟩
  obtain ⟨gx, c, hvv, k0, k1, k2, hxl⟩ := row_node h9.row hnd
  have s2 := h9.cell2
  rw [hvv] at s2
  have c2 := a9.c2
  have c3 := a9.c3
  have hb3 : E.b3 < w9.heap.size := lt_cell c3
  have hsz9 : w.heap.size ≤ w9.heap.size := k9.size
  have H9 := Lib.hid (show StoreM M w9 o g ∧ VisAt w9 o g E (l ++ [n]) ∧ J w9 o g l ∧ Keep T8 w o w9 o from ⟨h9, a9, j9, k9.more (t8_of (fun t ht => by simp at ht; exact .inl ht))⟩)
  have hND := h9.wf.nd n nd (by omega) hnd
  have HND := Lib.hid hND
  have HSE := Lib.hid (hS.run M (w9.alloc (.cells #[.int .i32 (nd.v : Int), .int .i32 (nd.a : Int), .int .i32 (nd.b : Int)] 63)) o g l n nd (h9.alloc _) (hS.keep _ _ _ _ _ _ j9 (keep_alloc _ w9 o _)) (by omega) hnd)
  unfold ndV at HSE
  obtain ⟨wb, hwb⟩ : ∃ wb, w9.alloc (.cells #[.int .i32 (nd.v : Int), .int .i32 (nd.a : Int), .int .i32 (nd.b : Int)] 63) = wb := ⟨_, rfl⟩
  have hY : wb.heap[w9.heap.size]? = some (.cells #[.int .i32 (nd.v : Int), .int .i32 (nd.a : Int), .int .i32 (nd.b : Int)] 63 (0, 0)) := by
    rw [← hwb]
    exact (MapKept.heap_alloc w9 _).1
  have HY := Lib.hid hY
  have HKB := Lib.hid (show ∀ T, Keep T w9 o wb o from fun T => by rw [← hwb]; exact keep_alloc _ _ _ _)
  have HON := Lib.hid (h9.new w9.heap.size (Nat.le_refl _))
  rw [hwb] at HSE
  have HWB := Lib.hid hwb
  have hent := hS.enters
  clear hS IH h ha hj hn hx hm hd hnd hbd hY hwb hm9 ht9 k9 h9 j9 a9 hvv hND HMD
  go_enter Try.func57, Try.ntmps57
  go_wp2_with fail
  rw [HWB.out]
  refine (HSE.out).mono ?_
  rintro e w1 ⟨rfl, o1, hs1, hj1, hk1⟩
  obtain ⟨N, hN⟩ : ∃ N, w9.heap.size = N := ⟨_, rfl⟩
  rw [hN] at HY HON ⊢
  clear hent
  have a1 : VisAt w1 o1 g E (l ++ [n]) := (H9.out.2.1.keep (HKB.out (fun _ => false)) rfl rfl).keep hk1 rfl rfl
  have hNl := (Array.getElem?_eq_some_iff.1 HY.out).1
  have hY1 : wb.heap.size ≤ w1.heap.size ∧ w1.heap[N]? = some (.cells #[.int .i32 (nd.v : Int), .int .i32 (nd.a : Int), .int .i32 (nd.b : Int)] 63 (0, 0)) ∧ o1 N = 0 := ⟨hk1.size, (hk1.blk N hNl (by rw [HON.out]; rfl)).trans HY.out, (hk1.own N hNl).trans HON.out⟩
  have HY1 := Lib.hid hY1
  obtain ⟨y0, y1, y2⟩ := box_cells hY1.2.1
  have c4 := a1.c4
  have K1 := Lib.hid (show Keep T8 w o w1 o1 from H9.out.2.2.2.trans ((HKB.out T8).trans (hk1.more (t8_of (fun t ht => by simp at ht; exact .inr ht)))))
  have HC1 := Lib.hid (HIH.out nd.a HND.out.2.1 w1 o1 (l ++ [n]) hs1 a1 hj1 (by have := HND.out; have := HN.out.1; omega))
  unfold visV at c4
  clear hs1 hj1 hk1 a1 hY1 c1 c2 c3 s2 k0 k1 k2 hlk hrun hxl hb3 hsz9 hb1 hN hNl
  go_wp2_with fail
  refine (HC1.out).mono ?_
  rintro e w2 ⟨rfl, o2, hv2⟩
  have hY2 : w2.heap[N]? = some (.cells #[.int .i32 (nd.v : Int), .int .i32 (nd.a : Int), .int .i32 (nd.b : Int)] 63 (0, 0)) := (hv2.keep.blk N (Array.getElem?_eq_some_iff.1 HY1.out.2.1).1 (by rw [HY1.out.2.2]; rfl)).trans HY1.out.2.1
  obtain ⟨x0, x1, x2⟩ := box_cells hY2
  have c4' := hv2.at_.c4
  have K2 := Lib.hid (show Keep T8 w o w2 o2 from K1.out.trans hv2.keep)
  have HC2 := Lib.hid (HIH.out nd.b HND.out.2.2.1 w2 o2 _ hv2.st hv2.at_ hv2.j_ (by have := HND.out; have := HN.out.1; omega))
  unfold visV at c4'
  clear hv2 hY2 c4 y0 y1 y2
  go_wp2_with fail
  refine (HC2.out).mono ?_
  rintro e w3 ⟨rfl, o3, hv3⟩
  have HR := Lib.hid (show VisPost M w o g E J l n (.returned (.tuple #[])) w3 from ⟨rfl, o3, by
    rw [HH.out.wf.vis_node HN.out.2.1 HN.out.2.2]
    exact ⟨hv3.st, hv3.at_, hv3.j_, K2.out.trans hv3.keep⟩⟩)
  clear hv3 c4' x0 x1 x2
  go_wp2
  go_end0
  exact HR.out
theorem vis_any (hS : SeeS E.af E.k1 J) : ∀ n, VisC M g E J n := by
  intro n
  induction n using Nat.strongRecOn with
  | ind n ih =>
    intro w o l h ha hj hn
    by_cases hx : n ≤ 1 ∨ n ∈ l
    · exact vis_hit hS h ha hj hn hx
    · exact vis_miss hS ih h ha hj hn hx
end

end Go.Proofs.Ytailpphafoamfaa
namespace Go.Proofs.Ytailpphafoamfaa
open Go Go.RowKit Go.Maps


section
variable {M : List Nd} {w w' w2 : World} {o o' o2 : Nat → Nat} {g : SG} {E : VEnv} {l l' : List Nat} {J : World → (Nat → Nat) → SG → List Nat → Prop}
noncomputable def mv01 : Value → Option Value := updV (updV (fun _ => none) (.int .i32 0) (.agg #[])) (.int .i32 1) (.agg #[])
theorem vdone_start : VDone [] mv01 := by
  refine ⟨fun k => ?_, fun v x hv => ?_⟩
  · unfold mv01
    by_cases e1 : k = 1
    · subst e1
      rw [show ((1 : Nat) : Int) = 1 from rfl, updV_same]
      simp
    · rw [updV_other _ _ (by intro e; simp at e; omega)]
      by_cases e0 : k = 0
      · subst e0
        rw [show ((0 : Nat) : Int) = 0 from rfl, updV_same]
        simp
      · rw [updV_other _ _ (by intro e; simp at e; omega)]
        simp
        omega
  · unfold mv01 at hv
    by_cases e1 : v = .int .i32 1
    · rw [e1, updV_same] at hv
      cases hv
      rfl
    · rw [updV_other _ _ e1] at hv
      by_cases e0 : v = .int .i32 0
      · rw [e0, updV_same] at hv
        cases hv
        rfl
      · rw [updV_other _ _ e0] at hv
        cases hv
structure VisitorAt (M : List Nd) (w : World) (o : Nat → Nat) (g : SG) (E : VEnv) (w' : World) (o' : Nat → Nat) : Prop where
  st : StoreM M w' o' g
  at_ : VisAt w' o' g E []
  keep : Keep (fun _ => false) w o w' o'
theorem visitor_new (hs : StoreM M w o g) (af : FuncId) (k1 : Value) (x : Value) {w3 w5 : World} (hw3 : w3 = ((w.alloc (.cells #[.pointer (some ⟨g.s, 0, none⟩)] 23)).alloc (.cells #[.func (.func af) #[] #[k1]] 90)).alloc (.map #[] 0)) (hg : w3.grownBy w5 (some (w.heap.size + 1 + 1))) (hz : w5.heap.size = w3.heap.size) (hm : MapIs 21 w5 (w.heap.size + 1 + 1) mv01)
    (hx : x = visV ⟨w5.heap.size, w.heap.size, w.heap.size + 1, w5.heap.size + 1, w.heap.size + 1 + 1, af, k1⟩) : ∃ o', VisitorAt M w o g ⟨w5.heap.size, w.heap.size, w.heap.size + 1, w5.heap.size + 1, w.heap.size + 1 + 1, af, k1⟩ ((w5.alloc (.cells #[.map (some (w.heap.size + 1 + 1))] 107)).alloc (.cells #[x] 108)) o' := by
  have e3 : w3.heap.size = w.heap.size + 3 := by rw [hw3]; simp
  have s1 : ∀ (w : World) (x : Obj), (w.alloc x).heap = w.heap.push x := fun _ _ => rfl
  have h0 : w3.heap[w.heap.size]? = some (.cells #[.pointer (some ⟨g.s, 0, none⟩)] 23 (0, 0)) := by
    rw [hw3]
    simp only [s1, Array.size_push, Array.getElem?_push]
    rw [if_neg (by omega), if_neg (by omega), if_pos trivial]
  have h1 : w3.heap[w.heap.size + 1]? = some (.cells #[.func (.func af) #[] #[k1]] 90 (0, 0)) := by
    rw [hw3]
    simp only [s1, Array.size_push, Array.getElem?_push]
    rw [if_neg (by omega), if_pos trivial]
  have hg0 : w.grownBy w3 none := by rw [hw3]; exact grown_trans (grown_trans (grown_alloc _ _) (grown_alloc _ _)) (grown_alloc _ _)
  have hg5 : w.grownBy w5 none := grown_out hg0 hg (by omega)
  obtain ⟨wz, hwz⟩ : ∃ wz, (w5.alloc (.cells #[.map (some (w.heap.size + 1 + 1))] 107)).alloc (.cells #[x] 108) = wz := ⟨_, rfl⟩
  have hg6 : w5.grownBy wz none := by rw [← hwz]; exact grown_trans (grown_alloc _ _) (grown_alloc _ _)
  have h5 : wz.heap[w5.heap.size]? = some (.cells #[.map (some (w.heap.size + 1 + 1))] 107 (0, 0)) := by
    rw [← hwz, heap_alloc_old (by simp)]
    exact (MapKept.heap_alloc w5 _).1
  have h6 : wz.heap[w5.heap.size + 1]? = some (.cells #[x] 108 (0, 0)) := by
    have := (MapKept.heap_alloc (w5.alloc (.cells #[.map (some (w.heap.size + 1 + 1))] 107)) (.cells #[x] 108)).1
    have e : (w5.alloc (.cells #[.map (some (w.heap.size + 1 + 1))] 107)).heap.size = w5.heap.size + 1 := by simp
    rw [e, hwz] at this
    exact this
  have hsz : wz.heap.size = w5.heap.size + 2 := by rw [← hwz]; simp
  rw [hwz]
  have hk : Keep (fun _ => false) w o wz (ownG o (w.heap.size + 1 + 1) 8) := Keep.grown (grown_trans hg5 hg6) (by simp) (fun k hk => ownG_other _ _ (by omega))
  have ho := hs.new
  have cc : ∀ (b : Nat) (v : Value) (t : TypeId), wz.heap[b]? = some (.cells #[v] t (0, 0)) → wz.cell? ⟨b, 0, none⟩ = some v := fun b v t h => (cell_of h).trans rfl
  have b0 : wz.heap[w.heap.size]? = some (.cells #[.pointer (some ⟨g.s, 0, none⟩)] 23 (0, 0)) := (grown_far hg6 (by omega)).trans ((hg.block _ (by omega) (by simp only [ne_eq, Option.some.injEq]; omega)).trans h0)
  have b1 : wz.heap[w.heap.size + 1]? = some (.cells #[.func (.func af) #[] #[k1]] 90 (0, 0)) := (grown_far hg6 (by omega)).trans ((hg.block _ (by omega) (by simp only [ne_eq, Option.some.injEq]; omega)).trans h1)
  refine ⟨_, hs.keep hk ⟨rfl, rfl, rfl⟩ (fun b hb => ?_), ⟨cc _ _ _ h5, cc _ _ _ b0, cc _ _ _ b1, (cc _ _ _ h6).trans (by rw [hx]), ?_, ?_, ?_, ?_, ownG_same _ _ _, mv01, hm.move (grown_far hg6 hm.lt), vdone_start⟩, hk⟩
  · rw [ownG_other _ _ (by omega)]
    exact ho b (by omega)
  · show ownG o _ 8 w5.heap.size = 0
    rw [ownG_other _ _ (by omega)]; exact ho _ (by omega)
  · show ownG o _ 8 w.heap.size = 0
    rw [ownG_other _ _ (by omega)]; exact ho _ (Nat.le_refl _)
  · show ownG o _ 8 (w.heap.size + 1) = 0
    rw [ownG_other _ _ (by omega)]; exact ho _ (by omega)
  · show ownG o _ 8 (w5.heap.size + 1) = 0
    rw [ownG_other _ _ (by omega)]; exact ho _ (by omega)
def VisitPost (M : List Nd) (w : World) (o : Nat → Nat) (g : SG) (J : World → (Nat → Nat) → SG → List Nat → Prop) (n : Nat) (e : Ending) (w' : World) : Prop :=
  e = .returned (.tuple #[]) ∧ ∃ o', StoreM M w' o' g ∧ J w' o' g (vis g.ns [] n) ∧ Keep T8 w o w' o'
set_option maxHeartbeats 8000000 in
set_option maxRecDepth 100000 in
theorem visit_any {af : FuncId} {k1 : Value} (hS : SeeS af k1 J) (hs : StoreM M w o g) (hj : J w o g []) (n : Nat) (hn : n < g.ns.length) : Calls Try.prog 39 #[.pointer (some ⟨g.s, 0, none⟩), .int .i64 (n : Int), .func (.func af) #[] #[k1]] w (VisitPost M w o g J n) := by
  have hbd := hs.bd
  have qw : wrap32 (n : Int) = (n : Int) := wrap32_id (by omega)
  have qw2 : IntKind.i32.wrap (n : Int) = (n : Int) := IntWalk.i32_in _ (by omega)
  have hmm := @run_makeMap Try.prog
  have hmf : ∀ (fn : Fn) (first cap : Array Value) (w : World), (Instr.makeFunc fn first cap).run Try.prog w = .ok (.func fn first cap) w := fun _ _ _ _ => rfl
  obtain ⟨w3, hw3⟩ : ∃ w3, w3 = ((w.alloc (.cells #[.pointer (some ⟨g.s, 0, none⟩)] 23)).alloc (.cells #[.func (.func af) #[] #[k1]] 90)).alloc (.map #[] 0) := ⟨_, rfl⟩
  have hm0 : MapIs 21 w3 (w.heap.size + 1 + 1) (fun _ => none) := by
    have := MapIs.made (k := 21) ((w.alloc (.cells #[.pointer (some ⟨g.s, 0, none⟩)] 23)).alloc (.cells #[.func (.func af) #[] #[k1]] 90))
    rw [← hw3] at this
    have e : ((w.alloc (.cells #[.pointer (some ⟨g.s, 0, none⟩)] 23)).alloc (.cells #[.func (.func af) #[] #[k1]] 90)).heap.size = w.heap.size + 1 + 1 := by simp
    rw [e] at this
    exact this
  obtain ⟨w4, hr4, hm4, ht4⟩ := hm0.store K21 Try.underlying107 (isK21 (x := 0) (by omega)) (.agg #[])
  obtain ⟨w5, hr5, hm5, ht5⟩ := hm4.store K21 Try.underlying107 (isK21 (x := 1) (by omega)) (.agg #[])
  obtain ⟨oz, hnew⟩ := visitor_new hs af k1 _ hw3 (grown_trans ht4.grown ht5.grown) ((turned_size ht5).trans (turned_size ht4)) hm5 rfl
  have HC := Lib.hid (vis_any (E := ⟨w5.heap.size, w.heap.size, w.heap.size + 1, w5.heap.size + 1, w.heap.size + 1 + 1, af, k1⟩) (M := M) (g := g) hS n _ oz [] hnew.st hnew.at_ (hS.keep _ _ _ _ _ _ hj (hnew.keep.more (fun _ _ => rfl))) hn)
  have HKZ := Lib.hid (show Keep T8 w o _ oz from hnew.keep.more (fun _ _ => rfl))
  have hc : ((w5.alloc (.cells #[.map (some (w.heap.size + 1 + 1))] 107)).alloc (.cells #[.nilFunc] 108)).cell? ⟨w5.heap.size + 1, 0, none⟩ = some .nilFunc := by
    have := (MapKept.heap_alloc (w5.alloc (.cells #[.map (some (w.heap.size + 1 + 1))] 107)) (.cells #[.nilFunc] 108)).1
    have e : (w5.alloc (.cells #[.map (some (w.heap.size + 1 + 1))] 107)).heap.size = w5.heap.size + 1 := by simp
    rw [e] at this
    exact (cell_of this).trans rfl
  have hz : ((w5.alloc (.cells #[.map (some (w.heap.size + 1 + 1))] 107)).alloc (.cells #[.nilFunc] 108)).frozen? ⟨w5.heap.size + 1, 0, none⟩ = false := by
    have := (MapKept.heap_alloc (w5.alloc (.cells #[.map (some (w.heap.size + 1 + 1))] 107)) (.cells #[.nilFunc] 108)).1
    have e : (w5.alloc (.cells #[.map (some (w.heap.size + 1 + 1))] 107)).heap.size = w5.heap.size + 1 := by simp
    rw [e] at this
    exact frz_of this
  rw [hw3] at hr4
  clear hs hw3 hm0 hm4 ht4 hm5 ht5 hj hn hbd hnew hS
  unfold visV at HC HKZ
  go_enter Try.func39, Try.ntmps39
  go_wp2_with fail
  refine (HC.out).mono ?_
  rintro e w6 ⟨rfl, o6, hv6⟩
  have HR := Lib.hid (show VisitPost M w o g J n (.returned (.tuple #[])) w6 from ⟨rfl, o6, hv6.st, hv6.j_, HKZ.out.trans hv6.keep⟩)
  clear hv6
  go_wp2
  first | go_end0 | (simp only [Exit.inBlock, Exit.then]; refine bodyPost_ret (results_none rfl _ _ _) rfl ?_) | refine bodyPost_ret (results_none rfl _ _ _) rfl ?_
  exact HR.out
end

end Go.Proofs.Ytailpphafoamfaa
namespace Go.Proofs.Ytailpphafoamfaa
open Go Go.RowKit Go.Maps


/-- Counting what is met. -/
structure SizeJ (bx : Nat) (w : World) (o : Nat → Nat) (g : SG) (l : List Nat) : Prop where
  cell : w.heap[bx]? = some (.cells #[.int .i64 (wrap64 (l.length : Int))] 3 (0, 0))
  own : o bx = 10
section
variable {M : List Nd} {w w' w2 : World} {o o' o2 : Nat → Nat} {g : SG} {l l' : List Nat}
theorem SizeJ.keep {bx : Nat} (h : SizeJ bx w o g l) {T : Nat → Bool} (k : Keep T w o w' o') (ht : T 10 = false) : SizeJ bx w' o' g l :=
  have hl := (Array.getElem?_eq_some_iff.1 h.cell).1
  ⟨(k.blk _ hl (by rw [h.own]; exact ht)).trans h.cell, (k.own _ hl).trans h.own⟩
theorem wrap_succ (x : Int) : wrap64 (wrap64 x + 1) = wrap64 (x + 1) := by
  simp only [wrap64]
  omega
set_option maxHeartbeats 8000000 in
set_option maxRecDepth 100000 in
theorem size1_any {bx : Nat} (h : StoreM M w o g) (hj : SizeJ bx w o g l) (i : Nat) (n : Nd) : Calls Try.prog 40 #[ndV n, .pointer (some ⟨bx, 0, none⟩)] w fun e w' => e = .returned (.tuple #[]) ∧ ∃ o', StoreM M w' o' g ∧ SizeJ bx w' o' g (l ++ [i]) ∧ Keep (· == 10) w o w' o' := by
  have hbl := (Array.getElem?_eq_some_iff.1 hj.cell).1
  have hc : w.cell? ⟨bx, 0, none⟩ = some (.int .i64 (wrap64 (l.length : Int))) := (cell_of hj.cell).trans rfl
  have hz := frz_of hj.cell (i := 0)
  have HH := Lib.hid h
  have HJ := Lib.hid hj
  unfold ndV
  clear h hj
  obtain ⟨y, hy⟩ : ∃ y, wrap64 (l.length : Int) = y := ⟨_, rfl⟩
  rw [hy] at hc
  go_enter Try.func40, Try.ntmps40
  go_wp2
  first | go_end0 | (simp only [Exit.inBlock, Exit.then]; refine bodyPost_ret (results_none rfl _ _ _) rfl ?_) | refine bodyPost_ret (results_none rfl _ _ _) rfl ?_
  have k1 : Keep (· == 10) w o (w.setCell ⟨bx, 0, none⟩ (.int .i64 (wrap64 (y + 1)))) o := Keep.grown (grown_set w _ _) (fun k hk => by cases hk; show (o bx == 10) = true; rw [HJ.out.own]; rfl) (fun _ _ => rfl)
  have k2 := k1.trans (keep_alloc (· == 10) _ o (.cells #[.int .i32 (n.v : Int), .int .i32 (n.a : Int), .int .i32 (n.b : Int)] 63))
  refine ⟨rfl, o, HH.out.keep k2 ⟨rfl, rfl, rfl⟩ (fun b hb => HH.out.new b (Nat.le_trans k2.size hb)), ⟨?_, HJ.out.own⟩, k2⟩
  have hs := heap_set (i := 0) (.int .i64 (wrap64 (y + 1))) HJ.out.cell
  rw [heap_alloc_old (by simp [World.setCell]; exact hbl), hs, ← hy, wrap_succ]
  simp
theorem size_see (bx : Nat) : SeeS 40 (.pointer (some ⟨bx, 0, none⟩)) (SizeJ bx) where
  enters := enters_of Try.func40 (by kernel_rfl) rfl
  keep := fun w w' o o' g l h k => h.keep k rfl
  run := fun M w o g l i n h hj _ _ => size1_any h hj i n
def SizePost (M : List Nd) (w : World) (o : Nat → Nat) (g : SG) (f : Int) (e : Ending) (w' : World) : Prop :=
  (∃ o', StoreM M w' o' g ∧ Keep T0 w o w' o') ∧ e = .returned (if okB g.ns.length f = true then .tuple #[.int .i64 (wrap64 ((vis g.ns [] f.toNat).length : Int)), .int .i64 0] else .tuple #[.int .i64 0, .int .i64 92])
set_option maxHeartbeats 8000000 in
set_option maxRecDepth 100000 in
theorem size_bad (h : StoreM M w o g) (f : Int) (hv : okB g.ns.length f = false) : Calls Try.prog 20 #[.pointer (some ⟨g.s, 0, none⟩), .int .i64 f] w (SizePost M w o g f) := by
  have HV := Lib.hid (hasNodes_any (h.alloc (.cells #[.int .i64 f] 3)) (nums_one w f) (by simp))
  have e0 : allB g.ns.length [f] = false := by simp [allB, hv]
  rw [e0] at HV
  have HE := Lib.hid (show SizePost M w o g f (.returned (.tuple #[.int .i64 0, .int .i64 92])) (w.alloc (.cells #[.int .i64 f] 3)) from ⟨⟨o, h.alloc _, keep_alloc _ _ _ _⟩, by rw [if_neg (by rw [hv]; simp)]⟩)
  have hnot : ∀ (x : Bool) (w : World), (Op.unary .not (.bool x)).run Try.prog w = .ok (.bool (!x)) w := fun _ _ => rfl
  clear h hv e0
  go_enter Try.func20, Try.ntmps20
  go_wp2_with fail
  refine (HV.out).mono ?_
  rintro e w1 ⟨rfl, rfl⟩
  go_wp2
  go_ret2
  exact HE.out
theorem tagged (hs : StoreM M w o g) (x : Obj) (t : Nat) : StoreM M (w.alloc x) (ownG o w.heap.size t) g ∧ Keep (fun _ => false) w o (w.alloc x) (ownG o w.heap.size t) := by
  have hk : Keep (fun _ => false) w o (w.alloc x) (ownG o w.heap.size t) := Keep.grown (grown_alloc _ _) (by simp) (fun k hk => ownG_other _ _ (by omega))
  refine ⟨hs.keep hk ⟨rfl, rfl, rfl⟩ (fun b hb => ?_), hk⟩
  have : (w.alloc x).heap.size = w.heap.size + 1 := by simp
  rw [ownG_other _ _ (by omega)]
  exact hs.new b (by omega)
set_option maxHeartbeats 8000000 in
set_option maxRecDepth 100000 in
theorem size_good (h : StoreM M w o g) (f : Nat) (hv : f < g.ns.length) : Calls Try.prog 20 #[.pointer (some ⟨g.s, 0, none⟩), .int .i64 (f : Int)] w (SizePost M w o g (f : Int)) := by
  have HV := Lib.hid (hasNodes_any (h.alloc (.cells #[.int .i64 (f : Int)] 3)) (nums_one w (f : Int)) (by simp))
  have e1 := okB_of hv
  have e0 : allB g.ns.length [(f : Int)] = true := by simp [allB, e1]
  rw [e0] at HV
  have hnot : ∀ (x : Bool) (w : World), (Op.unary .not (.bool x)).run Try.prog w = .ok (.bool (!x)) w := fun _ _ => rfl
  have hmf : ∀ (fn : Fn) (first cap : Array Value) (w : World), (Instr.makeFunc fn first cap).run Try.prog w = .ok (.func fn first cap) w := fun _ _ _ _ => rfl
  have HA := Lib.hid (h.alloc (.cells #[.int .i64 (f : Int)] 3))
  have HKA := Lib.hid (keep_alloc T0 w o (.cells #[.int .i64 (f : Int)] 3))
  have HE1 := Lib.hid e1
  have HF := Lib.hid hv
  clear h hv e0 e1
  go_enter Try.func20, Try.ntmps20
  go_wp2_with fail
  refine (HV.out).mono ?_
  rintro e w1 ⟨rfl, hw1⟩
  rw [hw1] at HA HKA
  clear hw1
  obtain ⟨t1, t2⟩ := tagged HA.out (.cells #[.int .i64 0] 3) 10
  have hj : SizeJ w1.heap.size (w1.alloc (.cells #[.int .i64 0] 3)) (ownG o w1.heap.size 10) g [] := ⟨(MapKept.heap_alloc w1 (.cells #[.int .i64 0] 3)).1.trans (by simp [wrap64]), ownG_same _ _ _⟩
  have HVI := Lib.hid (visit_any (size_see w1.heap.size) t1 hj f HF.out)
  have HKV := Lib.hid (show Keep T0 w o _ _ from HKA.out.trans (t2.more (t0_of rfl)))
  clear t1 t2 hj
  go_wp2_with fail
  refine (HVI.out).mono ?_
  rintro e w2 ⟨rfl, o2, hs2, hj2, hk2⟩
  have hc : w2.cell? ⟨w1.heap.size, 0, none⟩ = some (.int .i64 (wrap64 ((vis g.ns [] f).length : Int))) := (cell_of hj2.cell).trans rfl
  have HFIN := Lib.hid (show SizePost M w o g (f : Int) (.returned (.tuple #[.int .i64 (wrap64 ((vis g.ns [] f).length : Int)), .int .i64 0])) w2 from ⟨⟨o2, hs2, HKV.out.trans (hk2.more (t0_of rfl))⟩, by rw [if_pos HE1.out]; rfl⟩)
  obtain ⟨y, hy⟩ : ∃ y, wrap64 ((vis g.ns [] f).length : Int) = y := ⟨_, rfl⟩
  rw [hy] at hc HFIN
  clear hs2 hj2 hk2 hy
  go_wp2
  go_ret2
  exact HFIN.out
theorem size_any (h : StoreM M w o g) (f : Int) : Calls Try.prog 20 #[.pointer (some ⟨g.s, 0, none⟩), .int .i64 f] w (SizePost M w o g f) := by
  cases hv : okB g.ns.length f with
  | false => exact size_bad h f hv
  | true =>
    obtain ⟨k, rfl, hk⟩ := okB_nat hv
    exact size_good h k hk
end

end Go.Proofs.Ytailpphafoamfaa
