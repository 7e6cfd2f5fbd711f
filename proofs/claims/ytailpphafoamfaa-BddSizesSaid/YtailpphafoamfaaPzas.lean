/- What is built: the walk. -/
import Derived.Test.YtailpphafoamfaaPzar
set_option linter.all false
namespace Go.Proofs.Ytailpphafoamfaa
open Go Go.RowKit Go.Maps


/-- The rows of no and yes, so far. -/
structure NY (base : Nat) (w : World) (a b : Value) (i : Nat) : Prop where
  no : BRow base w a (List.replicate i false)
  yes : BRow base w b (List.replicate i true)
  dis : ∀ q, a.ownBlock = some q → b.ownBlock ≠ some q
theorem BRow.row {base : Nat} {w w' : World} {v : Value} {l : List Bool} {row : Option Nat} (h : BRow base w v l) (hg : w.grownBy w' row) (hne : ∀ b, v.ownBlock = some b → row ≠ some b) : BRow base w' v l := World.ownsRow.kept h hg (by
  cases hv : v.ownBlock with
  | none => exact .inl rfl
  | some b => right; intro e; exact hne b hv e.symm)
theorem BRow.push {base : Nat} {w : World} {v : Value} {i : Nat} {x : Bool} (h : w.ownsRow base 4 1 v ((List.replicate i x).length + 1) ((List.replicate i x).map Value.bool ++ [.bool x])) : BRow base w v (List.replicate (i + 1) x) := by
  unfold BRow
  rw [List.replicate_succ', List.map_append, List.length_append]
  exact h
/-- What the rounds keep. -/
structure Lp (W : World) (n : Nat) (g : SG) (w : World) (o : Nat → Nat) (g' : SG) (lv tv : Value) (ls : List Nat) (ts : List (List Bool)) (us : List Value) (i : Nat) : Prop where
  st : StoreAt w o g'
  kp : Keep T0 W (fun _ => 0) w o
  ups : Ups g g'
  bt : Bt W.heap.size w o lv tv ls ts us
  good : Good n g' ls ts
  le : ls.length ≤ i + 2
  room : g'.ns.length ≤ 2 + 64 * i
theorem two_row {w : World} {base b : Nat} {e : TypeId} {x y : Value} (hh : w.heap[b]? = some (.cells #[x, y] e (0, 0))) (hb : base ≤ b) : w.ownsRow base e 1 (.slice (some ⟨b, 0, none⟩) 2 2) 2 [x, y] :=
  ⟨rfl, .inr ⟨b, 2, #[x, y], rfl, hb, hh, Nat.le_refl _, by unfold maxLen; omega, rfl, rfl⟩⟩
theorem tab_rep {n N : Nat} {x : Bool} (hN : 2 ^ n = N) : List.replicate N x = tabF n (fun _ => x) := by
  unfold tabF
  rw [hN, List.map_const', List.length_range]
theorem Lp.start {W w wr : World} {o : Nat → Nat} {g : SG} {n N : Nat} {a b : Value} (h : StoreAt w o g) (hk : Keep T0 W (fun _ => 0) w o) (hN : 2 ^ n = N) (h2 : g.ns.length = 2) (hny : NY w.heap.size wr a b N) (hb : w.grownBy wr none) :
    Lp W n g ((wr.alloc (.cells #[.int .i64 0, .int .i64 1] 3)).alloc (.cells #[a, b] 32)) o g (.slice (some ⟨wr.heap.size, 0, none⟩) 2 2) (.slice (some ⟨wr.heap.size + 1, 0, none⟩) 2 2) [0, 1] [List.replicate N false, List.replicate N true] [a, b] 0 := by
  have s1 : (wr.alloc (.cells #[.int .i64 0, .int .i64 1] 3)).heap.size = wr.heap.size + 1 := by simp
  have h1 : ((wr.alloc (.cells #[.int .i64 0, .int .i64 1] 3)).alloc (.cells #[a, b] 32)).heap[wr.heap.size]? = some (.cells #[.int .i64 0, .int .i64 1] 3 (0, 0)) := (heap_alloc_old (by rw [s1]; omega)).trans (MapKept.heap_alloc wr _).1
  have h3 : ((wr.alloc (.cells #[.int .i64 0, .int .i64 1] 3)).alloc (.cells #[a, b] 32)).heap[wr.heap.size + 1]? = some (.cells #[a, b] 32 (0, 0)) := by
    have := (MapKept.heap_alloc (wr.alloc (.cells #[.int .i64 0, .int .i64 1] 3)) (.cells #[a, b] 32)).1
    rw [s1] at this
    exact this
  have hg : w.grownBy ((wr.alloc (.cells #[.int .i64 0, .int .i64 1] 3)).alloc (.cells #[a, b] 32)) none := grown_trans (grown_trans hb (grown_alloc _ _)) (grown_alloc _ _)
  have hW : W.heap.size ≤ w.heap.size := hk.size
  have hw : w.heap.size ≤ wr.heap.size := hb.size
  have hno := (hny.no.alloc (.cells #[.int .i64 0, .int .i64 1] 3)).alloc (.cells #[a, b] 32)
  have hyes := (hny.yes.alloc (.cells #[.int .i64 0, .int .i64 1] 3)).alloc (.cells #[a, b] 32)
  have hlt : ∀ {v : Value} {x : Bool} (q : Nat), BRow w.heap.size wr v (List.replicate N x) → v.ownBlock = some q → w.heap.size ≤ q ∧ q < wr.heap.size := fun q hr hq => hr.lt q hq
  refine ⟨h.grown hg, hk.trans (keep_none _ _ hg), Ups.refl g, ⟨two_row h1 (by omega), two_row h3 (by omega), rfl, fun j u hu => ?_, fun q hq => ?_, fun q hq => ?_, fun q hq hq2 => ?_, fun j u q hu hq => ?_⟩, ⟨rfl, Nat.le_refl _, fun j hj => ?_⟩, Nat.le_refl _, by omega⟩
  · match j, hu with
    | 0, hu => cases hu; exact hno.tag fun q hq => h.new q (hlt q hny.no hq).1
    | 1, hu => cases hu; exact hyes.tag fun q hq => h.new q (hlt q hny.yes hq).1
    | j + 2, hu => simp at hu
  · cases hq; exact h.new _ hw
  · cases hq; exact h.new _ (by show w.heap.size ≤ wr.heap.size + 1; omega)
  · cases hq
    have := Option.some.inj hq2
    simp at this
  · have key : q < wr.heap.size := by
      match j, hu with
      | 0, hu => cases hu; exact (hlt q hny.no hq).2
      | 1, hu => cases hu; exact (hlt q hny.yes hq).2
      | j + 2, hu => simp at hu
    refine ⟨by simp; omega, ?_, ?_⟩
    · intro e; have := Option.some.inj e; simp at this; omega
    · intro e; have := Option.some.inj e; simp at this; omega
  · match j, hj with
    | 0, _ => exact ⟨by show 0 < _; omega, (tab_rep hN).trans (tab_hang fun m => (ev0 m).symm)⟩
    | 1, _ => exact ⟨by show 1 < _; omega, (tab_rep hN).trans (tab_hang fun m => (ev1 m).symm)⟩
    | j + 2, hj => simp at hj; omega
theorem Lp.grown {W w w' : World} {n : Nat} {g g' : SG} {o : Nat → Nat} {lv tv : Value} {ls : List Nat} {ts : List (List Bool)} {us : List Value} {i : Nat} (h : Lp W n g w o g' lv tv ls ts us i) (hg : w.grownBy w' none) : Lp W n g w' o g' lv tv ls ts us i :=
  ⟨h.st.grown hg, h.kp.trans (keep_none _ _ hg), h.ups, h.bt.grown hg, h.good, h.le, h.room⟩
/-- What an act leaves, where there is room. -/
theorem op_ok {w w' : World} {o : Nat → Nat} {g : SG} {F : (Nat → Bool) → Bool} {e : Ending} (h : OpPost w o g F 5000 0 e w') (hV : g.V ≤ 6) (hr : 100000 ≤ g.room) (hl : g.ns.length ≤ 20000) :
    ∃ (r : Nat) (o' : Nat → Nat) (g' : SG), e = .returned (.tuple #[.int .i64 (r : Int), .int .i64 0]) ∧ StoreAt w' o' g' ∧ Keep T0 w o w' o' ∧ Ups g g' ∧ r < g'.ns.length ∧ g'.ns.length ≤ g.ns.length + 64 ∧ ∀ m, ev g'.ns r m = F m := by
  obtain ⟨o', g', hz⟩ := h
  have hp := pow6 hV
  rcases hz.res with ⟨-, -, h1 | h1⟩ | ⟨r, h1, h2, h3, h4⟩
  · omega
  · omega
  · exact ⟨r, o', g', h1, hz.st, hz.keep, hz.ups, h2, by omega, h4⟩
section
variable {P : Program} (w : World)
/-- append of one cell that lies alone in a block, onto a row of the call's own, at the operation. -/
theorem wp_push {o : Oper} {a : Act} {K : Act → World → Prop} {Q : Exit → Act → World → Prop} (s x : Operand) (t : TypeId)
    (ho : o.op = .call { callee := .builtin .append, args := #[s, x], argTypes := #[t, t] }) (e : TypeId) (i : TypeInfo) (z : Value) (bytes : Nat) (ht : P.underlying t = some (.slice e)) (hi : P.info? e = some i) (hz : i.zero = some z) (hsize : i.size = 1) (hby : i.bytes = bytes) (hzs : z.cells.size = 1) (hbb : bytes ≤ 24)
    (base : Nat) (v : Value) (n : Nat) (us : List Value) (hs : a.eval s = v) (hown : w.ownsRow base e 1 v n us) (b c : Nat) (u : Value) (hx : a.eval x = .slice (some ⟨b, 0, none⟩) 1 c) (hu : w.cell? ⟨b, 0, none⟩ = some u) (h1 : u.oneCell' = true) (hl : n ≤ 1000000) (hbase : base ≤ w.heap.size)
    (h : ∀ v' w', w'.ownsRow base e 1 v' (n + 1) (us ++ [u]) → w.grownBy w' v.ownBlock → (v'.ownBlock = v.ownBlock ∨ v'.ownBlock = some w.heap.size) → K (a.put o.dst v') w') : o.wp P a w K Q := by
  obtain ⟨v', w', hr, h2, h3, h4, h5⟩ := run_append_own_at (P := P) w base t o.type e i z 1 bytes ht hi hz hsize hby hzs (by decide) v n us hown ⟨b, 0, none⟩ 1 c [u] rfl (fun j y hy => by
    have : j = 0 := by have := (List.getElem?_eq_some_iff.1 hy).1; simpa using this
    subst this
    simp at hy
    subst hy
    exact hu) (fun y hy => by simp at hy; subst hy; exact h1) (by unfold maxLen; omega) (by
      have : (n + 1) * bytes ≤ (n + 1) * 24 := Nat.mul_le_mul_left _ hbb
      omega) hbase
  unfold Oper.wp execOp
  simp only [ho, resolve, invoke, builtin, Sem.run_bind, Sem.run_pure, Result.andThen_ok, List.map_toArray, List.map_cons, List.map_nil, hs, hx, hr]
  exact h v' w' h2 h3 h5
end
theorem ent_of {w : World} {base : Nat} {b off M c A : Nat} {us : List Value} {u : Value} (h : w.ownsRow base 32 1 (.slice (some ⟨b, off, none⟩) M c) us.length us) (hA : A < M) (hu : w.cell? ⟨b, off + A, none⟩ = some u) : ∃ j : Nat, us[j]? = some u := by
  have h0 := h
  obtain ⟨-, h2⟩ := h
  rcases h2 with ⟨h3, -⟩ | ⟨g, cap, cur, h3, -⟩
  · cases h3
  · simp at h3
    obtain ⟨⟨rfl, rfl⟩, rfl, rfl⟩ := h3
    have h8 := World.ownsRow.cells (g := b) h0 rfl A us[A] (List.getElem?_eq_getElem hA)
    refine ⟨A, ?_⟩
    rw [List.getElem?_eq_getElem hA, ← hu]
    unfold Addr.add at h8
    by_cases e : A = 0
    · subst e; simpa using h8.symm
    · simpa [e] using h8.symm
theorem info32 : (Try.prog.info? 32).map (fun i => (i.zero, i.size, i.bytes)) = some (some (.slice none 0 0), 1, 24) := by kernel_rfl
def BuiltPost (W : World) (n : Nat) (g : SG) (e : Ending) (w' : World) : Prop :=
  ∃ (o' : Nat → Nat) (g' : SG) (lv tv : Value) (ls : List Nat) (ts : List (List Bool)) (us : List Value), e = .returned (.tuple #[lv, tv, .bool true]) ∧ Lp W n g w' o' g' lv tv ls ts us 30
set_option maxHeartbeats 60000000 in
set_option maxRecDepth 100000 in
theorem built_any {W w : World} {o : Nat → Nat} {g : SG} {n : Nat} {av : Value} {ac : List ActI} (h : StoreAt w o g) (hk : Keep T0 W (fun _ => 0) w o) (hn : 1 ≤ n ∧ n ≤ 6) (hV : g.V = n) (hroom : 100000 ≤ g.room) (h2 : g.ns.length = 2) (ha : Acts W av ac) (hal : ac.length ≤ 9223372036854775807) (hav : ∀ a ∈ ac, a.vs.length ≤ 9223372036854775807) :
    Calls Try.prog 12 #[.pointer (some ⟨g.s, 0, none⟩), .int .i64 (n : Int), av] w (BuiltPost W n g) := by
  obtain ⟨i0, hi0, hz0, hz1, hz2⟩ := info_parts info4
  obtain ⟨j0, hj0, hj1, hj2, hj3⟩ := info_parts info3
  obtain ⟨k0, hk0, hk1, hk2', hk3⟩ := info_parts info32
  have HH := Lib.hid h
  have HK := Lib.hid hk
  have HN := Lib.hid hn
  have HV := Lib.hid hV
  have HR := Lib.hid hroom
  have H2 := Lib.hid h2
  have HA := Lib.hid ha
  have HAV := Lib.hid hav
  have HAL := Lib.hid hal
  obtain ⟨Aa, ca, rfl, -⟩ := ha
  obtain ⟨M, hM⟩ : ∃ M, ac.length = M := ⟨_, rfl⟩
  have HM := Lib.hid hM
  rw [hM]
  obtain ⟨N, hN⟩ : ∃ N, 2 ^ n = N := ⟨_, rfl⟩
  have HNN := Lib.hid hN
  have hp := pow6 hn.2
  have HN6 := Lib.hid (show N ≤ 64 from by omega)
  have qn : (n : Int) ≤ 6 := by omega
  have qN : (N : Int) ≤ 64 := by omega
  have w1 : IntKind.u64.wrap (n : Int) = (n : Int) := IntWalk.u64_in _ (by omega)
  have w2 : IntKind.i64.wrap (2 ^ n) = 2 ^ n := wrap_pown hn.2
  clear h hk hn hV hroom h2 hav hal hM hN hp
  go_enter Try.func12, Try.ntmps12
  go_wp2
  go_loopw [9, 10, 11] (fun a b j wr => ∃ i : Nat, j = .int .i64 (i : Int) ∧ i ≤ N ∧ Hid (NY w.heap.size wr a b i) ∧ Hid (w.grownBy wr none)) (fun _ _ j _ => N - (intOf j).toNat)
  case atStart =>
    refine ⟨0, rfl, Nat.zero_le _, Lib.hid ⟨(BRow.made w (Nat.le_refl _)).alloc _, ?_, ?_⟩, Lib.hid (grown_trans (grown_alloc _ _) (grown_alloc _ _))⟩
    · have := BRow.made (base := w.heap.size) (w.alloc (.cells #[] 4)) (by simp)
      simpa using this
    · intro q hq hq2
      cases hq
      have := Option.some.inj hq2
      simp at this
  case round =>
    obtain ⟨i, rfl, hk, hm, hb⟩ := hrel
    have HMM := hm
    have HB := hb
    by_cases hlt : i < N
    · have q1 : (i : Int) < 2 ^ n := lt_pow HNN.out hlt
      have q64 : (i : Int) < 64 := by have := HN6.out; omega
      have HLT := Lib.hid hlt
      have QL := fun (x : Bool) => Lib.hid (show (List.replicate i x).length ≤ 1000000 from by rw [List.length_replicate]; have := HN6.out; omega)
      have QB := fun o : Obj => Lib.hid (show w.heap.size ≤ (wr.alloc o).heap.size from Nat.le_trans HB.out.size (by simp))
      clear hk hm hb hlt
      go_wp2_with (first
        | (at_builtin
           refine wpList_push _ rfl (.tmp 29) (.tmp 30) 32 rfl 4 i0 (.bool false) 1 Try.underlying32 hi0 hz0 hz1 hz2 rfl (by decide) w.heap.size u9 _ _ rfl (HMM.out.no.alloc _) wr.heap.size 1 (.bool false) rfl (cell_new _ _ _) rfl (QL false).out (QB _).out ?_
           intro o2 w3 hown2 hgrow2 hat2
           have HO2 := Lib.hid (BRow.push hown2)
           have HG2 := Lib.hid hgrow2
           have HAT2 := Lib.hid hat2
           have HY2 := Lib.hid ((HMM.out.yes.alloc (.cells #[.bool false] 4)).row hgrow2 (fun b hb e => HMM.out.dis b e hb))
           have HB3 := Lib.hid (grown_own (grown_trans HB.out (grown_alloc wr _)) (fun b hb => (HMM.out.no.lt b hb).1) hgrow2)
           have QB3 := fun o : Obj => Lib.hid (show w.heap.size ≤ (w3.alloc o).heap.size from Nat.le_trans HB3.out.size (by simp))
           clear hown2 hgrow2 hat2)
        | (at_builtin
           refine wpList_push _ rfl (.tmp 32) (.tmp 33) 32 rfl 4 i0 (.bool false) 1 Try.underlying32 hi0 hz0 hz1 hz2 rfl (by decide) w.heap.size u10 _ _ rfl (HY2.out.alloc _) w3.heap.size 1 (.bool true) rfl (cell_new _ _ _) rfl (QL true).out (QB3 _).out ?_
           intro o3 w4 hown3 hgrow3 hat3
           have HO3 := Lib.hid (BRow.push hown3)
           have HG3 := Lib.hid hgrow3
           have HAT3 := Lib.hid hat3
           clear hown3 hgrow3 hat3))
      have HNY := Lib.hid (show NY w.heap.size w4 o2 o3 (i + 1) from by
        have d1 : ∀ q, o2.ownBlock = some q → o3.ownBlock ≠ some q := fun q hq hq3 => by
          have l2 := HO2.out.lt q hq
          rcases HAT3.out with e | e
          · rw [e] at hq3
            rcases HAT2.out with e2 | e2
            · exact HMM.out.dis q (by rw [← e2]; exact hq) hq3
            · rw [e2] at hq
              cases hq
              have := ((HMM.out.yes.alloc (.cells #[.bool false] 4)).lt _ hq3).2
              omega
          · rw [e] at hq3
            cases hq3
            have : (w3.alloc (.cells #[.bool true] 4)).heap.size = w3.heap.size + 1 := by simp
            omega
        refine ⟨(HO2.out.alloc _).row HG3.out (fun b hb e => ?_), HO3.out, d1⟩
        rcases HAT2.out with e2 | e2
        · exact HMM.out.dis b (by rw [← e2]; exact hb) e
        · rw [e2] at hb
          cases hb
          have := ((HMM.out.yes.alloc (.cells #[.bool false] 4)).lt _ e).2
          omega)
      have HB4 := Lib.hid (grown_own (grown_trans HB3.out (grown_alloc w3 _)) (fun b hb => (HY2.out.lt b hb).1) HG3.out)
      go_roundw
      case rel => exact ⟨i + 1, by go_num, HLT.out, HNY, HB4⟩
      case measure => simp [intOf]; have := HLT.out; omega
    · obtain rfl : i = N := by omega
      have q1 : ¬ (i : Int) < 2 ^ n := not_lt_pow HNN.out
      have HB := hb
      have HST := Lib.hid (Lp.start HH.out HK.out HNN.out H2.out hm.out hb.out)
      obtain ⟨A9, c9, h9⟩ := hm.out.no.form
      obtain ⟨A10, c10, h10⟩ := hm.out.yes.form
      subst h9 h10
      rw [List.length_replicate] at HST ⊢
      rw [List.length_replicate] at HST ⊢
      obtain ⟨wo, hwo⟩ : ∃ wo, wr = wo := ⟨_, rfl⟩
      rw [hwo] at HST ⊢
      clear hk hlt hm hb hwo
      go_wp2
      go_loopw [12, 13, 14] (fun lv tv j wr => ∃ i : Nat, j = .int .i64 (i : Int) ∧ i ≤ 30 ∧ i ≤ M ∧ Hid (∃ (o' : Nat → Nat) (g' : SG) (ls : List Nat) (ts : List (List Bool)) (us : List Value), Lp W n g wr o' g' lv tv ls ts us i)) (fun _ _ j _ => 30 - (intOf j).toNat)
      case atStart => exact ⟨0, rfl, Nat.zero_le _, Nat.zero_le _, Lib.hid ⟨o, g, _, _, _, HST.out⟩⟩
      case round =>
        obtain ⟨i, rfl, hk, hk2, hlp⟩ := hrel
        obtain ⟨o', g', ls, ts, us, hlp⟩ := hlp.out
        have HLP := Lib.hid hlp
        by_cases hlt : i < M ∧ i < 30
        · have q1 : (i : Int) < (M : Int) := by omega
          have q2 : (i : Int) < 30 := by omega
          have HLT := Lib.hid hlt
          obtain ⟨A', c', he, hc⟩ := HA.out.grown hlp.kp.none
          rw [HM.out] at he
          simp at he
          obtain ⟨rfl, rfl⟩ := he
          have hil : i < ac.length := by rw [HM.out]; exact hlt.1
          obtain ⟨ba, oa, rfl, hba, hcell⟩ := hc (by intro e; rw [e] at hil; simp at hil)
          obtain ⟨a, hai⟩ : ∃ a, ac[i]? = some a := ⟨_, List.getElem?_eq_getElem hil⟩
          obtain ⟨y0, y1, y2, y3, vv, y4, hvv⟩ := hcell i a hai
          have HMl := Lib.hid (show 1 ≤ ls.length ∧ ls.length ≤ 1000 from by have := hlp.good.two; have := hlp.le; omega)
          obtain ⟨k, A, B, C, B', C', vs, hok, hcall⟩ := fitted_any (K := a.K) (A0 := a.A) (B0 := a.B) (C0 := a.C) hvv HN.out HMl.out (HAV.out a (List.mem_of_getElem? hai))
          have HOKA := Lib.hid hok
          have HCALL := Lib.hid hcall
          obtain ⟨Al, cl, hfl⟩ := hlp.bt.lrow.form
          subst hfl
          rw [List.length_map] at HLP ⊢
          obtain ⟨m, hm⟩ : ∃ m, ls.length = m := ⟨_, rfl⟩
          have HMM := Lib.hid hm
          rw [hm] at HCALL HLP ⊢
          have qm : (m : Int) ≤ 1000 := by have := HMl.out.2; omega
          have hkp := hlp.kp
          clear hc hcell hba hai hvv hok hcall hk hk2 hlp hlt hm hil
          unfold actV at HCALL
          go_wp2_with fail
          refine (HCALL.out).mono ?_
          rintro e w1 ⟨v1, rfl, hir, hg1⟩
          have HL1 := Lib.hid (HLP.out.grown hg1)
          obtain ⟨Av1, cv1, hfv⟩ := hir.form
          subst hfv
          rw [List.length_map] at hir ⊢
          have HIR := Lib.hid hir
          clear hir hg1 y0 y1 y2 y3 y4 HCALL
          unfold actV
          have HCB := Lib.hid (show (w1.alloc (.cells #[.int .i64 (k : Int), .int .i64 (A : Int), .int .i64 B', .int .i64 C', .slice Av1 vs.length cv1] 51)).heap[w1.heap.size]? = some (.cells #[.int .i64 (k : Int), .int .i64 (A : Int), .int .i64 B', .int .i64 C', .slice Av1 vs.length cv1] 51 (0, 0)) from (MapKept.heap_alloc w1 _).1)
          have HL2 := Lib.hid (HL1.out.grown (grown_alloc w1 (.cells #[.int .i64 (k : Int), .int .i64 (A : Int), .int .i64 B', .int .i64 C', .slice Av1 vs.length cv1] 51)))
          have HV2 := Lib.hid (HIR.out.nums.grown (grown_alloc w1 (.cells #[.int .i64 (k : Int), .int .i64 (A : Int), .int .i64 B', .int .i64 C', .slice Av1 vs.length cv1] 51)))
          have HOB := Lib.hid (show o' w1.heap.size = 0 from HL1.out.st.new _ (Nat.le_refl _))
          have HVO := Lib.hid (show NumsO w1 o' (.slice Av1 vs.length cv1) (vs.map fun (x : Nat) => (x : Int)) from HIR.out.numsO HLP.out.st.new)
          have HVA := Lib.hid (HVO.out.keep (T := fun _ => false) (keep_alloc _ w1 o' (.cells #[.int .i64 (k : Int), .int .i64 (A : Int), .int .i64 B', .int .i64 C', .slice Av1 vs.length cv1] 51)) rfl)
          have HNV := Lib.hid (show ∀ bq, (Value.slice Av1 vs.length cv1).ownBlock = some bq → (Value.slice Al m cl).ownBlock ≠ some bq from fun bq hq e => by
            have h1 := (HIR.out.lt bq hq).1
            have h2 := (HLP.out.bt.lrow.lt bq e).2
            omega)
          have HM1 := Lib.hid (show m ≤ 1000 from by rw [← HMM.out]; exact HMl.out.2)
          have HGV := Lib.hid (show g'.V = n from HLP.out.ups.V.trans HV.out)
          have HGS := Lib.hid (show g'.s = g.s from HLP.out.ups.s)
          have HGR := Lib.hid (show 100000 ≤ g'.room from by rw [HLP.out.ups.room]; exact HR.out)
          obtain ⟨bt, ot, ct, htv, hbt, hot, hat⟩ := HL2.out.bt.tabs.at_ (M := m) (j0 := 0) (by rw [← HL2.out.good.len]; exact HMM.out) (by rw [← HMM.out]; exact HMl.out.1)
          have HNB := Lib.hid (show (Value.slice Al m cl).ownBlock ≠ some w1.heap.size ∧ (Value.slice (some ⟨bt, ot, none⟩) m ct).ownBlock ≠ some w1.heap.size from ⟨fun e => by have := (HL1.out.bt.lrow.lt _ e).2; omega, fun e => by rw [← htv] at e; have := (HL1.out.bt.trow.lt _ e).2; omega⟩)
          subst htv
          have HAT := Lib.hid hat
          have HBT := Lib.hid hbt
          clear hat hbt hot hkp
          go_wp2
          obtain ⟨wa, hwa⟩ : ∃ wa, w1.alloc (.cells #[.int .i64 (k : Int), .int .i64 (A : Int), .int .i64 B', .int .i64 C', .slice Av1 vs.length cv1] 51) = wa := ⟨_, rfl⟩
          obtain ⟨bx, hbx⟩ : ∃ bx, w1.heap.size = bx := ⟨_, rfl⟩
          rw [hwa, hbx] at HCB
          rw [hwa] at HL2 HVA HAT HBT ⊢
          rw [hbx] at HOB HNB ⊢
          clear hwa hbx HV2
          have x0 : wa.cell? ⟨bx, 0, none⟩ = some (.int .i64 (k : Int)) := (cell_of HCB.out).trans rfl
          have x1 : wa.cell? ⟨bx, 1, none⟩ = some (.int .i64 (A : Int)) := (cell_of HCB.out).trans rfl
          have x4 : wa.cell? ⟨bx, 4, none⟩ = some (.slice Av1 vs.length cv1) := (cell_of HCB.out).trans rfl
          by_cases hk7 : k = 7
          · have qk : ((k : Int) == 7) = true := by subst hk7; rfl
            have hk0' : k ≠ 0 := by omega
            have hAm : A < m := by have := (HOKA.out.s hk0').1.1; rw [HMM.out] at this; exact this
            obtain ⟨uA, kA, hbA⟩ := HAT.out A hAm
            have qA : (A : Int) < (m : Int) := by omega
            have HTA := Lib.hid (show ts.getD A [] = tabF n (ev g'.ns (ls.getD A 0)) ∧ ls.getD A 0 < g'.ns.length from by
              have := HL2.out.good.tab A (by rw [HMM.out]; exact hAm)
              exact ⟨this.2, this.1⟩)
            have HRNC := Lib.hid (renames_any (n := n) (hbA.bools.grown (grown_drewN wa 1)) (HVA.out.nums.grown (grown_drewN wa 1)) HN.out.2 (by rw [HTA.out.1, tab_len]))
            have HIFF := Lib.hid (show RenOk g' (ls.getD A 0) (vs.map fun (x : Nat) => (x : Int)) ↔ RenamesT (ts.getD A []) n (vs.map fun (x : Nat) => (x : Int)) from by
              have := renOk_iff HL2.out.st.wf HTA.out.2 (vs.map fun (x : Nat) => (x : Int))
              rw [HGV.out, ← HTA.out.1] at this
              exact this)
            have HLT2 := Lib.hid (show ∀ k ∈ [bx, bt], k < (World.drew wa).heap.size from fun q hq => by
              simp at hq
              rcases hq with rfl | rfl
              · exact (Array.getElem?_eq_some_iff.1 HCB.out).1
              · exact HBT.out)
            have HK7 := Lib.hid hk7
            clear hk0' hAm hbA hk7
            go_wp2
            refine wp_region_T (S := fun w' => ∀ k ∈ [bx, bt], w'.heap[k]? = wa.heap[k]?) (tail := fun _ => false) (by kernel_rfl) ?_
            change wpAnyT _ _ _ _ _ _ _ _ _ (World.drew wa)
            have BD := Lib.hid (show ∀ k ∈ [bx, bt], (World.drew wa).heap[k]? = wa.heap[k]? from fun _ _ => rfl)
            refine tk 0 57 (.pointer (some ⟨bx, 0, none⟩)) BD.out ?y0 ?_
            case y0 =>
              intro w' hw'
              go_simp
            try simp only [Act.put, List.setIfInBounds_toArray, List.set_cons_zero, List.set_cons_succ]
            refine tk 1 58 (.int .i64 (k : Int)) BD.out ?y1 ?_
            case y1 =>
              intro w' hw'
              have z0 := (World.cell?_of_block (a := ⟨bx, 0, none⟩) (hw' bx (by simp))).trans x0
              go_simp
            try simp only [Act.put, List.setIfInBounds_toArray, List.set_cons_zero, List.set_cons_succ]
            refine tk 2 59 (.bool true) BD.out ?y2 ?_
            case y2 =>
              intro w' hw'
              go_simp
            try simp only [Act.put, List.setIfInBounds_toArray, List.set_cons_zero, List.set_cons_succ]
            refine tk 3 60 (.bool true) BD.out ?y3 ?_
            case y3 =>
              intro w' hw'
              go_simp
            try simp only [Act.put, List.setIfInBounds_toArray, List.set_cons_zero, List.set_cons_succ]
            refine tk 4 61 (.slice (some ⟨bt, ot, none⟩) m ct) BD.out ?y4 ?_
            case y4 =>
              intro w' hw'
              go_simp
            try simp only [Act.put, List.setIfInBounds_toArray, List.set_cons_zero, List.set_cons_succ]
            refine tk 5 62 (.pointer (some ⟨bx, 1, none⟩)) BD.out ?y5 ?_
            case y5 =>
              intro w' hw'
              go_simp
            try simp only [Act.put, List.setIfInBounds_toArray, List.set_cons_zero, List.set_cons_succ]
            refine tk 6 63 (.int .i64 (A : Int)) BD.out ?y6 ?_
            case y6 =>
              intro w' hw'
              have z0 := (World.cell?_of_block (a := ⟨bx, 1, none⟩) (hw' bx (by simp))).trans x1
              go_simp
            try simp only [Act.put, List.setIfInBounds_toArray, List.set_cons_zero, List.set_cons_succ]
            refine tk 7 64 (.pointer (some ⟨bt, ot + A, none⟩)) BD.out ?y7 ?_
            case y7 =>
              intro w' hw'
              go_simp
            try simp only [Act.put, List.setIfInBounds_toArray, List.set_cons_zero, List.set_cons_succ]
            refine tk 8 65 (uA) BD.out ?y8 ?_
            case y8 =>
              intro w' hw'
              have z0 := (World.cell?_of_block (a := ⟨bt, ot + A, none⟩) (hw' bt (by simp))).trans kA
              go_simp
            try simp only [Act.put, List.setIfInBounds_toArray, List.set_cons_zero, List.set_cons_succ]
            refine tk 9 66 (.int .i64 ((n : Nat) : Int)) BD.out ?y9 ?_
            case y9 =>
              intro w' hw'
              go_simp
            try simp only [Act.put, List.setIfInBounds_toArray, List.set_cons_zero, List.set_cons_succ]
            refine tk 10 67 (.pointer (some ⟨bx, 4, none⟩)) BD.out ?y10 ?_
            case y10 =>
              intro w' hw'
              go_simp
            try simp only [Act.put, List.setIfInBounds_toArray, List.set_cons_zero, List.set_cons_succ]
            refine tk 11 68 (.slice Av1 vs.length cv1) BD.out ?y11 ?_
            case y11 =>
              intro w' hw'
              have z0 := (World.cell?_of_block (a := ⟨bx, 4, none⟩) (hw' bx (by simp))).trans x4
              go_simp
            try simp only [Act.put, List.setIfInBounds_toArray, List.set_cons_zero, List.set_cons_succ]
            refine on 12 (fun K hK => ?_)
            go_simp
            refine (HRNC.out).mono ?_
            rintro e z1 ⟨bb, rfl, hbi, hgz⟩
            obtain ⟨nb, hnb⟩ : ∃ nb, (!bb) = nb := ⟨_, rfl⟩
            have HNBB := Lib.hid hnb
            have HBI := Lib.hid hbi
            have HGZ := Lib.hid (grown_trans (grown_drewN wa 1) hgz)
            have B1 := Lib.hid (show ∀ k ∈ [bx, bt], z1.heap[k]? = wa.heap[k]? from fun k hk => grown_far hgz (HLT2.out k hk))
            clear hbi hgz hnb
            refine hK.out _ _ (fun _ => B1.out) ?_
            clear hK K
            try simp only [Act.put, List.setIfInBounds_toArray, List.set_cons_zero, List.set_cons_succ]
            refine tk 13 70 (.bool nb) B1.out ?y13 ?_
            case y13 =>
              intro w' hw'
              go_simp
              try (rw [← HNBB.out]; simp)
            try simp only [Act.put, List.setIfInBounds_toArray, List.set_cons_zero, List.set_cons_succ]
            refine tk 14 71 (.bool nb) B1.out ?y14 ?_
            case y14 =>
              intro w' hw'
              go_simp
              try rfl
            try simp only [Act.put, List.setIfInBounds_toArray, List.set_cons_zero, List.set_cons_succ]
            refine dn ?_
            clear x0 x1 x4 kA qk
            have HL3 := Lib.hid (show Lp W n g z1 o' g' _ _ ls ts us i from HL2.out.grown HGZ.out)
            have HC3 := Lib.hid ((grown_far HGZ.out (Array.getElem?_eq_some_iff.1 HCB.out).1).trans HCB.out)
            have HV3 := Lib.hid (HVA.out.keep (T := fun _ => false) (keep_none _ o' HGZ.out) rfl)
            cases nb with
            | false =>
              have HBT1 := Lib.hid (show bb = true from by have := HNBB.out; simpa using this)
              have HRENT := Lib.hid (show k = 7 → RenamesT (ts.getD A []) n (vs.map fun (x : Nat) => (x : Int)) from fun _ => HBI.out.1 HBT1.out)
              have HREN := Lib.hid (show k = 7 → RenOk g' (ls.getD A 0) (vs.map fun (x : Nat) => (x : Int)) from fun _ => HIFF.out.2 (HBI.out.1 HBT1.out))
              have HDO := Lib.hid (do_any HL3.out.st (by rw [HGV.out]; exact HN.out.2) HL3.out.bt.nums HL3.out.good.all.1 (by rw [HMM.out]; exact HM1.out) HOKA.out.k8 (by rw [HGV.out]; exact HOKA.out.z) HOKA.out.s HV3.out.nums (by have := HOKA.out.vl; have := HN.out; omega) (by rw [HGV.out]; exact HOKA.out.vn))
              have x0 : z1.cell? ⟨bx, 0, none⟩ = some (.int .i64 (k : Int)) := (cell_of HC3.out).trans rfl
              have x1 : z1.cell? ⟨bx, 1, none⟩ = some (.int .i64 (A : Int)) := (cell_of HC3.out).trans rfl
              have x2 : z1.cell? ⟨bx, 2, none⟩ = some (.int .i64 B') := (cell_of HC3.out).trans rfl
              have x3 : z1.cell? ⟨bx, 3, none⟩ = some (.int .i64 C') := (cell_of HC3.out).trans rfl
              have x4 : z1.cell? ⟨bx, 4, none⟩ = some (.slice Av1 vs.length cv1) := (cell_of HC3.out).trans rfl
              unfold actV at HDO
              rw [HGS.out] at HDO
              go_wp2_with fail
              refine (HDO.out).mono ?_
              intro e w2 hp
              obtain ⟨r, o2, g2, rfl, hst2, hk2, hu2, hr2, hl2, hev⟩ := op_ok (hp.1 HREN.out) (by rw [HGV.out]; exact HN.out.2) HGR.out (by have := HL3.out.room; have := HLT.out; omega)
              have HST2 := Lib.hid hst2
              have HK2 := Lib.hid hk2
              have HU2 := Lib.hid hu2
              have HR2 := Lib.hid hr2
              have HLN2 := Lib.hid hl2
              have HEV := Lib.hid hev
              have HBT2 := Lib.hid (HL3.out.bt.keep hk2 rfl)
              have HKP2 := Lib.hid (HL3.out.kp.trans hk2)
              have HGD2 := Lib.hid (HL3.out.good.ups hu2 HL3.out.st.wf hst2.wf)
              have HTB2 := Lib.hid (show doT n k A B C vs ts = tabF n (ev g2.ns r) from (doT_tab (G := fun j => ev g'.ns (ls.getD j 0)) (fun j hj => by
                  have h1 := HL3.out.good.tab j (by rw [HL3.out.good.len]; exact hj)
                  have h2 := HL3.out.st.wf.hangs h1.1
                  rw [HGV.out] at h2
                  exact ⟨h2, h1.2⟩) HOKA.out.z (fun hz => by rw [← HL3.out.good.len]; exact (HOKA.out.s hz).1) HOKA.out.vn).trans (tab_hang fun m => (hev m).symm))
              have HCW2 := Lib.hid ((hk2.blk bx (Array.getElem?_eq_some_iff.1 HC3.out).1 (by rw [HOB.out]; rfl)).trans HC3.out)
              have HVW2 := Lib.hid (HV3.out.keep hk2 rfl)
              have HO2B := Lib.hid (show o2 bx = 0 from (hk2.own bx (Array.getElem?_eq_some_iff.1 HC3.out).1).trans HOB.out)
              clear x0 x1 x2 x3 x4 hp hst2 hk2 hu2 hr2 hl2 hev HDO
              have c0 : w2.cell? ⟨bx, 0, none⟩ = some (.int .i64 (k : Int)) := (cell_of HCW2.out).trans rfl
              have c1 : w2.cell? ⟨bx, 1, none⟩ = some (.int .i64 (A : Int)) := (cell_of HCW2.out).trans rfl
              have c2 : w2.cell? ⟨bx, 2, none⟩ = some (.int .i64 B') := (cell_of HCW2.out).trans rfl
              have c3 : w2.cell? ⟨bx, 3, none⟩ = some (.int .i64 C') := (cell_of HCW2.out).trans rfl
              have c4 : w2.cell? ⟨bx, 4, none⟩ = some (.slice Av1 vs.length cv1) := (cell_of HCW2.out).trans rfl
              go_wp2
              refine wp_region_T (S := fun w' => ∀ k ∈ [bx], w'.heap[k]? = w2.heap[k]?) (tail := fun _ => false) (by kernel_rfl) ?_
              change wpAnyT _ _ _ _ _ _ _ _ _ (World.drew w2)
              have BD := Lib.hid (show ∀ k ∈ [bx], (World.drew w2).heap[k]? = w2.heap[k]? from fun _ _ => rfl)
              refine tk 0 94 (.slice Al m cl) BD.out ?y0 ?_
              case y0 =>
                intro w' hw'
                go_simp
              try simp only [Act.put, List.setIfInBounds_toArray, List.set_cons_zero, List.set_cons_succ]
              refine tk 1 95 (.int .i64 ((r : Nat) : Int)) BD.out ?y1 ?_
              case y1 =>
                intro w' hw'
                go_simp
              try simp only [Act.put, List.setIfInBounds_toArray, List.set_cons_zero, List.set_cons_succ]
              refine tk 4 98 (.slice (some ⟨bt, ot, none⟩) m ct) BD.out ?y4 ?_
              case y4 =>
                intro w' hw'
                go_simp
              try simp only [Act.put, List.setIfInBounds_toArray, List.set_cons_zero, List.set_cons_succ]
              refine tk 5 99 (.int .i64 ((n : Nat) : Int)) BD.out ?y5 ?_
              case y5 =>
                intro w' hw'
                go_simp
              try simp only [Act.put, List.setIfInBounds_toArray, List.set_cons_zero, List.set_cons_succ]
              refine tk 6 100 (.agg #[.int .i64 (k : Int), .int .i64 (A : Int), .int .i64 B', .int .i64 C', .slice Av1 vs.length cv1]) BD.out ?y6 ?_
              case y6 =>
                intro w' hw'
                have y0 := (World.cell?_of_block (a := ⟨bx, 0, none⟩) (hw' bx (by simp))).trans c0
                have y1 := (World.cell?_of_block (a := ⟨bx, 1, none⟩) (hw' bx (by simp))).trans c1
                have y2 := (World.cell?_of_block (a := ⟨bx, 2, none⟩) (hw' bx (by simp))).trans c2
                have y3 := (World.cell?_of_block (a := ⟨bx, 3, none⟩) (hw' bx (by simp))).trans c3
                have y4 := (World.cell?_of_block (a := ⟨bx, 4, none⟩) (hw' bx (by simp))).trans c4
                go_simp
              try simp only [Act.put, List.setIfInBounds_toArray, List.set_cons_zero, List.set_cons_succ]
              refine tk 7 101 (.slice (some ⟨bt, ot, none⟩) m ct) BD.out ?y7 ?_
              case y7 =>
                intro w' hw'
                go_simp
              try simp only [Act.put, List.setIfInBounds_toArray, List.set_cons_zero, List.set_cons_succ]
              have hb2 := (Array.getElem?_eq_some_iff.1 HCW2.out).1
              refine on 2 (fun K hK => ?_)
              go_simp
              have BA := Lib.hid (show ∀ k ∈ [bx], ((World.drew w2).alloc (.cells #[.int .i64 (r : Int)] 3)).heap[k]? = w2.heap[k]? from fun k hk => by
                simp at hk
                subst hk
                exact heap_alloc_old hb2)
              refine hK.out _ _ (fun _ => BA.out) ?_
              clear hK K
              try simp only [Act.put, List.setIfInBounds_toArray, List.set_cons_zero, List.set_cons_succ]
              have HBT3 := Lib.hid (HBT2.out.grown (grown_trans (grown_drewN w2 1) (grown_alloc _ (.cells #[.int .i64 (r : Int)] 3))))
              have HLR3 := Lib.hid (show ((World.drew w2).alloc (.cells #[.int .i64 (r : Int)] 3)).ownsRow W.heap.size 3 1 (.slice Al m cl) m ((ls.map fun (x : Nat) => (x : Int)).map (Value.int .i64)) from by
                have h1 := HBT3.out.lrow
                unfold IRow at h1
                rw [List.length_map, HMM.out] at h1
                exact h1)
              have hW2 := HKP2.out.size
              refine on 3 (fun K hK => ?_)
              refine wp_push _ (.tmp 94) (.tmp 96) 28 rfl 3 j0 (.int .i64 0) 8 Try.underlying28 hj0 hj1 hj2 hj3 rfl (by decide) W.heap.size (.slice Al m cl) m _ rfl HLR3.out (World.drew w2).heap.size 1 (.int .i64 (r : Int)) rfl (cell_new _ _ _) rfl (by have := HM1.out; omega) (by simp; exact Nat.le_trans hW2 (Nat.le_succ _)) ?_
              intro lv2 w4 hown4 hgrow4 hat4
              have hst3 : StoreAt ((World.drew w2).alloc (.cells #[.int .i64 (r : Int)] 3)) o2 g2 := HST2.out.drew.alloc _
              have hkp3 := HKP2.out.trans ((keep_drew T0 w2 o2).trans (keep_alloc T0 _ o2 (.cells #[.int .i64 (r : Int)] 3)))
              have HBT4 := Lib.hid (HBT3.out.pushL hgrow4 (by rw [HMM.out]; exact hown4) hat4 hst3.new)
              have HST4 := Lib.hid (hst3.row0 hgrow4 (fun b hb => HBT3.out.lo b hb))
              have HKP4 := Lib.hid (hkp3.row hgrow4 (fun b hb => (HBT3.out.lrow.lt b hb).1))
              have hne4 : (Value.slice Al m cl).ownBlock ≠ some bx := fun e => HNB.out.1 e
              have B4 := Lib.hid (show ∀ k ∈ [bx], w4.heap[k]? = w2.heap[k]? from fun k hk => by
                simp at hk
                subst hk
                exact (hgrow4.block k (by simp; exact Nat.lt_succ_of_lt hb2) (fun e => hne4 e.symm)).trans (heap_alloc_old hb2))
              have HVW4 := Lib.hid (show Nums w4 (.slice Av1 vs.length cv1) (vs.map fun (x : Nat) => (x : Int)) from by
                obtain ⟨Aq, cq, e1, e2⟩ := HVW2.out
                refine ⟨Aq, cq, e1, fun hne => ?_⟩
                obtain ⟨bq, oq, e3, e4, e5, e6⟩ := e2 hne
                have hbv : (Value.slice Al m cl).ownBlock ≠ some bq := HNV.out bq (by rw [e1, e3]; rfl)
                refine ⟨bq, oq, e3, Nat.lt_of_lt_of_le e4 (Nat.le_trans (by simp) hgrow4.size), fun j x hx => (World.cell?_of_block (a := ⟨bq, oq + j, none⟩) ((hgrow4.block bq (by simp; exact Nat.lt_succ_of_lt e4) (fun e => hbv e.symm)).trans (heap_alloc_old e4))).trans (e6 j x hx)⟩)
              have hlb4 : ∀ b, lv2.ownBlock = some b → b < w4.heap.size := fun b hb => (HBT4.out.lrow.lt b hb).2
              clear hown4 hgrow4 hat4 hst3 hkp3 hne4
              refine hK.out _ _ (fun _ => B4.out) ?_
              clear hK K
              try simp only [Act.put, List.setIfInBounds_toArray, List.set_cons_zero, List.set_cons_succ]
              have HRD := Lib.hid (rdo_any (k := k) (A := A) (B := B) (C := C) (B' := B') (C' := C') (vs := vs) HST4.out.new HBT4.out.tabs HN.out.2 HGD2.out.all.2 (by rw [← HGD2.out.len, HMM.out]; have := HM1.out; omega) HOKA.out.k8 HOKA.out.z (by rw [← HGD2.out.len]; exact HOKA.out.s) HVW4.out (by have := HOKA.out.vl; have := HN.out; omega) HOKA.out.vn HRENT.out)
              unfold actV at HRD
              refine on 8 (fun K hK => ?_)
              go_simp
              refine (HRD.out).mono ?_
              rintro e w5 ⟨u, rfl, hbo, hg5, hfrom⟩
              have hub : ∀ b, u.ownBlock = some b → b < w5.heap.size ∧ lv2.ownBlock ≠ some b ∧ (Value.slice (some ⟨bt, ot, none⟩) m ct).ownBlock ≠ some b := by
                have htl : (Value.slice (some ⟨bt, ot, none⟩) m ct).ownBlock = some bt := rfl
                intro b hb
                rcases hfrom with ⟨b', off, M', c', e1, eA, e2⟩ | hfr
                · cases e1
                  obtain ⟨j, hj⟩ := ent_of HBT4.out.trow eA e2
                  obtain ⟨d1, d2, d3⟩ := HBT4.out.dl j u b hj hb
                  exact ⟨Nat.lt_of_lt_of_le d1 hg5.size, d2, d3⟩
                · have h1 := hfr.1 b hb
                  refine ⟨?_, fun e => by have := hlb4 b e; omega, fun e => by have := (HBT4.out.trow.lt b e).2; omega⟩
                  obtain ⟨Au, cu, e1, e2⟩ := hbo
                  subst e1
                  obtain ⟨bu, ou, rfl, e3, -⟩ := e2 (by intro e0; have h9 := congrArg List.length e0; rw [HTB2.out, tab_len] at h9; exact absurd h9 (Nat.ne_of_gt (Nat.two_pow_pos n)))
                  cases hb
                  exact e3
              have HBO := Lib.hid hbo
              have HUB := Lib.hid hub
              have HBT5 := Lib.hid (HBT4.out.grown hg5)
              have HST5 := Lib.hid (HST4.out.grown hg5)
              have HKP5 := Lib.hid (HKP4.out.trans (keep_none T0 o2 hg5))
              have B5 := Lib.hid (show ∀ q ∈ [bx], w5.heap[q]? = w2.heap[q]? from fun q hq => by
                have h1 := B4.out q hq
                simp at hq
                subst hq
                exact (grown_far hg5 (by
                  have : w4.heap[q]? = some (.cells #[.int .i64 (k : Int), .int .i64 (A : Int), .int .i64 B', .int .i64 C', .slice Av1 vs.length cv1] 51 (0, 0)) := h1.trans HCW2.out
                  exact (Array.getElem?_eq_some_iff.1 this).1)).trans h1)
              obtain ⟨Au, cu, hfu, -⟩ := hbo
              subst hfu
              clear hg5 hfrom hub hlb4
              refine hK.out _ _ (fun _ => B5.out) ?_
              clear hK K
              try simp only [Act.put, List.setIfInBounds_toArray, List.set_cons_zero, List.set_cons_succ]
              obtain ⟨lu, hlu⟩ : ∃ lu, (doT n k A B C vs ts).length = lu := ⟨_, rfl⟩
              rw [hlu] at HBO HUB ⊢
              refine on 9 (fun K hK => ?_)
              go_simp
              have hb5 : bx < w5.heap.size := by
                have : w5.heap[bx]? = some (.cells #[.int .i64 (k : Int), .int .i64 (A : Int), .int .i64 B', .int .i64 C', .slice Av1 vs.length cv1] 51 (0, 0)) := (B5.out bx (by simp)).trans HCW2.out
                exact (Array.getElem?_eq_some_iff.1 this).1
              have B6 := Lib.hid (show ∀ q ∈ [bx], (w5.alloc (.cells #[.slice Au lu cu] 32)).heap[q]? = w2.heap[q]? from fun q hq => by
                have h1 := B5.out q hq
                simp at hq
                subst hq
                exact (heap_alloc_old hb5).trans h1)
              refine hK.out _ _ (fun _ => B6.out) ?_
              clear hK K
              try simp only [Act.put, List.setIfInBounds_toArray, List.set_cons_zero, List.set_cons_succ]
              have HBT6 := Lib.hid (HBT5.out.grown (grown_alloc w5 (.cells #[.slice Au lu cu] 32)))
              refine on 10 (fun K hK => ?_)
              refine wp_push _ (.tmp 98) (.tmp 103) 29 rfl 32 k0 (.slice none 0 0) 24 Try.underlying29 hk0 hk1 hk2' hk3 rfl (by decide) W.heap.size (.slice (some ⟨bt, ot, none⟩) m ct) us.length us rfl HBT6.out.trow w5.heap.size 1 (.slice Au lu cu) rfl (cell_new _ _ _) rfl (by have := HBT6.out.ul; have h2 := HGD2.out.len; rw [HMM.out] at h2; have := HM1.out; omega) (by simp; exact Nat.le_trans HKP5.out.size (Nat.le_succ _)) ?_
              intro tv2 w7 hown7 hgrow7 hat7
              have hst6 : StoreAt (w5.alloc (.cells #[.slice Au lu cu] 32)) o2 g2 := HST5.out.alloc _
              have hkp6 := HKP5.out.trans (keep_alloc T0 w5 o2 (.cells #[.slice Au lu cu] 32))
              have hbo6 : BoolsO (w5.alloc (.cells #[.slice Au lu cu] 32)) o2 (.slice Au lu cu) (doT n k A B C vs ts) := HBO.out.keep (T := fun _ => false) (keep_alloc _ w5 o2 _) rfl
              have HBT7 := Lib.hid (HBT6.out.pushT hbo6 (fun b hb => by have := HUB.out b hb; exact ⟨by simp; omega, this.2⟩) hgrow7 hown7 hat7 hst6.new)
              have HST7 := Lib.hid (hst6.row0 hgrow7 (fun b hb => HBT6.out.to b hb))
              have HKP7 := Lib.hid (hkp6.row hgrow7 (fun b hb => (HBT6.out.trow.lt b hb).1))
              have B7 := Lib.hid (show ∀ k ∈ [bx], w7.heap[k]? = w2.heap[k]? from fun k hk => by
                have h1 := B6.out k hk
                simp at hk
                subst hk
                exact (hgrow7.block k (by simp; exact Nat.lt_succ_of_lt hb5) (fun e => HNB.out.2 e.symm)).trans h1)
              clear hown7 hgrow7 hat7 hst6 hkp6 hbo6
              refine hK.out _ _ (fun _ => B7.out) ?_
              clear hK K
              try simp only [Act.put, List.setIfInBounds_toArray, List.set_cons_zero, List.set_cons_succ]
              refine on 11 (fun K hK => ?_)
              go_simp
              refine hK.out _ _ (fun _ => B7.out) ?_
              clear hK K
              try simp only [Act.put, List.setIfInBounds_toArray, List.set_cons_zero, List.set_cons_succ]
              refine on 12 (fun K hK => ?_)
              go_simp
              refine hK.out _ _ (fun _ => B7.out) ?_
              clear hK K
              try simp only [Act.put, List.setIfInBounds_toArray, List.set_cons_zero, List.set_cons_succ]
              refine dn ?_
              clear c0 c1 c2 c3 c4
              go_wp2
              go_roundw
              case rel => exact ⟨i + 1, by go_num, by have := HLT.out; omega, HLT.out.1, Lib.hid ⟨o2, g2, ls ++ [r], ts ++ [doT n k A B C vs ts], us ++ [.slice Au lu cu], HST7.out, HKP7.out, HL3.out.ups.trans HU2.out, HBT7.out, HGD2.out.push HR2.out HTB2.out, by have := HL3.out.le; simp; omega, by have := HL3.out.room; have := HLN2.out; omega⟩⟩
              case measure => simp [intOf]; have := HLT.out; omega
            | true =>
              have HBF1 := Lib.hid (show bb = false from by have := HNBB.out; simpa using this)
              have HNOT := Lib.hid (show ¬ RenOk g' (ls.getD A 0) (vs.map fun (x : Nat) => (x : Int)) from fun h => by have := HBI.out.2 (HIFF.out.1 h); rw [HBF1.out] at this; cases this)
              have HDO := Lib.hid (do_any HL3.out.st (by rw [HGV.out]; exact HN.out.2) HL3.out.bt.nums HL3.out.good.all.1 (by rw [HMM.out]; exact HM1.out) HOKA.out.k8 (by rw [HGV.out]; exact HOKA.out.z) HOKA.out.s HV3.out.nums (by have := HOKA.out.vl; have := HN.out; omega) (by rw [HGV.out]; exact HOKA.out.vn))
              have x0 : z1.cell? ⟨bx, 0, none⟩ = some (.int .i64 (k : Int)) := (cell_of HC3.out).trans rfl
              have x1 : z1.cell? ⟨bx, 1, none⟩ = some (.int .i64 (A : Int)) := (cell_of HC3.out).trans rfl
              have x2 : z1.cell? ⟨bx, 2, none⟩ = some (.int .i64 B') := (cell_of HC3.out).trans rfl
              have x3 : z1.cell? ⟨bx, 3, none⟩ = some (.int .i64 C') := (cell_of HC3.out).trans rfl
              have x4 : z1.cell? ⟨bx, 4, none⟩ = some (.slice Av1 vs.length cv1) := (cell_of HC3.out).trans rfl
              unfold actV at HDO
              rw [HGS.out] at HDO
              go_wp2_with fail
              refine (HDO.out).mono ?_
              intro e w2 hp
              obtain ⟨rfl, o2, hst2, hk2⟩ := hp.2 HK7.out HNOT.out
              have HLF := Lib.hid (show Lp W n g w2 o2 g' _ _ ls ts us (i + 1) from ⟨hst2, HL3.out.kp.trans hk2, HL3.out.ups, HL3.out.bt.keep hk2 rfl, HL3.out.good, Nat.le_trans HL3.out.le (by omega), Nat.le_trans HL3.out.room (by omega)⟩)
              clear x0 x1 x2 x3 x4 hp hst2 hk2 HDO
              go_wp2
              go_roundw
              case rel => exact ⟨i + 1, by go_num, by have := HLT.out; omega, HLT.out.1, Lib.hid ⟨o2, g', ls, ts, us, HLF.out⟩⟩
              case measure => simp [intOf]; have := HLT.out; omega
          · have qk : ((k : Int) == 7) = false := by simp; omega
            have HREN := Lib.hid (show k = 7 → RenOk g' (ls.getD A 0) (vs.map fun (x : Nat) => (x : Int)) from fun h => absurd h hk7)
            have HRENT := Lib.hid (show k = 7 → RenamesT (ts.getD A []) n (vs.map fun (x : Nat) => (x : Int)) from fun h => absurd h hk7)
            have HL3 := Lib.hid (show Lp W n g (World.drew wa) o' g' _ _ ls ts us i from HL2.out.grown (grown_drewN wa 1))
            have HC3 := Lib.hid (show (World.drew wa).heap[bx]? = _ from HCB.out)
            have HV3 := Lib.hid (HVA.out.keep (T := fun _ => false) (keep_drew _ wa o') rfl)
            refine wp_region_T (S := fun w' => ∀ k ∈ [bx], w'.heap[k]? = wa.heap[k]?) (tail := fun _ => false) (by kernel_rfl) ?_
            change wpAnyT _ _ _ _ _ _ _ _ _ (World.drew wa)
            have BD := Lib.hid (show ∀ k ∈ [bx], (World.drew wa).heap[k]? = wa.heap[k]? from fun _ _ => rfl)
            refine tk 0 57 (.pointer (some ⟨bx, 0, none⟩)) BD.out ?y0 ?_
            case y0 =>
              intro w' hw'
              go_simp
            try simp only [Act.put, List.setIfInBounds_toArray, List.set_cons_zero, List.set_cons_succ]
            refine tk 1 58 (.int .i64 (k : Int)) BD.out ?y1 ?_
            case y1 =>
              intro w' hw'
              have z0 := (World.cell?_of_block (a := ⟨bx, 0, none⟩) (hw' bx (by simp))).trans x0
              go_simp
            try simp only [Act.put, List.setIfInBounds_toArray, List.set_cons_zero, List.set_cons_succ]
            refine tk 2 59 (.bool false) BD.out ?y2 ?_
            case y2 =>
              intro w' hw'
              go_simp
            try simp only [Act.put, List.setIfInBounds_toArray, List.set_cons_zero, List.set_cons_succ]
            refine tk 3 60 (.bool false) BD.out ?y3 ?_
            case y3 =>
              intro w' hw'
              go_simp
            try simp only [Act.put, List.setIfInBounds_toArray, List.set_cons_zero, List.set_cons_succ]
            refine sk 4 61 BD.out ?_
            try simp only [Act.put, List.setIfInBounds_toArray, List.set_cons_zero, List.set_cons_succ]
            refine sk 5 62 BD.out ?_
            try simp only [Act.put, List.setIfInBounds_toArray, List.set_cons_zero, List.set_cons_succ]
            refine sk 6 63 BD.out ?_
            try simp only [Act.put, List.setIfInBounds_toArray, List.set_cons_zero, List.set_cons_succ]
            refine sk 7 64 BD.out ?_
            try simp only [Act.put, List.setIfInBounds_toArray, List.set_cons_zero, List.set_cons_succ]
            refine sk 8 65 BD.out ?_
            try simp only [Act.put, List.setIfInBounds_toArray, List.set_cons_zero, List.set_cons_succ]
            refine sk 9 66 BD.out ?_
            try simp only [Act.put, List.setIfInBounds_toArray, List.set_cons_zero, List.set_cons_succ]
            refine sk 10 67 BD.out ?_
            try simp only [Act.put, List.setIfInBounds_toArray, List.set_cons_zero, List.set_cons_succ]
            refine sk 11 68 BD.out ?_
            try simp only [Act.put, List.setIfInBounds_toArray, List.set_cons_zero, List.set_cons_succ]
            refine sk 12 69 BD.out ?_
            try simp only [Act.put, List.setIfInBounds_toArray, List.set_cons_zero, List.set_cons_succ]
            refine sk 13 70 BD.out ?_
            try simp only [Act.put, List.setIfInBounds_toArray, List.set_cons_zero, List.set_cons_succ]
            refine tk 14 71 (.bool false) BD.out ?y14 ?_
            case y14 =>
              intro w' hw'
              go_simp
            try simp only [Act.put, List.setIfInBounds_toArray, List.set_cons_zero, List.set_cons_succ]
            refine dn ?_
            clear x0 x1 x4
            generalize World.drew wa = wz at *
            have HDO := Lib.hid (do_any HL3.out.st (by rw [HGV.out]; exact HN.out.2) HL3.out.bt.nums HL3.out.good.all.1 (by rw [HMM.out]; exact HM1.out) HOKA.out.k8 (by rw [HGV.out]; exact HOKA.out.z) HOKA.out.s HV3.out.nums (by have := HOKA.out.vl; have := HN.out; omega) (by rw [HGV.out]; exact HOKA.out.vn))
            have x0 : wz.cell? ⟨bx, 0, none⟩ = some (.int .i64 (k : Int)) := (cell_of HC3.out).trans rfl
            have x1 : wz.cell? ⟨bx, 1, none⟩ = some (.int .i64 (A : Int)) := (cell_of HC3.out).trans rfl
            have x2 : wz.cell? ⟨bx, 2, none⟩ = some (.int .i64 B') := (cell_of HC3.out).trans rfl
            have x3 : wz.cell? ⟨bx, 3, none⟩ = some (.int .i64 C') := (cell_of HC3.out).trans rfl
            have x4 : wz.cell? ⟨bx, 4, none⟩ = some (.slice Av1 vs.length cv1) := (cell_of HC3.out).trans rfl
            unfold actV at HDO
            rw [HGS.out] at HDO
            go_wp2_with fail
            refine (HDO.out).mono ?_
            intro e w2 hp
            obtain ⟨r, o2, g2, rfl, hst2, hk2, hu2, hr2, hl2, hev⟩ := op_ok (hp.1 HREN.out) (by rw [HGV.out]; exact HN.out.2) HGR.out (by have := HL3.out.room; have := HLT.out; omega)
            have HST2 := Lib.hid hst2
            have HK2 := Lib.hid hk2
            have HU2 := Lib.hid hu2
            have HR2 := Lib.hid hr2
            have HLN2 := Lib.hid hl2
            have HEV := Lib.hid hev
            have HBT2 := Lib.hid (HL3.out.bt.keep hk2 rfl)
            have HKP2 := Lib.hid (HL3.out.kp.trans hk2)
            have HGD2 := Lib.hid (HL3.out.good.ups hu2 HL3.out.st.wf hst2.wf)
            have HTB2 := Lib.hid (show doT n k A B C vs ts = tabF n (ev g2.ns r) from (doT_tab (G := fun j => ev g'.ns (ls.getD j 0)) (fun j hj => by
                have h1 := HL3.out.good.tab j (by rw [HL3.out.good.len]; exact hj)
                have h2 := HL3.out.st.wf.hangs h1.1
                rw [HGV.out] at h2
                exact ⟨h2, h1.2⟩) HOKA.out.z (fun hz => by rw [← HL3.out.good.len]; exact (HOKA.out.s hz).1) HOKA.out.vn).trans (tab_hang fun m => (hev m).symm))
            have HCW2 := Lib.hid ((hk2.blk bx (Array.getElem?_eq_some_iff.1 HC3.out).1 (by rw [HOB.out]; rfl)).trans HC3.out)
            have HVW2 := Lib.hid (HV3.out.keep hk2 rfl)
            have HO2B := Lib.hid (show o2 bx = 0 from (hk2.own bx (Array.getElem?_eq_some_iff.1 HC3.out).1).trans HOB.out)
            clear x0 x1 x2 x3 x4 hp hst2 hk2 hu2 hr2 hl2 hev HDO
            have c0 : w2.cell? ⟨bx, 0, none⟩ = some (.int .i64 (k : Int)) := (cell_of HCW2.out).trans rfl
            have c1 : w2.cell? ⟨bx, 1, none⟩ = some (.int .i64 (A : Int)) := (cell_of HCW2.out).trans rfl
            have c2 : w2.cell? ⟨bx, 2, none⟩ = some (.int .i64 B') := (cell_of HCW2.out).trans rfl
            have c3 : w2.cell? ⟨bx, 3, none⟩ = some (.int .i64 C') := (cell_of HCW2.out).trans rfl
            have c4 : w2.cell? ⟨bx, 4, none⟩ = some (.slice Av1 vs.length cv1) := (cell_of HCW2.out).trans rfl
            go_wp2
            refine wp_region_T (S := fun w' => ∀ k ∈ [bx], w'.heap[k]? = w2.heap[k]?) (tail := fun _ => false) (by kernel_rfl) ?_
            change wpAnyT _ _ _ _ _ _ _ _ _ (World.drew w2)
            have BD := Lib.hid (show ∀ k ∈ [bx], (World.drew w2).heap[k]? = w2.heap[k]? from fun _ _ => rfl)
            refine tk 0 94 (.slice Al m cl) BD.out ?y0 ?_
            case y0 =>
              intro w' hw'
              go_simp
            try simp only [Act.put, List.setIfInBounds_toArray, List.set_cons_zero, List.set_cons_succ]
            refine tk 1 95 (.int .i64 ((r : Nat) : Int)) BD.out ?y1 ?_
            case y1 =>
              intro w' hw'
              go_simp
            try simp only [Act.put, List.setIfInBounds_toArray, List.set_cons_zero, List.set_cons_succ]
            refine tk 4 98 (.slice (some ⟨bt, ot, none⟩) m ct) BD.out ?y4 ?_
            case y4 =>
              intro w' hw'
              go_simp
            try simp only [Act.put, List.setIfInBounds_toArray, List.set_cons_zero, List.set_cons_succ]
            refine tk 5 99 (.int .i64 ((n : Nat) : Int)) BD.out ?y5 ?_
            case y5 =>
              intro w' hw'
              go_simp
            try simp only [Act.put, List.setIfInBounds_toArray, List.set_cons_zero, List.set_cons_succ]
            refine tk 6 100 (.agg #[.int .i64 (k : Int), .int .i64 (A : Int), .int .i64 B', .int .i64 C', .slice Av1 vs.length cv1]) BD.out ?y6 ?_
            case y6 =>
              intro w' hw'
              have y0 := (World.cell?_of_block (a := ⟨bx, 0, none⟩) (hw' bx (by simp))).trans c0
              have y1 := (World.cell?_of_block (a := ⟨bx, 1, none⟩) (hw' bx (by simp))).trans c1
              have y2 := (World.cell?_of_block (a := ⟨bx, 2, none⟩) (hw' bx (by simp))).trans c2
              have y3 := (World.cell?_of_block (a := ⟨bx, 3, none⟩) (hw' bx (by simp))).trans c3
              have y4 := (World.cell?_of_block (a := ⟨bx, 4, none⟩) (hw' bx (by simp))).trans c4
              go_simp
            try simp only [Act.put, List.setIfInBounds_toArray, List.set_cons_zero, List.set_cons_succ]
            refine tk 7 101 (.slice (some ⟨bt, ot, none⟩) m ct) BD.out ?y7 ?_
            case y7 =>
              intro w' hw'
              go_simp
            try simp only [Act.put, List.setIfInBounds_toArray, List.set_cons_zero, List.set_cons_succ]
            have hb2 := (Array.getElem?_eq_some_iff.1 HCW2.out).1
            refine on 2 (fun K hK => ?_)
            go_simp
            have BA := Lib.hid (show ∀ k ∈ [bx], ((World.drew w2).alloc (.cells #[.int .i64 (r : Int)] 3)).heap[k]? = w2.heap[k]? from fun k hk => by
              simp at hk
              subst hk
              exact heap_alloc_old hb2)
            refine hK.out _ _ (fun _ => BA.out) ?_
            clear hK K
            try simp only [Act.put, List.setIfInBounds_toArray, List.set_cons_zero, List.set_cons_succ]
            have HBT3 := Lib.hid (HBT2.out.grown (grown_trans (grown_drewN w2 1) (grown_alloc _ (.cells #[.int .i64 (r : Int)] 3))))
            have HLR3 := Lib.hid (show ((World.drew w2).alloc (.cells #[.int .i64 (r : Int)] 3)).ownsRow W.heap.size 3 1 (.slice Al m cl) m ((ls.map fun (x : Nat) => (x : Int)).map (Value.int .i64)) from by
              have h1 := HBT3.out.lrow
              unfold IRow at h1
              rw [List.length_map, HMM.out] at h1
              exact h1)
            have hW2 := HKP2.out.size
            refine on 3 (fun K hK => ?_)
            refine wp_push _ (.tmp 94) (.tmp 96) 28 rfl 3 j0 (.int .i64 0) 8 Try.underlying28 hj0 hj1 hj2 hj3 rfl (by decide) W.heap.size (.slice Al m cl) m _ rfl HLR3.out (World.drew w2).heap.size 1 (.int .i64 (r : Int)) rfl (cell_new _ _ _) rfl (by have := HM1.out; omega) (by simp; exact Nat.le_trans hW2 (Nat.le_succ _)) ?_
            intro lv2 w4 hown4 hgrow4 hat4
            have hst3 : StoreAt ((World.drew w2).alloc (.cells #[.int .i64 (r : Int)] 3)) o2 g2 := HST2.out.drew.alloc _
            have hkp3 := HKP2.out.trans ((keep_drew T0 w2 o2).trans (keep_alloc T0 _ o2 (.cells #[.int .i64 (r : Int)] 3)))
            have HBT4 := Lib.hid (HBT3.out.pushL hgrow4 (by rw [HMM.out]; exact hown4) hat4 hst3.new)
            have HST4 := Lib.hid (hst3.row0 hgrow4 (fun b hb => HBT3.out.lo b hb))
            have HKP4 := Lib.hid (hkp3.row hgrow4 (fun b hb => (HBT3.out.lrow.lt b hb).1))
            have hne4 : (Value.slice Al m cl).ownBlock ≠ some bx := fun e => HNB.out.1 e
            have B4 := Lib.hid (show ∀ k ∈ [bx], w4.heap[k]? = w2.heap[k]? from fun k hk => by
              simp at hk
              subst hk
              exact (hgrow4.block k (by simp; exact Nat.lt_succ_of_lt hb2) (fun e => hne4 e.symm)).trans (heap_alloc_old hb2))
            have HVW4 := Lib.hid (show Nums w4 (.slice Av1 vs.length cv1) (vs.map fun (x : Nat) => (x : Int)) from by
              obtain ⟨Aq, cq, e1, e2⟩ := HVW2.out
              refine ⟨Aq, cq, e1, fun hne => ?_⟩
              obtain ⟨bq, oq, e3, e4, e5, e6⟩ := e2 hne
              have hbv : (Value.slice Al m cl).ownBlock ≠ some bq := HNV.out bq (by rw [e1, e3]; rfl)
              refine ⟨bq, oq, e3, Nat.lt_of_lt_of_le e4 (Nat.le_trans (by simp) hgrow4.size), fun j x hx => (World.cell?_of_block (a := ⟨bq, oq + j, none⟩) ((hgrow4.block bq (by simp; exact Nat.lt_succ_of_lt e4) (fun e => hbv e.symm)).trans (heap_alloc_old e4))).trans (e6 j x hx)⟩)
            have hlb4 : ∀ b, lv2.ownBlock = some b → b < w4.heap.size := fun b hb => (HBT4.out.lrow.lt b hb).2
            clear hown4 hgrow4 hat4 hst3 hkp3 hne4
            refine hK.out _ _ (fun _ => B4.out) ?_
            clear hK K
            try simp only [Act.put, List.setIfInBounds_toArray, List.set_cons_zero, List.set_cons_succ]
            have HRD := Lib.hid (rdo_any (k := k) (A := A) (B := B) (C := C) (B' := B') (C' := C') (vs := vs) HST4.out.new HBT4.out.tabs HN.out.2 HGD2.out.all.2 (by rw [← HGD2.out.len, HMM.out]; have := HM1.out; omega) HOKA.out.k8 HOKA.out.z (by rw [← HGD2.out.len]; exact HOKA.out.s) HVW4.out (by have := HOKA.out.vl; have := HN.out; omega) HOKA.out.vn HRENT.out)
            unfold actV at HRD
            refine on 8 (fun K hK => ?_)
            go_simp
            refine (HRD.out).mono ?_
            rintro e w5 ⟨u, rfl, hbo, hg5, hfrom⟩
            have hub : ∀ b, u.ownBlock = some b → b < w5.heap.size ∧ lv2.ownBlock ≠ some b ∧ (Value.slice (some ⟨bt, ot, none⟩) m ct).ownBlock ≠ some b := by
              have htl : (Value.slice (some ⟨bt, ot, none⟩) m ct).ownBlock = some bt := rfl
              intro b hb
              rcases hfrom with ⟨b', off, M', c', e1, eA, e2⟩ | hfr
              · cases e1
                obtain ⟨j, hj⟩ := ent_of HBT4.out.trow eA e2
                obtain ⟨d1, d2, d3⟩ := HBT4.out.dl j u b hj hb
                exact ⟨Nat.lt_of_lt_of_le d1 hg5.size, d2, d3⟩
              · have h1 := hfr.1 b hb
                refine ⟨?_, fun e => by have := hlb4 b e; omega, fun e => by have := (HBT4.out.trow.lt b e).2; omega⟩
                obtain ⟨Au, cu, e1, e2⟩ := hbo
                subst e1
                obtain ⟨bu, ou, rfl, e3, -⟩ := e2 (by intro e0; have h9 := congrArg List.length e0; rw [HTB2.out, tab_len] at h9; exact absurd h9 (Nat.ne_of_gt (Nat.two_pow_pos n)))
                cases hb
                exact e3
            have HBO := Lib.hid hbo
            have HUB := Lib.hid hub
            have HBT5 := Lib.hid (HBT4.out.grown hg5)
            have HST5 := Lib.hid (HST4.out.grown hg5)
            have HKP5 := Lib.hid (HKP4.out.trans (keep_none T0 o2 hg5))
            have B5 := Lib.hid (show ∀ q ∈ [bx], w5.heap[q]? = w2.heap[q]? from fun q hq => by
              have h1 := B4.out q hq
              simp at hq
              subst hq
              exact (grown_far hg5 (by
                have : w4.heap[q]? = some (.cells #[.int .i64 (k : Int), .int .i64 (A : Int), .int .i64 B', .int .i64 C', .slice Av1 vs.length cv1] 51 (0, 0)) := h1.trans HCW2.out
                exact (Array.getElem?_eq_some_iff.1 this).1)).trans h1)
            obtain ⟨Au, cu, hfu, -⟩ := hbo
            subst hfu
            clear hg5 hfrom hub hlb4
            refine hK.out _ _ (fun _ => B5.out) ?_
            clear hK K
            try simp only [Act.put, List.setIfInBounds_toArray, List.set_cons_zero, List.set_cons_succ]
            obtain ⟨lu, hlu⟩ : ∃ lu, (doT n k A B C vs ts).length = lu := ⟨_, rfl⟩
            rw [hlu] at HBO HUB ⊢
            refine on 9 (fun K hK => ?_)
            go_simp
            have hb5 : bx < w5.heap.size := by
              have : w5.heap[bx]? = some (.cells #[.int .i64 (k : Int), .int .i64 (A : Int), .int .i64 B', .int .i64 C', .slice Av1 vs.length cv1] 51 (0, 0)) := (B5.out bx (by simp)).trans HCW2.out
              exact (Array.getElem?_eq_some_iff.1 this).1
            have B6 := Lib.hid (show ∀ q ∈ [bx], (w5.alloc (.cells #[.slice Au lu cu] 32)).heap[q]? = w2.heap[q]? from fun q hq => by
              have h1 := B5.out q hq
              simp at hq
              subst hq
              exact (heap_alloc_old hb5).trans h1)
            refine hK.out _ _ (fun _ => B6.out) ?_
            clear hK K
            try simp only [Act.put, List.setIfInBounds_toArray, List.set_cons_zero, List.set_cons_succ]
            have HBT6 := Lib.hid (HBT5.out.grown (grown_alloc w5 (.cells #[.slice Au lu cu] 32)))
            refine on 10 (fun K hK => ?_)
            refine wp_push _ (.tmp 98) (.tmp 103) 29 rfl 32 k0 (.slice none 0 0) 24 Try.underlying29 hk0 hk1 hk2' hk3 rfl (by decide) W.heap.size (.slice (some ⟨bt, ot, none⟩) m ct) us.length us rfl HBT6.out.trow w5.heap.size 1 (.slice Au lu cu) rfl (cell_new _ _ _) rfl (by have := HBT6.out.ul; have h2 := HGD2.out.len; rw [HMM.out] at h2; have := HM1.out; omega) (by simp; exact Nat.le_trans HKP5.out.size (Nat.le_succ _)) ?_
            intro tv2 w7 hown7 hgrow7 hat7
            have hst6 : StoreAt (w5.alloc (.cells #[.slice Au lu cu] 32)) o2 g2 := HST5.out.alloc _
            have hkp6 := HKP5.out.trans (keep_alloc T0 w5 o2 (.cells #[.slice Au lu cu] 32))
            have hbo6 : BoolsO (w5.alloc (.cells #[.slice Au lu cu] 32)) o2 (.slice Au lu cu) (doT n k A B C vs ts) := HBO.out.keep (T := fun _ => false) (keep_alloc _ w5 o2 _) rfl
            have HBT7 := Lib.hid (HBT6.out.pushT hbo6 (fun b hb => by have := HUB.out b hb; exact ⟨by simp; omega, this.2⟩) hgrow7 hown7 hat7 hst6.new)
            have HST7 := Lib.hid (hst6.row0 hgrow7 (fun b hb => HBT6.out.to b hb))
            have HKP7 := Lib.hid (hkp6.row hgrow7 (fun b hb => (HBT6.out.trow.lt b hb).1))
            have B7 := Lib.hid (show ∀ k ∈ [bx], w7.heap[k]? = w2.heap[k]? from fun k hk => by
              have h1 := B6.out k hk
              simp at hk
              subst hk
              exact (hgrow7.block k (by simp; exact Nat.lt_succ_of_lt hb5) (fun e => HNB.out.2 e.symm)).trans h1)
            clear hown7 hgrow7 hat7 hst6 hkp6 hbo6
            refine hK.out _ _ (fun _ => B7.out) ?_
            clear hK K
            try simp only [Act.put, List.setIfInBounds_toArray, List.set_cons_zero, List.set_cons_succ]
            refine on 11 (fun K hK => ?_)
            go_simp
            refine hK.out _ _ (fun _ => B7.out) ?_
            clear hK K
            try simp only [Act.put, List.setIfInBounds_toArray, List.set_cons_zero, List.set_cons_succ]
            refine on 12 (fun K hK => ?_)
            go_simp
            refine hK.out _ _ (fun _ => B7.out) ?_
            clear hK K
            try simp only [Act.put, List.setIfInBounds_toArray, List.set_cons_zero, List.set_cons_succ]
            refine dn ?_
            clear c0 c1 c2 c3 c4
            go_wp2
            go_roundw
            case rel => exact ⟨i + 1, by go_num, by have := HLT.out; omega, HLT.out.1, Lib.hid ⟨o2, g2, ls ++ [r], ts ++ [doT n k A B C vs ts], us ++ [.slice Au lu cu], HST7.out, HKP7.out, HL3.out.ups.trans HU2.out, HBT7.out, HGD2.out.push HR2.out HTB2.out, by have := HL3.out.le; simp; omega, by have := HL3.out.room; have := HLN2.out; omega⟩⟩
            case measure => simp [intOf]; have := HLT.out; omega
        · have hcs : (¬ (i : Int) < (M : Int)) ∨ ((i : Int) < (M : Int) ∧ ¬ (i : Int) < 30) := by omega
          have HE := Lib.hid (show Lp W n g wr o' g' u12 u13 ls ts us 30 from ⟨hlp.st, hlp.kp, hlp.ups, hlp.bt, hlp.good, Nat.le_trans hlp.le (by omega), Nat.le_trans hlp.room (by omega)⟩)
          clear hk hk2 hlp hlt
          rcases hcs with q1 | ⟨q1, q2⟩
          all_goals
            go_wp2
            go_ret3
            exact ⟨o', g', _, _, ls, ts, us, rfl, HE.out⟩

end Go.Proofs.Ytailpphafoamfaa
