/- What the chapter's example fixes. -/
import Derived.Test.YtailpphafoamfaaPkan
set_option linter.all false
namespace Go.Proofs.Ytailpphafoamfaa
open Go Go.RowKit Go.Maps


section
variable {w0 w w' : World} {o o' : Nat → Nat} {g g' : SG} {s b c lo : Nat} {F : (Nat → Bool) → Bool} {e : Ending}
theorem Keep.none (h : Keep T0 w (fun _ => 0) w' o') : w.grownBy w' none := ⟨h.os, h.tape, h.output, h.size, fun k hk _ => h.blk k hk rfl⟩
/-- The example's store while it is made. -/
structure Aw (w0 w : World) (s b : Nat) (o : Nat → Nat) (g : SG) : Prop where
  st : StoreAt w o g
  keep : Keep T0 w0 (fun _ => 0) w o
  hs : g.s = s
  V : g.V = 2
  room : g.room = 100
  W : g.W ≤ b
  len : g.ns.length ≤ b + 2
theorem Aw.op (h : Aw w0 w s b o g) (hc : c ≤ 16) (hb : b ≤ 80) (hp : OpPost w o g F c lo e w') : ∃ (r : Nat) (o' : Nat → Nat) (g' : SG), e = .returned (.tuple #[.int .i64 (r : Int), .int .i64 0]) ∧ Aw w0 w' s (b + 16) o' g' ∧ r < g'.ns.length ∧ (∃ K, g'.ns = g.ns ++ K) ∧ (∀ m, ev g'.ns r m = F m) ∧ Src g.ns.length g'.ns r ∧ g.W + lo ≤ g'.W ∧ Keep T0 w o w' o' := by
  obtain ⟨o', g', hz⟩ := hp
  have hV := h.V
  have hR := h.room
  have hW := h.W
  have hl := h.len
  have p2 : 2 ^ g.V = 4 := by rw [hV]
  rcases hz.res with ⟨-, -, h1 | h1⟩ | ⟨r, h1, h2, h3, h4⟩
  · omega
  · omega
  · have := hz.W1
    exact ⟨r, o', g', h1, ⟨hz.st, h.keep.trans hz.keep, hz.ups.s.trans h.hs, hz.ups.V.trans hV, hz.ups.room.trans hR, by omega, by omega⟩, h2, hz.ups.ns, h4, hz.src r h1, hz.W2, hz.keep⟩
theorem exF_iff (fr : Nat → Bool) (F : (Nat → Bool) → Bool) (m : Nat → Bool) : exF fr F m = true ↔ Some' fr F m := by
  unfold exF
  exact @decide_eq_true_iff _ (Classical.propDecidable _)
theorem pw2 {V a : Nat} (h : V = 2) : 2 ^ (V - a) ≤ 4 := by have := pow_le_V V a; rw [h] at this ⊢; exact this
theorem pre_at {K : List Nd} {L L' : List Nd} (h : L' = L ++ K) {i : Nat} {n : Nd} (hn : L[i]? = some n) : L'[i]? = some n := by
  rw [h, List.getElem?_append_left (List.getElem?_eq_some_iff.1 hn).1, hn]
theorem Aw.wf (h : Aw w0 w s b o g) : WF 2 g.ns := by have := h.st.wf; rw [h.V] at this; exact this
theorem Aw.var0 (h : Aw w0 w s b o g) (hb : b ≤ 80) (hL : g.ns.length = 2) (hp : VarPost w o g 0 e w') : ∃ (o' : Nat → Nat) (g' : SG), e = .returned (.tuple #[.int .i64 2, .int .i64 0]) ∧ Aw w0 w' s (b + 16) o' g' ∧ g'.ns.length = 3 ∧ g'.ns[2]? = some ⟨0, 0, 1⟩ ∧ 1 ≤ g'.W := by
  unfold VarPost at hp
  rw [if_pos (by rw [h.V]; decide)] at hp
  obtain ⟨r, o', g', h1, h2, h3, ⟨K, h4⟩, h5, h6, h7, h20⟩ := h.op (by decide) hb hp
  rw [hL] at h6
  obtain ⟨rfl, h8, h9⟩ := eg_var0 h2.wf h6 h3 h5
  exact ⟨o', g', h1, h2, h8, h9, by omega⟩
theorem Aw.var1 (h : Aw w0 w s b o g) (hb : b ≤ 80) (hL : g.ns.length = 3) (hn : g.ns[2]? = some ⟨0, 0, 1⟩) (hW : 1 ≤ g.W) (hp : VarPost w o g 1 e w') : ∃ (o' : Nat → Nat) (g' : SG), e = .returned (.tuple #[.int .i64 3, .int .i64 0]) ∧ Aw w0 w' s (b + 16) o' g' ∧ g'.ns.length = 4 ∧ g'.ns[2]? = some ⟨0, 0, 1⟩ ∧ g'.ns[3]? = some ⟨1, 0, 1⟩ ∧ 1 ≤ g'.W := by
  unfold VarPost at hp
  rw [if_pos (by rw [h.V]; decide)] at hp
  obtain ⟨r, o', g', h1, h2, h3, ⟨K, h4⟩, h5, h6, h7, h20⟩ := h.op (by decide) hb hp
  rw [hL] at h6
  have h10 := pre_at h4 hn
  obtain ⟨rfl, h8, h9⟩ := eg_var1 h2.wf h6 h3 (by rw [h4, List.length_append]; omega) h10 h5
  exact ⟨o', g', h1, h2, h8, h10, h9, by omega⟩
theorem Aw.and (h : Aw w0 w s b o g) (hb : b ≤ 80) (hL : g.ns.length = 4) (hn : g.ns[2]? = some ⟨0, 0, 1⟩) (hn3 : g.ns[3]? = some ⟨1, 0, 1⟩) (hW : 1 ≤ g.W) (hp : ItePost w o g 2 3 0 e w') : ∃ (o' : Nat → Nat) (g' : SG), e = .returned (.tuple #[.int .i64 4, .int .i64 0]) ∧ Aw w0 w' s (b + 16) o' g' ∧ Eg g'.ns ∧ 1 ≤ g'.W := by
  unfold ItePost at hp
  rw [if_pos (by rw [hL]; decide)] at hp
  obtain ⟨r, o', g', h1, h2, h3, ⟨K, h4⟩, h5, h6, h7, h20⟩ := h.op (by have := pw2 (a := m3 g.ns (Int.toNat 2) (Int.toNat 3) (Int.toNat 0)) h.V; omega) hb hp
  rw [hL] at h6
  have h10 := pre_at h4 hn
  have h11 := pre_at h4 hn3
  obtain ⟨rfl, h8, h9⟩ := eg_and h2.wf h6 h3 (by rw [h4, List.length_append]; omega) h10 h11 (fun m => by
    rw [h5]
    have e2 : ev g.ns (Int.toNat 2) m = m 0 := eg_ev2 h.wf hn m
    have e3 : ev g.ns (Int.toNat 3) m = m 1 := eg_ev3 h.wf hn3 m
    have e0 : ev g.ns (Int.toNat 0) m = false := ev0 m
    rw [e2, e3, e0]
    cases m 0 <;> rfl)
  exact ⟨o', g', h1, h2, ⟨h2.wf, h10, h11, h9⟩, by omega⟩
theorem Eg.more {L L' K : List Nd} (h : Eg L) (hL : L' = L ++ K) (hw : WF 2 L') : Eg L' := ⟨hw, pre_at hL h.n2, pre_at hL h.n3, pre_at hL h.n4⟩
theorem Eg.len {L : List Nd} (h : Eg L) : 5 ≤ L.length := (List.getElem?_eq_some_iff.1 h.n4).1
theorem Aw.or (h : Aw w0 w s b o g) (hb : b ≤ 80) (hE : Eg g.ns) (hW : 1 ≤ g.W) (hp : ItePost w o g 2 1 3 e w') : ∃ (r : Nat) (o' : Nat → Nat) (g' : SG), e = .returned (.tuple #[.int .i64 (r : Int), .int .i64 0]) ∧ Aw w0 w' s (b + 16) o' g' ∧ Eg g'.ns ∧ 1 ≤ g'.W ∧ 2 ≤ r ∧ r < g'.ns.length ∧ g'.ns[r]? = some ⟨0, 3, 1⟩ ∧ ∀ m, ev g'.ns r m = (m 0 || m 1) := by
  unfold ItePost at hp
  have hl := hE.len
  rw [if_pos (by simp [allB, okB]; omega)] at hp
  obtain ⟨r, o', g', h1, h2, h3, ⟨K, h4⟩, h5, h6, h7, h20⟩ := h.op (by have := pw2 (a := m3 g.ns (Int.toNat 2) (Int.toNat 1) (Int.toNat 3)) h.V; omega) hb hp
  have hE' := hE.more h4 h2.wf
  have h8 : ∀ m, ev g'.ns r m = (m 0 || m 1) := fun m => by
    rw [h5]
    have e2 : ev g.ns (Int.toNat 2) m = m 0 := eg_ev2 h.wf hE.n2 m
    have e3 : ev g.ns (Int.toNat 3) m = m 1 := eg_ev3 h.wf hE.n3 m
    have e0 : ev g.ns (Int.toNat 1) m = true := ev1 m
    rw [e2, e3, e0]
    cases m 0 <;> rfl
  obtain ⟨h9, h10⟩ := hE'.or h3 h8
  exact ⟨r, o', g', h1, h2, hE', by omega, h9, h3, h10, h8⟩
theorem Aw.some (h : Aw w0 w s b o g) (hb : b ≤ 80) (hE : Eg g.ns) (hW : 1 ≤ g.W) (hp : ExistsPost w o g 4 [0] e w') : ∃ (o' : Nat → Nat) (g' : SG), e = .returned (.tuple #[.int .i64 3, .int .i64 0]) ∧ Aw w0 w' s (b + 16) o' g' ∧ Eg g'.ns ∧ 1 ≤ g'.W ∧ Keep T0 w o w' o' := by
  unfold ExistsPost at hp
  have hl := hE.len
  rw [if_pos (by simp [okB]; omega), if_pos (by rw [h.V]; decide)] at hp
  obtain ⟨r, o', g', h1, h2, h3, ⟨K, h4⟩, h5, h6, h7, h20⟩ := h.op (by have := pw2 (a := ask g.ns (Int.toNat 4)) h.V; rw [show 2 ^ g.V = 4 from by rw [h.V]]; omega) hb hp
  have hE' := hE.more h4 h2.wf
  have e4 : ∀ m, ev g.ns (Int.toNat 4) m = (m 0 && m 1) := fun m => by
    show ev g.ns 4 m = _
    rw [h.wf.ev_node m (by omega) hE.n4, ev0, eg_ev3 h.wf hE.n3]
    cases m 0 <;> rfl
  obtain rfl := hE'.some h3 fun m => by
    rw [h5]
    rw [exF_iff]
    have ef : freeL [0] = fun v => decide (v = 0) := by funext v; unfold freeL; simp
    have ee : ev g.ns (Int.toNat 4) = fun m => m 0 && m 1 := funext e4
    rw [ef, ee]
  exact ⟨o', g', h1, h2, hE', by omega, h20⟩
theorem Aw.same {M : List Nd} (h : Aw w0 w s b o g) (h1 : M = g.ns) (hs : StoreM M w' o' g) (hk : Keep T0 w o w' o') : Aw w0 w' s b o' g := by
  subst h1
  exact ⟨hs, h.keep.trans hk, h.hs, h.V, h.room, h.W, h.len⟩
theorem Aw.grown (h : Aw w0 w s b o g) (hg : w.grownBy w' none) : Aw w0 w' s b o g := h.same rfl (h.st.grown hg) (keep_none _ _ hg)
theorem var_any (h : StoreAt w o g) (v : Int) : Calls Try.prog 30 #[.pointer (some ⟨g.s, 0, none⟩), .int .i64 v] w (VarPost w o g v) := by
  cases hv : okB g.V v with
  | false => exact var_bad h v hv
  | true =>
    have h2 := hv
    unfold okB at h2
    simp at h2
    obtain ⟨n, rfl⟩ : ∃ n : Nat, v = n := ⟨v.toNat, by omega⟩
    exact var_good h n (by omega)
theorem two_bools {w : World} {bw : Nat} {l : List Bool} (h : w.heap[bw]? = some (.cells (boolC l) 4 (0, 0))) : Bools w (.slice (some ⟨bw, 0, none⟩) l.length l.length) l :=
  ⟨_, _, rfl, fun _ => ⟨bw, 0, rfl, (Array.getElem?_eq_some_iff.1 h).1, fun j x hx => by
    have hj := (List.getElem?_eq_some_iff.1 hx).1
    rw [Nat.zero_add, cell_of h, boolC_at hj, List.getD_eq_getElem?_getD, hx]
    rfl⟩⟩
set_option maxHeartbeats 8000000 in
set_option maxRecDepth 100000 in
theorem awake_any (w : World) : Calls Try.prog 11 #[] w fun e w' => e = .returned (.bool true) ∧ w.grownBy w' none := by
  have HN := Lib.hid (new_any (w := w) (o := fun _ => 0) (fun _ _ => rfl) 2 100)
  go_enter Try.func11, Try.ntmps11
  go_wp2_with fail
  refine (HN.out).mono ?_
  intro e w1 hp
  obtain ⟨s, o1, g1, rfl, ha, hl⟩ : ∃ (s : Nat) (o1 : Nat → Nat) (g1 : SG), e = .returned (.tuple #[.pointer (some ⟨s, 0, none⟩), .int .i64 0]) ∧ Aw w w1 s 0 o1 g1 ∧ g1.ns.length = 2 := by
    rcases hp with ⟨h1, -⟩ | ⟨-, h1, -⟩ | ⟨-, -, s, val, o1, h1, h2, h3⟩
    · exact absurd ⟨by decide, by decide⟩ h1
    · exact absurd ⟨by decide, by decide⟩ h1
    · exact ⟨s, o1, _, h1, ⟨h2, h3.more (fun _ _ => rfl), rfl, rfl, rfl, Nat.le_refl _, Nat.le_refl _⟩, rfl⟩
  have HA := Lib.hid ha
  have HL := Lib.hid hl
  have H2 := Lib.hid (var_any ha.st 0)
  rw [ha.hs] at H2
  clear hp ha hl HN
  go_wp2_with fail
  refine (H2.out).mono ?_
  intro e w2 hp
  obtain ⟨o2, g2, rfl, h2⟩ := HA.out.var0 (by decide) HL.out hp
  have HA2 := Lib.hid h2
  have H3 := Lib.hid (var_any h2.1.st 1)
  rw [h2.1.hs] at H3
  clear hp h2 H2
  go_wp2_with fail
  refine (H3.out).mono ?_
  intro e w3 hp
  obtain ⟨o3, g3, rfl, h3⟩ := HA2.out.1.var1 (by decide) HA2.out.2.1 HA2.out.2.2.1 HA2.out.2.2.2 hp
  have HA3 := Lib.hid h3
  have H4 := Lib.hid (and_any h3.1.st 2 3)
  rw [h3.1.hs] at H4
  clear hp h3 H3
  go_wp2_with fail
  refine (H4.out).mono ?_
  intro e w4 hp
  obtain ⟨o4, g4, rfl, h4⟩ := HA3.out.1.and (by decide) HA3.out.2.1 HA3.out.2.2.1 HA3.out.2.2.2.1 HA3.out.2.2.2.2 hp
  have HA4 := Lib.hid h4
  have H5 := Lib.hid (or_any h4.1.st 2 3)
  rw [h4.1.hs] at H5
  clear hp h4 H4
  go_wp2_with fail
  refine (H5.out).mono ?_
  intro e w5 hp
  obtain ⟨r, o5, g5, rfl, h5⟩ := HA4.out.1.or (by decide) HA4.out.2.1 HA4.out.2.2 hp
  have HA5 := Lib.hid h5
  have H6 := Lib.hid (count_any h5.1.st (r : Int))
  rw [h5.1.hs] at H6
  clear hp h5 H5
  go_wp2_with fail
  refine (H6.out).mono ?_
  rintro e w6 ⟨⟨o6, hs6, hk6⟩, he⟩
  have hok : okB g5.ns.length (r : Int) = true := okB_of HA5.out.2.2.2.2.1
  have hcn : cntAll g5 (r : Int).toNat % UM = 3 := by
    unfold cntAll
    rw [Int.toNat_natCast, HA5.out.2.1.count HA5.out.2.2.2.1 HA5.out.2.2.2.2.2.1]
    rfl
  rw [hcn, if_pos hok] at he
  subst he
  have HA6 := Lib.hid (HA5.out.1.same rfl hs6 hk6)
  have H7 := Lib.hid (pick_any hs6 (r : Int))
  rw [HA6.out.hs] at H7
  have HOK := Lib.hid hok
  clear hs6 hk6 hcn H6 hok
  go_wp2_with fail
  refine (H7.out).mono ?_
  rintro e w7 ⟨hg7, hp⟩
  obtain ⟨bw, way, rfl, hwl, hcw, hge, hf⟩ : ∃ (bw : Nat) (way : List Bool), e = .returned (.tuple #[.slice (some ⟨bw, 0, none⟩) way.length way.length, .int .i64 0]) ∧ way.length = g5.V ∧ w7.heap[bw]? = some (.cells (boolC way) 4 (0, 0)) ∧ w6.heap.size ≤ bw ∧ First g5.V g5.ns ((r : Int).toNat) (lookB way) := by
    rcases hp with ⟨h1, -⟩ | ⟨-, h1⟩
    · exact absurd ⟨HOK.out, by have := HA5.out.2.2.2.1; omega⟩ h1
    · exact h1
  have hway : way = [false, true] := by
    rw [HA6.out.V] at hwl hf
    rw [Int.toNat_natCast] at hf
    obtain ⟨f0, f1⟩ := HA5.out.2.1.first HA5.out.2.2.2.2.1 HA5.out.2.2.2.2.2.2 hf
    match way, hwl with
    | [x, y], _ =>
      have : x = false := f0
      have : y = true := f1
      simp_all
  subst hway
  have HB := Lib.hid (show w7.heap[bw]? = some (.cells (boolC [false, true]) 4 (0, 0)) ∧ bw < w7.heap.size ∧ o6 bw = 0 from ⟨hcw, (Array.getElem?_eq_some_iff.1 hcw).1, HA6.out.st.new bw hge⟩)
  have HG7 := Lib.hid (HA6.out.grown hg7)
  have H8 := Lib.hid (exists_any (HG7.out.st.alloc (.cells #[.int .i64 0] 3)) 4 (nums_one w7 0) (by decide))
  rw [HG7.out.hs] at H8
  clear hg7 hp hwl hcw hge hf H7
  go_wp2_with fail
  refine (H8.out).mono ?_
  intro e w8 hp
  obtain ⟨o8, g8, rfl, h8⟩ := (HG7.out.grown (grown_alloc w7 (.cells #[.int .i64 0] 3))).some (by decide) HA5.out.2.1 HA5.out.2.2.1 hp
  have HA8 := Lib.hid h8
  have HB8 := Lib.hid (show w8.heap[bw]? = some (.cells (boolC [false, true]) 4 (0, 0)) from (h8.2.2.2.blk bw (by simp; have := HB.out.2.1; omega) (by rw [HB.out.2.2]; rfl)).trans ((heap_alloc_old HB.out.2.1).trans HB.out.1))
  clear hp h8 H8
  have hw9 : (w8.alloc (.cells #[.bool false, .bool true] 4)).heap[w8.heap.size]? = some (.cells (boolC [false, true]) 4 (0, 0)) := (MapKept.heap_alloc w8 _).1
  have HB9 := Lib.hid (show (w8.alloc (.cells #[.bool false, .bool true] 4)).heap[bw]? = some (.cells (boolC [false, true]) 4 (0, 0)) from (heap_alloc_old (Array.getElem?_eq_some_iff.1 HB8.out).1).trans HB8.out)
  have HS9 := Lib.hid (same_any (two_bools HB9.out) (two_bools hw9) (by decide))
  rw [decide_eq_true (show ([false, true] : List Bool) = [false, true] from rfl)] at HS9
  clear hw9
  go_wp2_with fail
  refine (HS9.out).mono ?_
  rintro e w9 ⟨rfl, hg9⟩
  have HA9 := Lib.hid ((HA8.out.1.grown (grown_alloc w8 (.cells #[.bool false, .bool true] 4))).grown hg9)
  have HND := Lib.hid (nodes_any HA9.out.st)
  rw [HA9.out.hs] at HND
  have qn : (g8.ns.length : Int) ≥ 5 := by have := HA8.out.2.1.len; omega
  obtain ⟨len, hlen⟩ : ∃ len : Int, (g8.ns.length : Int) = len := ⟨_, rfl⟩
  rw [hlen] at HND qn
  clear hlen hg9 HS9
  go_wp2_with fail
  refine (HND.out).mono ?_
  rintro e w10 ⟨rfl, rfl⟩
  have HWK := Lib.hid (works_any HA9.out.st)
  rw [HA9.out.hs] at HWK
  have qw : ((g8.W % 18446744073709551616 : Nat) : Int) > 0 := by
    have h1 := HA9.out.W
    have h2 := HA8.out.2.2.1
    rw [Nat.mod_eq_of_lt (by omega)]
    omega
  obtain ⟨wk, hwk⟩ : ∃ wk : Int, ((g8.W % 18446744073709551616 : Nat) : Int) = wk := ⟨_, rfl⟩
  rw [hwk] at HWK qw
  clear hwk HND
  go_wp2_with fail
  refine (HWK.out).mono ?_
  rintro e w11 ⟨rfl, rfl⟩
  go_wp2
  go_ret
  exact ⟨rfl, HA9.out.keep.none⟩
end

end Go.Proofs.Ytailpphafoamfaa
