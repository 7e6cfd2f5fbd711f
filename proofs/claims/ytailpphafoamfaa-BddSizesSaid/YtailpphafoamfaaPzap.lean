/- Which nodes a small store has: the mathematics of the chapter's example. What the chapter's example fixes. What each act asks of a store. An act: 0, 2, 3. -/
import Derived.Test.YtailpphafoamfaaPzao
set_option linter.all false
namespace Go.Proofs.Ytailpphafoamfaa

section
variable {V lo r : Nat} {L K : List Nd}
/-- What is asked first and what then is are told by what is true. -/
theorem WF.node_is (hw : WF V L) {v a b : Nat} (hr : r < L.length) (hv : v < V) (ha : a < L.length) (hb : b < L.length) (hab : a ≠ b) (va : v < ask L a) (vb : v < ask L b) (he : ∀ m, ev L r m = if m v = true then ev L b m else ev L a m) : 2 ≤ r ∧ L[r]? = some ⟨v, a, b⟩ := by
  by_cases hex : ∃ i, 2 ≤ i ∧ L[i]? = some ⟨v, a, b⟩
  · obtain ⟨i, h2, hi⟩ := hex
    have : r = i := hw.one hr (List.getElem?_eq_some_iff.1 hi).1 fun m => by
      rw [he m, hw.ev_node m h2 hi]
    subst this
    exact ⟨h2, hi⟩
  · exfalso
    have hw' := hw.push (n := ⟨v, a, b⟩) hv ha hb hab va vb (fun i h2 hi => hex ⟨i, h2, hi⟩)
    have hn : (L ++ [(⟨v, a, b⟩ : Nd)])[L.length]? = some ⟨v, a, b⟩ := by simp
    have h2 := hw.two
    have : r = L.length := hw'.one (by simp; omega) (by simp) fun m => by
      rw [ev_app hw hw' m r hr, he m, hw'.ev_node m h2 hn, ev_app hw hw' m b hb, ev_app hw hw' m a ha]
    omega
/-- One new node alone. -/
theorem Src.one (hw : WF V L) (h : Src lo L r) (h2 : 2 ≤ lo) (hr : lo ≤ r) (hrl : r < L.length) (hc : ∀ n, L[r]? = some n → n.a < lo ∧ n.b < lo) : r = lo ∧ L.length = lo + 1 := by
  have par : ∀ x y n, lo ≤ y → L[y]? = some n → (n.a = x ∨ n.b = x) → x < y ∧ y < L.length := fun x y n hy hn hx => by
    obtain ⟨a1, a2, a3, -⟩ := hw.nd y n (by omega) hn
    have := (List.getElem?_eq_some_iff.1 hn).1
    rcases hx with rfl | rfl <;> exact ⟨by assumption, this⟩
  have e1 : r = L.length - 1 := by
    rcases h (L.length - 1) (by omega) (by omega) with e | ⟨y, n, hy, hn, hx⟩
    · exact e.symm
    · have := par _ _ _ hy hn hx
      omega
  by_cases e : lo = r
  · omega
  · exfalso
    rcases h (r - 1) (by omega) (by omega) with e2 | ⟨y, n, hy, hn, hx⟩
    · omega
    · have h3 := par _ _ _ hy hn hx
      obtain rfl : y = r := by omega
      have := hc n hn
      rcases hx with hx | hx <;> omega
end
/-- The example's store: two variables, both, either. -/
structure Eg (L : List Nd) : Prop where
  wf : WF 2 L
  n2 : L[2]? = some ⟨0, 0, 1⟩
  n3 : L[3]? = some ⟨1, 0, 1⟩
  n4 : L[4]? = some ⟨0, 0, 3⟩
theorem eg_var0 {L : List Nd} {r : Nat} (hw : WF 2 L) (hs : Src 2 L r) (hr : r < L.length) (he : ∀ m, ev L r m = m 0) : r = 2 ∧ L.length = 3 ∧ L[2]? = some ⟨0, 0, 1⟩ := by
  have h2 := hw.two
  obtain ⟨h1, hn⟩ := hw.node_is (v := 0) (a := 0) (b := 1) hr (by omega) (by omega) (by omega) (by omega) (by rw [hw.ask0]; omega) (by rw [hw.ask1]; omega) (fun m => by
    rw [he m, ev0, ev1]; cases m 0 <;> rfl)
  obtain ⟨rfl, h3⟩ := hs.one hw (Nat.le_refl _) h1 hr (fun n h => by rw [hn] at h; cases h; exact ⟨by decide, by decide⟩)
  exact ⟨rfl, h3, hn⟩
theorem eg_var1 {L : List Nd} {r : Nat} (hw : WF 2 L) (hs : Src 3 L r) (hr : r < L.length) (hl : 3 ≤ L.length) (hn2 : L[2]? = some ⟨0, 0, 1⟩) (he : ∀ m, ev L r m = m 1) : r = 3 ∧ L.length = 4 ∧ L[3]? = some ⟨1, 0, 1⟩ := by
  obtain ⟨h1, hn⟩ := hw.node_is (v := 1) (a := 0) (b := 1) hr (by omega) (by omega) (by omega) (by omega) (by rw [hw.ask0]; omega) (by rw [hw.ask1]; omega) (fun m => by
    rw [he m, ev0, ev1]; cases m 1 <;> rfl)
  have h3 : 3 ≤ r := by
    apply Classical.byContradiction
    intro hc
    obtain rfl : r = 2 := by omega
    rw [hn2] at hn
    simp at hn
  obtain ⟨rfl, h4⟩ := hs.one hw (by omega) h3 hr (fun n h => by rw [hn] at h; cases h; exact ⟨by decide, by decide⟩)
  exact ⟨rfl, h4, hn⟩
theorem eg_ev2 {L : List Nd} (hw : WF 2 L) (hn2 : L[2]? = some ⟨0, 0, 1⟩) (m : Nat → Bool) : ev L 2 m = m 0 := by
  rw [hw.ev_node m (by omega) hn2, ev0, ev1]; cases m 0 <;> rfl
theorem eg_ev3 {L : List Nd} (hw : WF 2 L) (hn3 : L[3]? = some ⟨1, 0, 1⟩) (m : Nat → Bool) : ev L 3 m = m 1 := by
  rw [hw.ev_node m (by omega) hn3, ev0, ev1]; cases m 1 <;> rfl
theorem eg_and {L : List Nd} {r : Nat} (hw : WF 2 L) (hs : Src 4 L r) (hr : r < L.length) (hl : 4 ≤ L.length) (hn2 : L[2]? = some ⟨0, 0, 1⟩) (hn3 : L[3]? = some ⟨1, 0, 1⟩) (he : ∀ m, ev L r m = (m 0 && m 1)) : r = 4 ∧ L.length = 5 ∧ L[4]? = some ⟨0, 0, 3⟩ := by
  obtain ⟨h1, hn⟩ := hw.node_is (v := 0) (a := 0) (b := 3) hr (by omega) (by omega) (by omega) (by omega) (by rw [hw.ask0]; omega) (by rw [ask_at hn3]; show 0 < 1; omega) (fun m => by
    rw [he m, ev0, eg_ev3 hw hn3]; cases m 0 <;> rfl)
  have h3 : 4 ≤ r := by
    apply Classical.byContradiction
    intro hc
    rcases (by omega : r = 2 ∨ r = 3) with rfl | rfl
    · rw [hn2] at hn; simp at hn
    · rw [hn3] at hn; simp at hn
  obtain ⟨rfl, h4⟩ := hs.one hw (by omega) h3 hr (fun n h => by rw [hn] at h; cases h; exact ⟨by decide, by decide⟩)
  exact ⟨rfl, h4, hn⟩
theorem Eg.or {L : List Nd} (h : Eg L) {r : Nat} (hr : r < L.length) (he : ∀ m, ev L r m = (m 0 || m 1)) : 2 ≤ r ∧ L[r]? = some ⟨0, 3, 1⟩ := by
  have hl := (List.getElem?_eq_some_iff.1 h.n4).1
  exact h.wf.node_is (v := 0) (a := 3) (b := 1) hr (by omega) (by omega) (by omega) (by omega) (by rw [ask_at h.n3]; show 0 < 1; omega) (by rw [h.wf.ask1]; omega) (fun m => by
    rw [he m, ev1, eg_ev3 h.wf h.n3]; cases m 0 <;> rfl)
theorem Eg.count {L : List Nd} (h : Eg L) {r : Nat} (h2 : 2 ≤ r) (hn : L[r]? = some ⟨0, 3, 1⟩) : cN L r * 2 ^ ask L r = 3 := by
  rw [ask_at hn, h.wf.cN_node h2 hn, h.wf.cN_node (by omega) h.n3]
  simp only [cN_end (L := L) (Nat.zero_le 1), cN_end (L := L) (Nat.le_refl 1), ask_at h.n3, h.wf.ask0, h.wf.ask1]
theorem Eg.first {L : List Nd} (h : Eg L) {r : Nat} (hr : r < L.length) (he : ∀ m, ev L r m = (m 0 || m 1)) {m : Nat → Bool} (hf : First 2 L r m) : m 0 = false ∧ m 1 = true := by
  have htr := hf.tr
  rw [he] at htr
  have hx := hf.lex (fun x => x == 1) (by rw [he]; rfl)
  rcases hx with ⟨v, hv, h1, h2, h3⟩ | h1
  · obtain rfl : v = 1 := by simpa using h3
    have h0 := h1 0 (by omega)
    simp at h0
    rw [h0, h2] at htr
    simp at htr
  · have h0 := h1 0 (by omega)
    have h1 := h1 1 (by omega)
    simp at h0 h1
    exact ⟨h0, h1⟩
theorem Eg.some {L : List Nd} (h : Eg L) {r : Nat} (hr : r < L.length) (he : ∀ m, ev L r m = true ↔ Some' (fun v => decide (v = 0)) (fun m => m 0 && m 1) m) : r = 3 := by
  have hl := (List.getElem?_eq_some_iff.1 h.n4).1
  refine h.wf.one hr (by omega) fun m => ?_
  rw [eg_ev3 h.wf h.n3]
  have : ev L r m = true ↔ m 1 = true := by
    rw [he]
    constructor
    · rintro ⟨m', h1, h2⟩
      have := h1 1 (by simp)
      simp at h2
      rw [← this]; exact h2.2
    · intro h1
      refine ⟨setM m 0 true, fun x hx => ?_, ?_⟩
      · exact setM_other _ _ (by simpa using hx)
      · simp [setM, h1]
  cases h1 : m 1
  · cases h2 : ev L r m
    · rfl
    · rw [this.1 h2] at h1; cases h1
  · exact this.2 h1
end Go.Proofs.Ytailpphafoamfaa
namespace Go.Proofs.Ytailpphafoamfaa
open Go Go.RowKit Go.Maps


section
variable {w0 w w' : World} {o o' : Nat → Nat} {g g' : SG} {s b c lo : Nat} {F : (Nat → Bool) → Bool} {e : Ending}
theorem Keep.none (h : Keep T0 w (fun _ => 0) w' o') : w.grownBy w' none := ⟨h.os, h.tape, h.output, h.size, fun k hk _ => h.blk k hk rfl⟩
/-- The example's store while it is made. -/
structure Aw (w0 w : World) (s b : Nat) (o : Nat → Nat) (g : SG) : Prop where
  st : StoreAt w o g
  keep : Keep T0 w0 (fun _ => 0) w o
  hs : g.s = s
  V : g.V = 2
  room : g.room = 100
  W : g.W ≤ b
  len : g.ns.length ≤ b + 2
theorem Aw.op (h : Aw w0 w s b o g) (hc : c ≤ 16) (hb : b ≤ 80) (hp : OpPost w o g F c lo e w') : ∃ (r : Nat) (o' : Nat → Nat) (g' : SG), e = .returned (.tuple #[.int .i64 (r : Int), .int .i64 0]) ∧ Aw w0 w' s (b + 16) o' g' ∧ r < g'.ns.length ∧ (∃ K, g'.ns = g.ns ++ K) ∧ (∀ m, ev g'.ns r m = F m) ∧ Src g.ns.length g'.ns r ∧ g.W + lo ≤ g'.W ∧ Keep T0 w o w' o' := by
  obtain ⟨o', g', hz⟩ := hp
  have hV := h.V
  have hR := h.room
  have hW := h.W
  have hl := h.len
  have p2 : 2 ^ g.V = 4 := by rw [hV]
  rcases hz.res with ⟨-, -, h1 | h1⟩ | ⟨r, h1, h2, h3, h4⟩
  · omega
  · omega
  · have := hz.W1
    exact ⟨r, o', g', h1, ⟨hz.st, h.keep.trans hz.keep, hz.ups.s.trans h.hs, hz.ups.V.trans hV, hz.ups.room.trans hR, by omega, by omega⟩, h2, hz.ups.ns, h4, hz.src r h1, hz.W2, hz.keep⟩
theorem exF_iff (fr : Nat → Bool) (F : (Nat → Bool) → Bool) (m : Nat → Bool) : exF fr F m = true ↔ Some' fr F m := by
  unfold exF
  exact @decide_eq_true_iff _ (Classical.propDecidable _)
theorem pw2 {V a : Nat} (h : V = 2) : 2 ^ (V - a) ≤ 4 := by have := pow_le_V V a; rw [h] at this ⊢; exact this
theorem pre_at {K : List Nd} {L L' : List Nd} (h : L' = L ++ K) {i : Nat} {n : Nd} (hn : L[i]? = some n) : L'[i]? = some n := by
  rw [h, List.getElem?_append_left (List.getElem?_eq_some_iff.1 hn).1, hn]
theorem Aw.wf (h : Aw w0 w s b o g) : WF 2 g.ns := by have := h.st.wf; rw [h.V] at this; exact this
theorem Aw.var0 (h : Aw w0 w s b o g) (hb : b ≤ 80) (hL : g.ns.length = 2) (hp : VarPost w o g 0 e w') : ∃ (o' : Nat → Nat) (g' : SG), e = .returned (.tuple #[.int .i64 2, .int .i64 0]) ∧ Aw w0 w' s (b + 16) o' g' ∧ g'.ns.length = 3 ∧ g'.ns[2]? = some ⟨0, 0, 1⟩ ∧ 1 ≤ g'.W := by
  unfold VarPost at hp
  rw [if_pos (by rw [h.V]; decide)] at hp
  obtain ⟨r, o', g', h1, h2, h3, ⟨K, h4⟩, h5, h6, h7, h20⟩ := h.op (by decide) hb hp
  rw [hL] at h6
  obtain ⟨rfl, h8, h9⟩ := eg_var0 h2.wf h6 h3 h5
  exact ⟨o', g', h1, h2, h8, h9, by omega⟩
theorem Aw.var1 (h : Aw w0 w s b o g) (hb : b ≤ 80) (hL : g.ns.length = 3) (hn : g.ns[2]? = some ⟨0, 0, 1⟩) (hW : 1 ≤ g.W) (hp : VarPost w o g 1 e w') : ∃ (o' : Nat → Nat) (g' : SG), e = .returned (.tuple #[.int .i64 3, .int .i64 0]) ∧ Aw w0 w' s (b + 16) o' g' ∧ g'.ns.length = 4 ∧ g'.ns[2]? = some ⟨0, 0, 1⟩ ∧ g'.ns[3]? = some ⟨1, 0, 1⟩ ∧ 1 ≤ g'.W := by
  unfold VarPost at hp
  rw [if_pos (by rw [h.V]; decide)] at hp
  obtain ⟨r, o', g', h1, h2, h3, ⟨K, h4⟩, h5, h6, h7, h20⟩ := h.op (by decide) hb hp
  rw [hL] at h6
  have h10 := pre_at h4 hn
  obtain ⟨rfl, h8, h9⟩ := eg_var1 h2.wf h6 h3 (by rw [h4, List.length_append]; omega) h10 h5
  exact ⟨o', g', h1, h2, h8, h10, h9, by omega⟩
theorem Aw.and (h : Aw w0 w s b o g) (hb : b ≤ 80) (hL : g.ns.length = 4) (hn : g.ns[2]? = some ⟨0, 0, 1⟩) (hn3 : g.ns[3]? = some ⟨1, 0, 1⟩) (hW : 1 ≤ g.W) (hp : ItePost w o g 2 3 0 e w') : ∃ (o' : Nat → Nat) (g' : SG), e = .returned (.tuple #[.int .i64 4, .int .i64 0]) ∧ Aw w0 w' s (b + 16) o' g' ∧ Eg g'.ns ∧ 1 ≤ g'.W := by
  unfold ItePost at hp
  rw [if_pos (by rw [hL]; decide)] at hp
  obtain ⟨r, o', g', h1, h2, h3, ⟨K, h4⟩, h5, h6, h7, h20⟩ := h.op (by have := pw2 (a := m3 g.ns (Int.toNat 2) (Int.toNat 3) (Int.toNat 0)) h.V; omega) hb hp
  rw [hL] at h6
  have h10 := pre_at h4 hn
  have h11 := pre_at h4 hn3
  obtain ⟨rfl, h8, h9⟩ := eg_and h2.wf h6 h3 (by rw [h4, List.length_append]; omega) h10 h11 (fun m => by
    rw [h5]
    have e2 : ev g.ns (Int.toNat 2) m = m 0 := eg_ev2 h.wf hn m
    have e3 : ev g.ns (Int.toNat 3) m = m 1 := eg_ev3 h.wf hn3 m
    have e0 : ev g.ns (Int.toNat 0) m = false := ev0 m
    rw [e2, e3, e0]
    cases m 0 <;> rfl)
  exact ⟨o', g', h1, h2, ⟨h2.wf, h10, h11, h9⟩, by omega⟩
theorem Eg.more {L L' K : List Nd} (h : Eg L) (hL : L' = L ++ K) (hw : WF 2 L') : Eg L' := ⟨hw, pre_at hL h.n2, pre_at hL h.n3, pre_at hL h.n4⟩
theorem Eg.len {L : List Nd} (h : Eg L) : 5 ≤ L.length := (List.getElem?_eq_some_iff.1 h.n4).1
theorem Aw.or (h : Aw w0 w s b o g) (hb : b ≤ 80) (hE : Eg g.ns) (hW : 1 ≤ g.W) (hp : ItePost w o g 2 1 3 e w') : ∃ (r : Nat) (o' : Nat → Nat) (g' : SG), e = .returned (.tuple #[.int .i64 (r : Int), .int .i64 0]) ∧ Aw w0 w' s (b + 16) o' g' ∧ Eg g'.ns ∧ 1 ≤ g'.W ∧ 2 ≤ r ∧ r < g'.ns.length ∧ g'.ns[r]? = some ⟨0, 3, 1⟩ ∧ ∀ m, ev g'.ns r m = (m 0 || m 1) := by
  unfold ItePost at hp
  have hl := hE.len
  rw [if_pos (by simp [allB, okB]; omega)] at hp
  obtain ⟨r, o', g', h1, h2, h3, ⟨K, h4⟩, h5, h6, h7, h20⟩ := h.op (by have := pw2 (a := m3 g.ns (Int.toNat 2) (Int.toNat 1) (Int.toNat 3)) h.V; omega) hb hp
  have hE' := hE.more h4 h2.wf
  have h8 : ∀ m, ev g'.ns r m = (m 0 || m 1) := fun m => by
    rw [h5]
    have e2 : ev g.ns (Int.toNat 2) m = m 0 := eg_ev2 h.wf hE.n2 m
    have e3 : ev g.ns (Int.toNat 3) m = m 1 := eg_ev3 h.wf hE.n3 m
    have e0 : ev g.ns (Int.toNat 1) m = true := ev1 m
    rw [e2, e3, e0]
    cases m 0 <;> rfl
  obtain ⟨h9, h10⟩ := hE'.or h3 h8
  exact ⟨r, o', g', h1, h2, hE', by omega, h9, h3, h10, h8⟩
theorem Aw.some (h : Aw w0 w s b o g) (hb : b ≤ 80) (hE : Eg g.ns) (hW : 1 ≤ g.W) (hp : ExistsPost w o g 4 [0] e w') : ∃ (o' : Nat → Nat) (g' : SG), e = .returned (.tuple #[.int .i64 3, .int .i64 0]) ∧ Aw w0 w' s (b + 16) o' g' ∧ Eg g'.ns ∧ 1 ≤ g'.W ∧ Keep T0 w o w' o' := by
  unfold ExistsPost at hp
  have hl := hE.len
  rw [if_pos (by simp [okB]; omega), if_pos (by rw [h.V]; decide)] at hp
  obtain ⟨r, o', g', h1, h2, h3, ⟨K, h4⟩, h5, h6, h7, h20⟩ := h.op (by have := pw2 (a := ask g.ns (Int.toNat 4)) h.V; rw [show 2 ^ g.V = 4 from by rw [h.V]]; omega) hb hp
  have hE' := hE.more h4 h2.wf
  have e4 : ∀ m, ev g.ns (Int.toNat 4) m = (m 0 && m 1) := fun m => by
    show ev g.ns 4 m = _
    rw [h.wf.ev_node m (by omega) hE.n4, ev0, eg_ev3 h.wf hE.n3]
    cases m 0 <;> rfl
  obtain rfl := hE'.some h3 fun m => by
    rw [h5]
    rw [exF_iff]
    have ef : freeL [0] = fun v => decide (v = 0) := by funext v; unfold freeL; simp
    have ee : ev g.ns (Int.toNat 4) = fun m => m 0 && m 1 := funext e4
    rw [ef, ee]
  exact ⟨o', g', h1, h2, hE', by omega, h20⟩
theorem Aw.same {M : List Nd} (h : Aw w0 w s b o g) (h1 : M = g.ns) (hs : StoreM M w' o' g) (hk : Keep T0 w o w' o') : Aw w0 w' s b o' g := by
  subst h1
  exact ⟨hs, h.keep.trans hk, h.hs, h.V, h.room, h.W, h.len⟩
theorem Aw.grown (h : Aw w0 w s b o g) (hg : w.grownBy w' none) : Aw w0 w' s b o g := h.same rfl (h.st.grown hg) (keep_none _ _ hg)
theorem var_any (h : StoreAt w o g) (v : Int) : Calls Try.prog 30 #[.pointer (some ⟨g.s, 0, none⟩), .int .i64 v] w (VarPost w o g v) := by
  cases hv : okB g.V v with
  | false => exact var_bad h v hv
  | true =>
    have h2 := hv
    unfold okB at h2
    simp at h2
    obtain ⟨n, rfl⟩ : ∃ n : Nat, v = n := ⟨v.toNat, by omega⟩
    exact var_good h n (by omega)
theorem two_bools {w : World} {bw : Nat} {l : List Bool} (h : w.heap[bw]? = some (.cells (boolC l) 4 (0, 0))) : Bools w (.slice (some ⟨bw, 0, none⟩) l.length l.length) l :=
  ⟨_, _, rfl, fun _ => ⟨bw, 0, rfl, (Array.getElem?_eq_some_iff.1 h).1, fun j x hx => by
    have hj := (List.getElem?_eq_some_iff.1 hx).1
    rw [Nat.zero_add, cell_of h, boolC_at hj, List.getD_eq_getElem?_getD, hx]
    rfl⟩⟩
set_option maxHeartbeats 8000000 in
set_option maxRecDepth 100000 in
theorem awake_any (w : World) : Calls Try.prog 11 #[] w fun e w' => e = .returned (.bool true) ∧ w.grownBy w' none := by
  have HN := Lib.hid (new_any (w := w) (o := fun _ => 0) (fun _ _ => rfl) 2 100)
  go_enter Try.func11, Try.ntmps11
  go_wp2_with fail
  refine (HN.out).mono ?_
  intro e w1 hp
  obtain ⟨s, o1, g1, rfl, ha, hl⟩ : ∃ (s : Nat) (o1 : Nat → Nat) (g1 : SG), e = .returned (.tuple #[.pointer (some ⟨s, 0, none⟩), .int .i64 0]) ∧ Aw w w1 s 0 o1 g1 ∧ g1.ns.length = 2 := by
    rcases hp with ⟨h1, -⟩ | ⟨-, h1, -⟩ | ⟨-, -, s, val, o1, h1, h2, h3⟩
    · exact absurd ⟨by decide, by decide⟩ h1
    · exact absurd ⟨by decide, by decide⟩ h1
    · exact ⟨s, o1, _, h1, ⟨h2, h3.more (fun _ _ => rfl), rfl, rfl, rfl, Nat.le_refl _, Nat.le_refl _⟩, rfl⟩
  have HA := Lib.hid ha
  have HL := Lib.hid hl
  have H2 := Lib.hid (var_any ha.st 0)
  rw [ha.hs] at H2
  clear hp ha hl HN
  go_wp2_with fail
  refine (H2.out).mono ?_
  intro e w2 hp
  obtain ⟨o2, g2, rfl, h2⟩ := HA.out.var0 (by decide) HL.out hp
  have HA2 := Lib.hid h2
  have H3 := Lib.hid (var_any h2.1.st 1)
  rw [h2.1.hs] at H3
  clear hp h2 H2
  go_wp2_with fail
  refine (H3.out).mono ?_
  intro e w3 hp
  obtain ⟨o3, g3, rfl, h3⟩ := HA2.out.1.var1 (by decide) HA2.out.2.1 HA2.out.2.2.1 HA2.out.2.2.2 hp
  have HA3 := Lib.hid h3
  have H4 := Lib.hid (and_any h3.1.st 2 3)
  rw [h3.1.hs] at H4
  clear hp h3 H3
  go_wp2_with fail
  refine (H4.out).mono ?_
  intro e w4 hp
  obtain ⟨o4, g4, rfl, h4⟩ := HA3.out.1.and (by decide) HA3.out.2.1 HA3.out.2.2.1 HA3.out.2.2.2.1 HA3.out.2.2.2.2 hp
  have HA4 := Lib.hid h4
  have H5 := Lib.hid (or_any h4.1.st 2 3)
  rw [h4.1.hs] at H5
  clear hp h4 H4
  go_wp2_with fail
  refine (H5.out).mono ?_
  intro e w5 hp
  obtain ⟨r, o5, g5, rfl, h5⟩ := HA4.out.1.or (by decide) HA4.out.2.1 HA4.out.2.2 hp
  have HA5 := Lib.hid h5
  have H6 := Lib.hid (count_any h5.1.st (r : Int))
  rw [h5.1.hs] at H6
  clear hp h5 H5
  go_wp2_with fail
  refine (H6.out).mono ?_
  rintro e w6 ⟨⟨o6, hs6, hk6⟩, he⟩
  have hok : okB g5.ns.length (r : Int) = true := okB_of HA5.out.2.2.2.2.1
  have hcn : cntAll g5 (r : Int).toNat % UM = 3 := by
    unfold cntAll
    rw [Int.toNat_natCast, HA5.out.2.1.count HA5.out.2.2.2.1 HA5.out.2.2.2.2.2.1]
    rfl
  rw [hcn, if_pos hok] at he
  subst he
  have HA6 := Lib.hid (HA5.out.1.same rfl hs6 hk6)
  have H7 := Lib.hid (pick_any hs6 (r : Int))
  rw [HA6.out.hs] at H7
  have HOK := Lib.hid hok
  clear hs6 hk6 hcn H6 hok
  go_wp2_with fail
  refine (H7.out).mono ?_
  rintro e w7 ⟨hg7, hp⟩
  obtain ⟨bw, way, rfl, hwl, hcw, hge, hf⟩ : ∃ (bw : Nat) (way : List Bool), e = .returned (.tuple #[.slice (some ⟨bw, 0, none⟩) way.length way.length, .int .i64 0]) ∧ way.length = g5.V ∧ w7.heap[bw]? = some (.cells (boolC way) 4 (0, 0)) ∧ w6.heap.size ≤ bw ∧ First g5.V g5.ns ((r : Int).toNat) (lookB way) := by
    rcases hp with ⟨h1, -⟩ | ⟨-, h1⟩
    · exact absurd ⟨HOK.out, by have := HA5.out.2.2.2.1; omega⟩ h1
    · exact h1
  have hway : way = [false, true] := by
    rw [HA6.out.V] at hwl hf
    rw [Int.toNat_natCast] at hf
    obtain ⟨f0, f1⟩ := HA5.out.2.1.first HA5.out.2.2.2.2.1 HA5.out.2.2.2.2.2.2 hf
    match way, hwl with
    | [x, y], _ =>
      have : x = false := f0
      have : y = true := f1
      simp_all
  subst hway
  have HB := Lib.hid (show w7.heap[bw]? = some (.cells (boolC [false, true]) 4 (0, 0)) ∧ bw < w7.heap.size ∧ o6 bw = 0 from ⟨hcw, (Array.getElem?_eq_some_iff.1 hcw).1, HA6.out.st.new bw hge⟩)
  have HG7 := Lib.hid (HA6.out.grown hg7)
  have H8 := Lib.hid (exists_any (HG7.out.st.alloc (.cells #[.int .i64 0] 3)) 4 (nums_one w7 0) (by decide))
  rw [HG7.out.hs] at H8
  clear hg7 hp hwl hcw hge hf H7
  go_wp2_with fail
  refine (H8.out).mono ?_
  intro e w8 hp
  obtain ⟨o8, g8, rfl, h8⟩ := (HG7.out.grown (grown_alloc w7 (.cells #[.int .i64 0] 3))).some (by decide) HA5.out.2.1 HA5.out.2.2.1 hp
  have HA8 := Lib.hid h8
  have HB8 := Lib.hid (show w8.heap[bw]? = some (.cells (boolC [false, true]) 4 (0, 0)) from (h8.2.2.2.blk bw (by simp; have := HB.out.2.1; omega) (by rw [HB.out.2.2]; rfl)).trans ((heap_alloc_old HB.out.2.1).trans HB.out.1))
  clear hp h8 H8
  have hw9 : (w8.alloc (.cells #[.bool false, .bool true] 4)).heap[w8.heap.size]? = some (.cells (boolC [false, true]) 4 (0, 0)) := (MapKept.heap_alloc w8 _).1
  have HB9 := Lib.hid (show (w8.alloc (.cells #[.bool false, .bool true] 4)).heap[bw]? = some (.cells (boolC [false, true]) 4 (0, 0)) from (heap_alloc_old (Array.getElem?_eq_some_iff.1 HB8.out).1).trans HB8.out)
  have HS9 := Lib.hid (same_any (two_bools HB9.out) (two_bools hw9) (by decide))
  rw [decide_eq_true (show ([false, true] : List Bool) = [false, true] from rfl)] at HS9
  clear hw9
  go_wp2_with fail
  refine (HS9.out).mono ?_
  rintro e w9 ⟨rfl, hg9⟩
  have HA9 := Lib.hid ((HA8.out.1.grown (grown_alloc w8 (.cells #[.bool false, .bool true] 4))).grown hg9)
  have HND := Lib.hid (nodes_any HA9.out.st)
  rw [HA9.out.hs] at HND
  have qn : (g8.ns.length : Int) ≥ 5 := by have := HA8.out.2.1.len; omega
  obtain ⟨len, hlen⟩ : ∃ len : Int, (g8.ns.length : Int) = len := ⟨_, rfl⟩
  rw [hlen] at HND qn
  clear hlen hg9 HS9
  go_wp2_with fail
  refine (HND.out).mono ?_
  rintro e w10 ⟨rfl, rfl⟩
  have HWK := Lib.hid (works_any HA9.out.st)
  rw [HA9.out.hs] at HWK
  have qw : ((g8.W % 18446744073709551616 : Nat) : Int) > 0 := by
    have h1 := HA9.out.W
    have h2 := HA8.out.2.2.1
    rw [Nat.mod_eq_of_lt (by omega)]
    omega
  obtain ⟨wk, hwk⟩ : ∃ wk : Int, ((g8.W % 18446744073709551616 : Nat) : Int) = wk := ⟨_, rfl⟩
  rw [hwk] at HWK qw
  clear hwk HND
  go_wp2_with fail
  refine (HWK.out).mono ?_
  rintro e w11 ⟨rfl, rfl⟩
  go_wp2
  go_ret
  exact ⟨rfl, HA9.out.keep.none⟩
end

end Go.Proofs.Ytailpphafoamfaa
namespace Go.Proofs.Ytailpphafoamfaa
open Go Go.RowKit Go.Maps


section
variable {P : Program} (w : World)
/-- append's run, onto an empty row, of whatever reads as numbers, nil too. -/
theorem run_append_nums (t ty e : TypeId) (i : TypeInfo) (ht : P.underlying t = some (.slice e)) (hi : P.info? e = some i) (hz : i.zero = some (.int .i64 0)) (hsize : i.size = 1) (hby : i.bytes = 8)
    (base : Nat) (v : Value) (hown : w.ownsRow base e 1 v 0 []) (u : Value) (ys : List Int) (hu : Nums w u ys) (hl : ys.length ≤ 1000000) (hbase : base ≤ w.heap.size) :
    ∃ v' w', (Builtin.append_ #[t, t] ty #[v, u]).run P w = .ok v' w' ∧ w'.ownsRow base e 1 v' ys.length (ys.map (Value.int .i64)) ∧ w.grownBy w' v.ownBlock := by
  obtain ⟨A, c, rfl, hat⟩ := hu
  cases A with
  | none =>
    have h0 : ys = [] := by
      cases ys with
      | nil => rfl
      | cons y r => obtain ⟨b, off, h, _⟩ := hat (by simp); cases h
    subst h0
    refine ⟨v, w, ?_, by simpa using hown, World.grownBy.refl w _⟩
    rcases hown.2 with ⟨rfl, _⟩ | ⟨g, cap, cur, rfl, _, _, hnc, _⟩
    · simp [Builtin.append_, run_underlying ht, sizeOf, typeInfo, hi, Builtin.lenOf, Builtin.firstCells]
    · simp [Builtin.append_, run_underlying ht, sizeOf, typeInfo, hi, Builtin.lenOf, Builtin.firstCells, storeCells]
  | some ad =>
    have hcells : ∀ j x, (ys.map (Value.int .i64))[j]? = some x → w.cell? (ad.add j) = some x := by
      intro j x hx
      rw [List.getElem?_map] at hx
      cases hy : ys[j]? with
      | none => rw [hy] at hx; cases hx
      | some y =>
        rw [hy] at hx
        simp at hx
        subst hx
        obtain ⟨b, off, h, _, hc⟩ := hat (by intro e; rw [e] at hy; simp at hy)
        cases h
        have := hc j y hy
        have e1 : (⟨b, off, none⟩ : Addr).add j = ⟨b, off + j, none⟩ := by unfold Addr.add; by_cases h : j = 0 <;> simp [h]
        rwa [e1]
    obtain ⟨v', w', hrun, h2, h3, _, h5⟩ := run_append_own_at (P := P) w base t ty e i (.int .i64 0) 1 8 ht hi hz hsize hby rfl (by decide) v 0 [] hown ad ys.length c (ys.map (Value.int .i64)) (by simp) hcells (fun u hu => by
      obtain ⟨x, _, rfl⟩ := List.mem_map.1 hu
      rfl) (by unfold maxLen; omega) (by omega) hbase
    exact ⟨v', w', hrun, by simpa using h2, h3⟩
theorem wp_append_nums {o : Oper} {a : Act} {K : Act → World → Prop} {Q : Exit → Act → World → Prop} (s x : Operand) (t : TypeId)
    (ho : o.op = .call { callee := .builtin .append, args := #[s, x], argTypes := #[t, t] }) (e : TypeId) (i : TypeInfo) (ht : P.underlying t = some (.slice e)) (hi : P.info? e = some i) (hz : i.zero = some (.int .i64 0)) (hsize : i.size = 1) (hby : i.bytes = 8)
    (base : Nat) (v : Value) (hs : a.eval s = v) (hown : w.ownsRow base e 1 v 0 []) (u : Value) (ys : List Int) (hx : a.eval x = u) (hu : Nums w u ys) (hl : ys.length ≤ 1000000) (hbase : base ≤ w.heap.size)
    (h : ∀ v' w', w'.ownsRow base e 1 v' ys.length (ys.map (Value.int .i64)) → w.grownBy w' v.ownBlock → K (a.put o.dst v') w') : o.wp P a w K Q := by
  obtain ⟨v', w', hr, h2, h3⟩ := run_append_nums (P := P) w t o.type e i ht hi hz hsize hby base v hown u ys hu hl hbase
  unfold Oper.wp execOp
  simp only [ho, resolve, invoke, builtin, Sem.run_bind, Sem.run_pure, Result.andThen_ok, List.map_toArray, List.map_cons, List.map_nil, hs, hx, hr]
  exact h v' w' h2 h3
end
section
variable {w w' wd : World} {o o' : Nat → Nat} {g : SG} {F F' : (Nat → Bool) → Bool} {c lo : Nat} {e : Ending}
theorem OpPost.congr (h : OpPost w o g F c lo e w') (hF : ∀ m, F m = F' m) : OpPost w o g F' c lo e w' := by
  have : F = F' := funext hF
  rw [← this]; exact h
theorem OpPost.from_ (k : Keep T0 w o wd o) (h : OpPost wd o g F c lo e w') : OpPost w o g F c lo e w' := by
  obtain ⟨o', g', hz⟩ := h
  exact ⟨o', g', hz.st, k.trans hz.keep, hz.ups, hz.W1, hz.W2, hz.res, hz.src⟩
theorem OpPost.form (h : OpPost w o g F c lo e w') : ∃ x y : Int, e = .returned (.tuple #[.int .i64 x, .int .i64 y]) := by
  obtain ⟨o', g', hz⟩ := h
  rcases hz.res with ⟨h1, -⟩ | ⟨r, h1, -⟩
  · exact ⟨_, _, h1⟩
  · exact ⟨_, _, h1⟩
theorem OpPost.stay (h : OpPost w o g F c lo e w') {b : Nat} (hb : b < w.heap.size) (ho : o b = 0) : w'.heap[b]? = w.heap[b]? := by
  obtain ⟨o', g', hz⟩ := h
  exact hz.keep.blk b hb (by rw [ho]; rfl)
theorem OpPost.lo0 (h : OpPost w o g F c lo e w') : OpPost w o g F c 0 e w' := by
  obtain ⟨o', g', hz⟩ := h
  exact ⟨o', g', hz.st, hz.keep, hz.ups, hz.W1, Nat.le_trans (by omega) hz.W2, hz.res, hz.src⟩
theorem pow_V (V : Nat) (h : V ≤ 6) (a : Nat) : 2 ^ (V - a) ≤ 64 := pow6 (by omega)
theorem all3 {n x y z : Nat} (hx : x < n) (hy : y < n) (hz : z < n) : allB n [(x : Int), (y : Int), (z : Int)] = true := by simp [allB, okB]; omega
theorem c_ite {x y z : Nat} (hV : g.V ≤ 6) (hx : x < g.ns.length) (hy : y < g.ns.length) (hz : z < g.ns.length) (h : ItePost w o g (x : Int) (y : Int) (z : Int) e w') : OpPost w o g (fun m => iteB (ev g.ns x m) (ev g.ns y m) (ev g.ns z m)) 5000 0 e w' := by
  unfold ItePost at h
  rw [if_pos (all3 hx hy hz)] at h
  simp only [Int.toNat_natCast] at h
  exact h.mono (by have := pow_V g.V hV (m3 g.ns x y z); omega)
theorem c_not {x : Nat} (hw : WF g.V g.ns) (hV : g.V ≤ 6) (hx : x < g.ns.length) (h : ItePost w o g (x : Int) 0 1 e w') : OpPost w o g (fun m => !ev g.ns x m) 5000 0 e w' :=
  (c_ite (x := x) (y := 0) (z := 1) hV hx (by have := hw.two; omega) (by have := hw.two; omega) h).congr fun m => by rw [ev0, ev1]; cases ev g.ns x m <;> rfl
theorem c_and {x y : Nat} (hw : WF g.V g.ns) (hV : g.V ≤ 6) (hx : x < g.ns.length) (hy : y < g.ns.length) (h : ItePost w o g (x : Int) (y : Int) 0 e w') : OpPost w o g (fun m => ev g.ns x m && ev g.ns y m) 5000 0 e w' :=
  (c_ite (x := x) (y := y) (z := 0) hV hx hy (by have := hw.two; omega) h).congr fun m => by rw [ev0]; cases ev g.ns x m <;> rfl
theorem c_or {x y : Nat} (hw : WF g.V g.ns) (hV : g.V ≤ 6) (hx : x < g.ns.length) (hy : y < g.ns.length) (h : ItePost w o g (x : Int) 1 (y : Int) e w') : OpPost w o g (fun m => ev g.ns x m || ev g.ns y m) 5000 0 e w' :=
  (c_ite (x := x) (y := 1) (z := y) hV hx (by have := hw.two; omega) hy h).congr fun m => by rw [ev1]; cases ev g.ns x m <;> rfl
theorem c_iff {x y : Nat} (hV : g.V ≤ 6) (hx : x < g.ns.length) (hy : y < g.ns.length) (h : IffPost w o g (x : Int) (y : Int) e w') : OpPost w o g (fun m => ev g.ns x m == ev g.ns y m) 5000 0 e w' := by
  unfold IffPost at h
  rw [if_pos (by simp [allB, okB]; omega)] at h
  simp only [Int.toNat_natCast] at h
  exact h.mono (by have := pow_V g.V hV 0; rw [Nat.sub_zero] at this; omega)
theorem c_var {v : Nat} (hv : v < g.V) (h : VarPost w o g (v : Int) e w') : OpPost w o g (fun m => m v) 5000 0 e w' := by
  unfold VarPost at h
  rw [if_pos (by simp [okB]; omega)] at h
  exact (h.mono (by omega)).lo0
theorem freeL_nat (vs : List Nat) : freeL (vs.map fun (x : Nat) => (x : Int)) = fun v => decide (v ∈ vs) := by
  funext v
  unfold freeL
  congr 1
  rw [List.mem_map]
  exact propext ⟨fun ⟨a, h1, h2⟩ => (by have : a = v := by omega
                                        subst this; exact h1), fun h => ⟨v, h, rfl⟩⟩
theorem c_exists {x : Nat} {vs : List Nat} (hV : g.V ≤ 6) (hx : x < g.ns.length) (hvs : ∀ v ∈ vs, v < g.V) (h : ExistsPost w o g (x : Int) (vs.map fun (x : Nat) => (x : Int)) e w') : OpPost w o g (vs.foldl ex1 (ev g.ns x)) 5000 0 e w' := by
  unfold ExistsPost at h
  rw [if_pos (okB_of hx), if_pos (by
    unfold allB
    rw [List.all_eq_true]
    intro z hz
    obtain ⟨v, hv, rfl⟩ := List.mem_map.1 hz
    exact okB_of (hvs v hv))] at h
  simp only [Int.toNat_natCast] at h
  refine (h.mono (c' := 5000) ?_).congr fun m => ?_
  · have h1 := pow_V g.V hV (ask g.ns x)
    have h2 := pow6 hV
    exact Nat.le_trans (Nat.sub_le _ _) (Nat.le_trans (Nat.mul_le_mul h2 h1) (by decide))
  · have h1 := exF_iff (freeL (vs.map fun (x : Nat) => (x : Int))) (ev g.ns x) m
    have h2 := ex_list vs (ev g.ns x) m
    rw [freeL_nat] at h1
    rw [← h1, ← freeL_nat] at h2
    cases ha : vs.foldl ex1 (ev g.ns x) m
    · cases hb : exF (freeL (vs.map fun (x : Nat) => (x : Int))) (ev g.ns x) m
      · rfl
      · rw [h2.2 hb] at ha; cases ha
    · exact h2.1 ha
theorem c_rename {x : Nat} {l : List Int} (hV : g.V ≤ 6) (hx : x < g.ns.length) (h : RenamePost w o g (x : Int) l e w') : (RenOk g x l → OpPost w o g (fun m => ev g.ns x (fun z => m (l.getD z 0).toNat)) 5000 0 e w') ∧ (¬ RenOk g x l → e = .returned (.tuple #[.int .i64 0, .int .i64 91]) ∧ ∃ o', StoreAt w' o' g ∧ Keep T0 w o w' o') := by
  obtain ⟨-, h2, h3⟩ := h
  simp only [Int.toNat_natCast] at h2 h3
  refine ⟨fun hr => (h3 (okB_of hx) hr).mono ?_, h2 (okB_of hx)⟩
  have h1 := pow_V g.V hV (ask g.ns x)
  have h2 := pow6 hV
  exact Nat.le_trans (Nat.sub_le _ _) (Nat.le_trans (Nat.mul_le_mul h2 h1) (by decide))
end

end Go.Proofs.Ytailpphafoamfaa
namespace Go.Proofs.Ytailpphafoamfaa
open Go Go.RowKit Go.Maps


theorem getD_nat (ls : List Nat) (j : Nat) : (ls.map fun (x : Nat) => (x : Int)).getD j 0 = ((ls.getD j 0 : Nat) : Int) := by
  rw [List.getD_eq_getElem?_getD, List.getD_eq_getElem?_getD, List.getElem?_map]
  cases ls[j]? <;> rfl
theorem NumsO.at_ {w : World} {o : Nat → Nat} {v : Value} {l : List Int} (h : NumsO w o v l) {N : Nat} (hN : l.length = N) {i : Nat} (hi : i < N) : ∃ b off c, v = .slice (some ⟨b, off, none⟩) N c ∧ b < w.heap.size ∧ o b = 0 ∧ ∀ j, j < N → w.cell? ⟨b, off + j, none⟩ = some (.int .i64 (l.getD j 0)) := by
  obtain ⟨A, c, h1, h2⟩ := h
  obtain ⟨b, off, rfl, hb, ho, hc⟩ := h2 (by intro e; rw [e] at hN; simp at hN; omega)
  refine ⟨b, off, c, by rw [h1, hN], hb, ho, fun j hj => ?_⟩
  have hj' : j < l.length := by omega
  have := hc j l[j] (List.getElem?_eq_getElem hj')
  rw [this, List.getD_eq_getElem?_getD, List.getElem?_eq_getElem hj']
  rfl
theorem IRow.numsO {w : World} {o : Nat → Nat} {base : Nat} {v : Value} {l : List Int} (h : IRow base w v l) (hn : ∀ k, base ≤ k → o k = 0) : NumsO w o v l := by
  obtain ⟨A, c, h1, h2⟩ := h.nums
  refine ⟨A, c, h1, fun hne => ?_⟩
  obtain ⟨b, off, rfl, h4, h6⟩ := h2 hne
  exact ⟨b, off, rfl, h4, hn b (h.lt b (by rw [h1]; rfl)).1, h6⟩
/-- What a renaming leaves. -/
def DoPost7 (w : World) (o : Nat → Nat) (g : SG) (x : Nat) (l : List Int) (e : Ending) (w' : World) : Prop :=
  (RenOk g x l → OpPost w o g (fun m => ev g.ns x (fun z => m (l.getD z 0).toNat)) 5000 0 e w') ∧ (¬ RenOk g x l → e = .returned (.tuple #[.int .i64 0, .int .i64 91]) ∧ ∃ o', StoreAt w' o' g ∧ Keep T0 w o w' o')
open Classical in
theorem do7_conv {w wb wc z1 : World} {o : Nat → Nat} {g : SG} {x : Nat} {l : List Int} {e : Ending} (hb : w.grownBy wb none) (hc : (World.drew wb).grownBy wc none) (h : DoPost7 wc o g x l e z1) :
    DoPost7 w o g x l e z1 ∧ ∃ a b : Int, e = .returned (.tuple #[.int .i64 a, .int .i64 b]) ∧ ∀ k, k < wc.heap.size → o k = 0 → z1.heap[k]? = wc.heap[k]? := by
  have hk : Keep T0 w o wc o := ((keep_none T0 o hb).trans (keep_drew T0 wb o)).trans (keep_none T0 o hc)
  refine ⟨⟨fun hr => OpPost.from_ hk (h.1 hr), fun hr => ?_⟩, ?_⟩
  · obtain ⟨h1, o', h2, h3⟩ := h.2 hr
    exact ⟨h1, o', h2, hk.trans h3⟩
  · by_cases hr : RenOk g x l
    · have h1 := h.1 hr
      obtain ⟨a, b, h2⟩ := h1.form
      exact ⟨a, b, h2, fun k hk ho => h1.stay hk ho⟩
    · obtain ⟨h1, o', h2, h3⟩ := h.2 hr
      exact ⟨0, 91, h1, fun k hk ho => h3.blk k hk (by rw [ho]; rfl)⟩
set_option maxHeartbeats 8000000 in
set_option maxRecDepth 100000 in
theorem do0_any {w : World} {o : Nat → Nat} {g : SG} {lv vv : Value} {ls vs : List Nat} {n A : Nat} {B C : Int} (h : StoreAt w o g) (hV : g.V ≤ 6) (hl : NumsO w o lv (ls.map fun (x : Nat) => (x : Int))) (hb : ∀ x ∈ ls, x < g.ns.length) (hM1 : ls.length ≤ 1000) (hA : A < g.V) :
    Calls Try.prog 25 #[.pointer (some ⟨g.s, 0, none⟩), .agg #[.int .i64 0, .int .i64 (A : Int), .int .i64 (B : Int), .int .i64 (C : Int), vv], lv] w (OpPost w o g (fun m => m A) 5000 0) := by
  obtain ⟨i0, hi0, hz0, hz1, hz2⟩ := info_parts info3
  have HV := Lib.hid hV
  have HH := Lib.hid h
  obtain ⟨M, hM⟩ : ∃ M, ls.length = M := ⟨_, rfl⟩
  rw [hM] at hM1
  have qM : (M : Int) ≤ 1000 := by omega
  obtain ⟨Al, cl, rfl, -⟩ := hl
  have HA := Lib.hid hA
  rw [List.length_map, hM]
  clear hb hM hM1 hV hA
  go_enter Try.func25, Try.ntmps25
  obtain ⟨wb, hwb⟩ : ∃ wb, w.alloc (.cells #[.int .i64 0, .int .i64 (A : Int), .int .i64 (B : Int), .int .i64 (C : Int), vv] 51) = wb := ⟨_, rfl⟩
  have HWB := Lib.hid (show w.grownBy wb none from by rw [← hwb]; exact grown_alloc _ _)
  have HSB := Lib.hid (show StoreAt wb o g from by rw [← hwb]; exact h.alloc _)
  obtain ⟨bx, hbx⟩ : ∃ bx, w.heap.size = bx := ⟨_, rfl⟩
  have HC := Lib.hid (show wb.heap[bx]? = some (.cells #[.int .i64 0, .int .i64 (A : Int), .int .i64 (B : Int), .int .i64 (C : Int), vv] 51 (0, 0)) from by rw [← hwb, ← hbx]; exact (MapKept.heap_alloc w _).1)
  have HOX := Lib.hid (show o bx = 0 from h.new _ (by omega))
  have x0 : wb.cell? ⟨bx, 0, none⟩ = some (.int .i64 0) := (cell_of HC.out).trans rfl
  have x1 : wb.cell? ⟨bx, 1, none⟩ = some (.int .i64 (A : Int)) := (cell_of HC.out).trans rfl
  have x2 : wb.cell? ⟨bx, 2, none⟩ = some (.int .i64 (B : Int)) := (cell_of HC.out).trans rfl
  have x3 : wb.cell? ⟨bx, 3, none⟩ = some (.int .i64 (C : Int)) := (cell_of HC.out).trans rfl
  have x4 : wb.cell? ⟨bx, 4, none⟩ = some vv := (cell_of HC.out).trans rfl
  clear h
  have HSD := HSB
  have HCALL := Lib.hid (var_any HSD.out (A : Int))
  go_wp2_with fail
  refine (HCALL.out).mono ?_
  intro e w2 hp
  have hop := OpPost.from_ (keep_none T0 o HWB.out) (c_var HA.out hp)
  have HFIN := Lib.hid hop
  obtain ⟨z0, z1, rfl⟩ := hop.form
  clear hp hop
  go_wp2
  go_ret2
  exact HFIN.out
set_option maxHeartbeats 8000000 in
set_option maxRecDepth 100000 in
theorem do2_any {w : World} {o : Nat → Nat} {g : SG} {lv vv : Value} {ls vs : List Nat} {A B C : Nat} (h : StoreAt w o g) (hV : g.V ≤ 6) (hl : NumsO w o lv (ls.map fun (x : Nat) => (x : Int))) (hb : ∀ x ∈ ls, x < g.ns.length) (hM1 : ls.length ≤ 1000) (hA : A < ls.length) :
    Calls Try.prog 25 #[.pointer (some ⟨g.s, 0, none⟩), .agg #[.int .i64 2, .int .i64 (A : Int), .int .i64 (B : Int), .int .i64 (C : Int), vv], lv] w (OpPost w o g (fun m => !ev g.ns (ls.getD A 0) m) 5000 0) := by
  obtain ⟨i0, hi0, hz0, hz1, hz2⟩ := info_parts info3
  have HV := Lib.hid hV
  have HH := Lib.hid h
  obtain ⟨M, hM⟩ : ∃ M, ls.length = M := ⟨_, rfl⟩
  rw [hM] at hA hM1
  have qM : (M : Int) ≤ 1000 := by omega
  obtain ⟨bl, ol, cl, rfl, hbl, hol, hcl⟩ := hl.at_ (N := M) (by rw [List.length_map]; exact hM) hA
  have HBL := Lib.hid hbl
  have HOL := Lib.hid hol
  obtain ⟨xA, hxA⟩ : ∃ x, ls.getD A 0 = x := ⟨_, rfl⟩
  have kA' := hcl A hA
  rw [getD_nat, hxA] at kA'
  have HKA := Lib.hid kA'
  have qA : (A : Int) < (M : Int) := by omega
  have HLA := Lib.hid (show xA < g.ns.length from by rw [← hxA, List.getD_eq_getElem?_getD, List.getElem?_eq_getElem (by omega)]; exact hb _ (List.getElem_mem _))
  rw [hxA]
  clear hcl hl hb hbl hol hM hM1 hV hA kA' hxA
  go_enter Try.func25, Try.ntmps25
  obtain ⟨wb, hwb⟩ : ∃ wb, w.alloc (.cells #[.int .i64 2, .int .i64 (A : Int), .int .i64 (B : Int), .int .i64 (C : Int), vv] 51) = wb := ⟨_, rfl⟩
  have HWB := Lib.hid (show w.grownBy wb none from by rw [← hwb]; exact grown_alloc _ _)
  have HSB := Lib.hid (show StoreAt wb o g from by rw [← hwb]; exact h.alloc _)
  obtain ⟨bx, hbx⟩ : ∃ bx, w.heap.size = bx := ⟨_, rfl⟩
  have HC := Lib.hid (show wb.heap[bx]? = some (.cells #[.int .i64 2, .int .i64 (A : Int), .int .i64 (B : Int), .int .i64 (C : Int), vv] 51 (0, 0)) from by rw [← hwb, ← hbx]; exact (MapKept.heap_alloc w _).1)
  have HOX := Lib.hid (show o bx = 0 from h.new _ (by omega))
  have x0 : wb.cell? ⟨bx, 0, none⟩ = some (.int .i64 2) := (cell_of HC.out).trans rfl
  have x1 : wb.cell? ⟨bx, 1, none⟩ = some (.int .i64 (A : Int)) := (cell_of HC.out).trans rfl
  have x2 : wb.cell? ⟨bx, 2, none⟩ = some (.int .i64 (B : Int)) := (cell_of HC.out).trans rfl
  have x3 : wb.cell? ⟨bx, 3, none⟩ = some (.int .i64 (C : Int)) := (cell_of HC.out).trans rfl
  have x4 : wb.cell? ⟨bx, 4, none⟩ = some vv := (cell_of HC.out).trans rfl
  have kA := (World.cell?_of_block (a := ⟨bl, ol + A, none⟩) (grown_far HWB.out HBL.out)).trans HKA.out
  clear h
  have HSD := HSB
  have HCALL := Lib.hid (not_any HSD.out (xA : Int))
  go_wp2_with fail
  refine (HCALL.out).mono ?_
  intro e w2 hp
  have hop := OpPost.from_ (keep_none T0 o HWB.out) (c_not HSD.out.wf HV.out HLA.out hp)
  have HFIN := Lib.hid hop
  obtain ⟨z0, z1, rfl⟩ := hop.form
  clear hp hop
  go_wp2
  go_ret2
  exact HFIN.out
set_option maxHeartbeats 8000000 in
set_option maxRecDepth 100000 in
theorem do3_any {w : World} {o : Nat → Nat} {g : SG} {lv vv : Value} {ls vs : List Nat} {A B C : Nat} (h : StoreAt w o g) (hV : g.V ≤ 6) (hl : NumsO w o lv (ls.map fun (x : Nat) => (x : Int))) (hb : ∀ x ∈ ls, x < g.ns.length) (hM1 : ls.length ≤ 1000) (hA : A < ls.length) (hB : B < ls.length) :
    Calls Try.prog 25 #[.pointer (some ⟨g.s, 0, none⟩), .agg #[.int .i64 3, .int .i64 (A : Int), .int .i64 (B : Int), .int .i64 (C : Int), vv], lv] w (OpPost w o g (fun m => ev g.ns (ls.getD A 0) m && ev g.ns (ls.getD B 0) m) 5000 0) := by
  obtain ⟨i0, hi0, hz0, hz1, hz2⟩ := info_parts info3
  have HV := Lib.hid hV
  have HH := Lib.hid h
  obtain ⟨M, hM⟩ : ∃ M, ls.length = M := ⟨_, rfl⟩
  rw [hM] at hA hB hM1
  have qM : (M : Int) ≤ 1000 := by omega
  obtain ⟨bl, ol, cl, rfl, hbl, hol, hcl⟩ := hl.at_ (N := M) (by rw [List.length_map]; exact hM) hA
  have HBL := Lib.hid hbl
  have HOL := Lib.hid hol
  obtain ⟨xA, hxA⟩ : ∃ x, ls.getD A 0 = x := ⟨_, rfl⟩
  have kA' := hcl A hA
  rw [getD_nat, hxA] at kA'
  have HKA := Lib.hid kA'
  have qA : (A : Int) < (M : Int) := by omega
  have HLA := Lib.hid (show xA < g.ns.length from by rw [← hxA, List.getD_eq_getElem?_getD, List.getElem?_eq_getElem (by omega)]; exact hb _ (List.getElem_mem _))
  obtain ⟨xB, hxB⟩ : ∃ x, ls.getD B 0 = x := ⟨_, rfl⟩
  have kB' := hcl B hB
  rw [getD_nat, hxB] at kB'
  have HKB := Lib.hid kB'
  have qB : (B : Int) < (M : Int) := by omega
  have HLB := Lib.hid (show xB < g.ns.length from by rw [← hxB, List.getD_eq_getElem?_getD, List.getElem?_eq_getElem (by omega)]; exact hb _ (List.getElem_mem _))
  rw [hxA, hxB]
  clear hcl hl hb hbl hol hM hM1 hV hA kA' hxA hB kB' hxB
  go_enter Try.func25, Try.ntmps25
  obtain ⟨wb, hwb⟩ : ∃ wb, w.alloc (.cells #[.int .i64 3, .int .i64 (A : Int), .int .i64 (B : Int), .int .i64 (C : Int), vv] 51) = wb := ⟨_, rfl⟩
  have HWB := Lib.hid (show w.grownBy wb none from by rw [← hwb]; exact grown_alloc _ _)
  have HSB := Lib.hid (show StoreAt wb o g from by rw [← hwb]; exact h.alloc _)
  obtain ⟨bx, hbx⟩ : ∃ bx, w.heap.size = bx := ⟨_, rfl⟩
  have HC := Lib.hid (show wb.heap[bx]? = some (.cells #[.int .i64 3, .int .i64 (A : Int), .int .i64 (B : Int), .int .i64 (C : Int), vv] 51 (0, 0)) from by rw [← hwb, ← hbx]; exact (MapKept.heap_alloc w _).1)
  have HOX := Lib.hid (show o bx = 0 from h.new _ (by omega))
  have x0 : wb.cell? ⟨bx, 0, none⟩ = some (.int .i64 3) := (cell_of HC.out).trans rfl
  have x1 : wb.cell? ⟨bx, 1, none⟩ = some (.int .i64 (A : Int)) := (cell_of HC.out).trans rfl
  have x2 : wb.cell? ⟨bx, 2, none⟩ = some (.int .i64 (B : Int)) := (cell_of HC.out).trans rfl
  have x3 : wb.cell? ⟨bx, 3, none⟩ = some (.int .i64 (C : Int)) := (cell_of HC.out).trans rfl
  have x4 : wb.cell? ⟨bx, 4, none⟩ = some vv := (cell_of HC.out).trans rfl
  have kA := (World.cell?_of_block (a := ⟨bl, ol + A, none⟩) (grown_far HWB.out HBL.out)).trans HKA.out
  have kB := (World.cell?_of_block (a := ⟨bl, ol + B, none⟩) (grown_far HWB.out HBL.out)).trans HKB.out
  clear h
  have HSD := Lib.hid HSB.out.drew
  have HLT := Lib.hid (show ∀ k ∈ [bx, bl], k < (World.drew wb).heap.size ∧ o k = 0 from fun k hk => by
    simp at hk
    rcases hk with rfl | rfl
    · exact ⟨(Array.getElem?_eq_some_iff.1 HC.out).1, HOX.out⟩
    · exact ⟨Nat.lt_of_lt_of_le HBL.out HWB.out.size, HOL.out⟩)
  have HCALL := Lib.hid (and_any HSD.out (xA : Int) (xB : Int))
  go_wp2
  refine wp_region_T (S := fun w' => ∀ k ∈ [bx, bl], w'.heap[k]? = wb.heap[k]?) (tail := fun _ => false) (by kernel_rfl) ?_
  change wpAnyT _ _ _ _ _ _ _ _ _ (World.drew wb)
  have BD := Lib.hid (show ∀ k ∈ [bx, bl], (World.drew wb).heap[k]? = wb.heap[k]? from fun _ _ => rfl)
  refine tk 0 52 (.pointer (some ⟨g.s, 0, none⟩)) BD.out ?y0 ?_
  case y0 =>
    intro w' hw'
    go_simp
  try simp only [Act.put, List.setIfInBounds_toArray, List.set_cons_zero, List.set_cons_succ]
  refine tk 1 53 (.slice (some ⟨bl, ol, none⟩) M cl) BD.out ?y1 ?_
  case y1 =>
    intro w' hw'
    go_simp
  try simp only [Act.put, List.setIfInBounds_toArray, List.set_cons_zero, List.set_cons_succ]
  refine tk 2 54 (.pointer (some ⟨bx, 1, none⟩)) BD.out ?y2 ?_
  case y2 =>
    intro w' hw'
    go_simp
  try simp only [Act.put, List.setIfInBounds_toArray, List.set_cons_zero, List.set_cons_succ]
  refine tk 3 55 (.int .i64 (A : Int)) BD.out ?y3 ?_
  case y3 =>
    intro w' hw'
    have z0 := (World.cell?_of_block (a := ⟨bx, 1, none⟩) (hw' bx (by simp))).trans x1
    go_simp
  try simp only [Act.put, List.setIfInBounds_toArray, List.set_cons_zero, List.set_cons_succ]
  refine tk 4 56 (.pointer (some ⟨bl, ol + A, none⟩)) BD.out ?y4 ?_
  case y4 =>
    intro w' hw'
    go_simp
  try simp only [Act.put, List.setIfInBounds_toArray, List.set_cons_zero, List.set_cons_succ]
  refine tk 5 57 (.int .i64 (xA : Int)) BD.out ?y5 ?_
  case y5 =>
    intro w' hw'
    have z0 := (World.cell?_of_block (a := ⟨bl, ol + A, none⟩) (hw' bl (by simp))).trans kA
    go_simp
  try simp only [Act.put, List.setIfInBounds_toArray, List.set_cons_zero, List.set_cons_succ]
  refine tk 6 58 (.slice (some ⟨bl, ol, none⟩) M cl) BD.out ?y6 ?_
  case y6 =>
    intro w' hw'
    go_simp
  try simp only [Act.put, List.setIfInBounds_toArray, List.set_cons_zero, List.set_cons_succ]
  refine tk 7 59 (.pointer (some ⟨bx, 2, none⟩)) BD.out ?y7 ?_
  case y7 =>
    intro w' hw'
    go_simp
  try simp only [Act.put, List.setIfInBounds_toArray, List.set_cons_zero, List.set_cons_succ]
  refine tk 8 60 (.int .i64 (B : Int)) BD.out ?y8 ?_
  case y8 =>
    intro w' hw'
    have z0 := (World.cell?_of_block (a := ⟨bx, 2, none⟩) (hw' bx (by simp))).trans x2
    go_simp
  try simp only [Act.put, List.setIfInBounds_toArray, List.set_cons_zero, List.set_cons_succ]
  refine tk 9 61 (.pointer (some ⟨bl, ol + B, none⟩)) BD.out ?y9 ?_
  case y9 =>
    intro w' hw'
    go_simp
  try simp only [Act.put, List.setIfInBounds_toArray, List.set_cons_zero, List.set_cons_succ]
  refine tk 10 62 (.int .i64 (xB : Int)) BD.out ?y10 ?_
  case y10 =>
    intro w' hw'
    have z0 := (World.cell?_of_block (a := ⟨bl, ol + B, none⟩) (hw' bl (by simp))).trans kB
    go_simp
  try simp only [Act.put, List.setIfInBounds_toArray, List.set_cons_zero, List.set_cons_succ]
  refine on 11 (fun K hK => ?_)
  go_simp
  refine (HCALL.out).mono ?_
  intro e z1 hp
  have hop0 := c_and HSD.out.wf HV.out HLA.out HLB.out hp
  have B1 := Lib.hid (show ∀ k ∈ [bx, bl], z1.heap[k]? = wb.heap[k]? from fun k hk => hop0.stay (HLT.out k hk).1 (HLT.out k hk).2)
  have hop := OpPost.from_ ((keep_none T0 o HWB.out).trans (keep_drew T0 wb o)) hop0
  have HFIN := Lib.hid hop
  obtain ⟨z0, zz, rfl⟩ := hop.form
  clear hp hop hop0
  refine hK.out _ _ (fun _ => B1.out) ?_
  clear hK K
  try simp only [Act.put, List.setIfInBounds_toArray, List.set_cons_zero, List.set_cons_succ]
  refine tk 12 64 (.int .i64 z0) B1.out ?y12 ?_
  case y12 =>
    intro w' hw'
    go_simp
  try simp only [Act.put, List.setIfInBounds_toArray, List.set_cons_zero, List.set_cons_succ]
  refine tk 13 65 (.int .i64 zz) B1.out ?y13 ?_
  case y13 =>
    intro w' hw'
    go_simp
  try simp only [Act.put, List.setIfInBounds_toArray, List.set_cons_zero, List.set_cons_succ]
  refine tk 14 6 (.int .i64 z0) B1.out ?y14 ?_
  case y14 =>
    intro w' hw'
    go_simp
  try simp only [Act.put, List.setIfInBounds_toArray, List.set_cons_zero, List.set_cons_succ]
  refine tk 15 7 (.int .i64 zz) B1.out ?y15 ?_
  case y15 =>
    intro w' hw'
    go_simp
  try simp only [Act.put, List.setIfInBounds_toArray, List.set_cons_zero, List.set_cons_succ]
  refine dn ?_
  go_wp2
  go_ret2
  exact HFIN.out

end Go.Proofs.Ytailpphafoamfaa
