/- What is refused. -/
import Derived.Test.YtailpphafoamfaaPkao
set_option linter.all false
namespace Go.Proofs.Ytailpphafoamfaa
open Go Go.RowKit Go.Maps


section
variable {w0 w w' : World} {o o' : Nat → Nat} {g g' : SG} {s b c lo V : Nat} {F : (Nat → Bool) → Bool} {e : Ending}
def wantX (inn ok : Bool) : Int := if inn = true then (if ok = true then 0 else 91) else 92
set_option maxHeartbeats 8000000 in
set_option maxRecDepth 100000 in
theorem told_node {b : Nat} {inn : Bool} (hc : w.cell? ⟨b, 0, none⟩ = some (.bool inn)) (ok : Bool) {x : Int} (hx : x = wantX inn ok) : Calls Try.prog 31 #[.int .i64 x, .bool ok, .pointer (some ⟨b, 0, none⟩)] w fun e w' => e = .returned (.bool true) ∧ w = w' := by
  subst hx
  cases inn <;> cases ok
  all_goals
    simp only [wantX, if_true, Bool.false_eq_true, if_false]
    go_enter Try.func31, Try.ntmps31
    go_wp2
    go_ret
    exact ⟨rfl, rfl⟩
/-- A store with nothing but its ends. -/
structure Rf (w0 w : World) (s V : Nat) (o : Nat → Nat) (g : SG) : Prop where
  st : StoreAt w o g
  keep : Keep T0 w0 (fun _ => 0) w o
  hs : g.s = s
  V : g.V = V
  room : g.room = 50
  ns : g.ns.length = 2
theorem Src.old {L : List Nd} {lo r : Nat} (hw : WF V L) (h : Src lo L r) (h2 : 2 ≤ lo) (hr : r < lo) : L.length ≤ lo := by
  apply Classical.byContradiction
  intro hc
  rcases h (L.length - 1) (by omega) (by omega) with e | ⟨y, n, hy, hn, hx⟩
  · omega
  · obtain ⟨a1, a2, a3, -⟩ := hw.nd y n (by omega) hn
    have := (List.getElem?_eq_some_iff.1 hn).1
    rcases hx with hx | hx <;> omega
theorem Rf.op (h : Rf w0 w s V o g) (hc : c = 0) {k : Nat} (hk : k ≤ 1) (hF : ∀ m, F m = (k == 1)) (hp : OpPost w o g F c lo e w') : ∃ (o' : Nat → Nat) (g' : SG), e = .returned (.tuple #[.int .i64 (k : Int), .int .i64 0]) ∧ Rf w0 w' s V o' g' ∧ Keep T0 w o w' o' := by
  obtain ⟨o', g', hz⟩ := hp
  have hR := h.room
  have hn := h.ns
  rcases hz.res with ⟨-, -, h1 | ⟨-, h1⟩⟩ | ⟨r, h1, h2, h3, h4⟩
  · omega
  · omega
  · have hw := hz.st.wf
    have h5 := hw.two
    obtain rfl : r = k := hw.one h2 (by omega) fun m => by rw [h4, hF, ev_end m hk]
    have h6 := hz.src r h1
    rw [hn] at h6
    have h7 := h6.old hw (Nat.le_refl _) (by omega)
    exact ⟨o', g', h1, ⟨hz.st, h.keep.trans hz.keep, hz.ups.s.trans h.hs, hz.ups.V.trans h.V, hz.ups.room.trans hR, by omega⟩, hz.keep⟩
theorem Rf.same (h : Rf w0 w s V o g) (hs : StoreAt w' o' g) (hk : Keep T0 w o w' o') : Rf w0 w' s V o' g := ⟨hs, h.keep.trans hk, h.hs, h.V, h.room, h.ns⟩
theorem Rf.grown (h : Rf w0 w s V o g) (hg : w.grownBy w' none) : Rf w0 w' s V o g := h.same (h.st.grown hg) (keep_none _ _ hg)
/-- What a call leaves that is told as the law wants. -/
def Told (w0 w : World) (s V : Nat) (x : Int) (o : Nat → Nat) (e : Ending) (w' : World) : Prop := ∃ (v : Value) (o' : Nat → Nat) (g' : SG), e = .returned (.tuple #[v, .int .i64 x]) ∧ Rf w0 w' s V o' g' ∧ Keep T0 w o w' o'
theorem end_of {f : Int} (h : okB 2 f = true) : ∃ k : Nat, f = (k : Int) ∧ k ≤ 1 := by
  obtain ⟨k, h1, h2⟩ := okB_nat h
  exact ⟨k, h1, by omega⟩
theorem Rf.bad (h : Rf w0 w s V o g) {x : Int} {v : Value} (he : e = .returned (.tuple #[v, .int .i64 x])) (hg : w.grownBy w' none) : Told w0 w s V x o e w' := ⟨v, o, g, he, h.grown hg, keep_none _ _ hg⟩
theorem Rf.askE (h : Rf w0 w s V o g) {k : Nat} (hk : k ≤ 1) : ask g.ns k = V := (h.st.wf.ask_end hk).trans h.V
theorem Rf.not (h : Rf w0 w s V o g) {f : Int} (hp : ItePost w o g f 0 1 e w') : Told w0 w s V (wantX (okB 2 f) true) o e w' := by
  unfold ItePost at hp
  have e0 : allB g.ns.length [f, 0, 1] = okB 2 f := by rw [h.ns]; simp [allB, okB]
  rw [e0] at hp
  cases hi : okB 2 f with
  | false =>
    rw [hi, if_neg (by simp)] at hp
    exact h.bad hp.1 hp.2
  | true =>
    rw [hi, if_pos rfl] at hp
    obtain ⟨k, rfl, hk⟩ := end_of hi
    have ek : Int.toNat (k : Int) = k := Int.toNat_natCast k
    obtain ⟨o', g', h1, h2, h3⟩ := h.op (k := 1 - k) (by
      unfold m3
      rw [ek, h.askE hk, show Int.toNat 0 = 0 from rfl, show Int.toNat 1 = 1 from rfl, h.askE (Nat.zero_le _), h.askE (Nat.le_refl _), h.V]
      simp) (by omega) (fun m => by
      rw [ek, ev_end m hk, show Int.toNat 0 = 0 from rfl, show Int.toNat 1 = 1 from rfl, ev0, ev1]
      rcases (by omega : k = 0 ∨ k = 1) with rfl | rfl <;> rfl) hp
    exact ⟨_, o', g', h1, h2, h3⟩
theorem Rf.some (h : Rf w0 w s V o g) {f v : Int} (hp : ExistsPost w o g f [v] e w') : Told w0 w s V (wantX (okB 2 f) (okB V v)) o e w' := by
  unfold ExistsPost at hp
  have e0 : allB g.V [v] = okB V v := by rw [h.V]; simp [allB]
  rw [h.ns, e0] at hp
  cases hi : okB 2 f with
  | false =>
    rw [hi, if_neg (by simp)] at hp
    exact h.bad hp.1 hp.2
  | true =>
    rw [hi, if_pos rfl] at hp
    cases hv : okB V v with
    | false =>
      rw [hv, if_neg (by simp)] at hp
      exact h.bad hp.1 hp.2
    | true =>
      rw [hv, if_pos rfl] at hp
      obtain ⟨k, rfl, hk⟩ := end_of hi
      have ek : Int.toNat (k : Int) = k := Int.toNat_natCast k
      obtain ⟨o', g', h1, h2, h3⟩ := h.op (k := k) (by
        rw [ek, h.askE hk, h.V]
        simp) hk (fun m => by
        rw [ek]
        have : exF (freeL [v]) (ev g.ns k) m = true ↔ (k == 1) = true := by
          rw [exF_iff]
          constructor
          · rintro ⟨m', -, h2⟩
            rw [ev_end m' hk] at h2
            exact h2
          · intro h2
            exact ⟨m, fun _ _ => rfl, by rw [ev_end m hk]; exact h2⟩
        cases hx : (k == 1)
        · cases hy : exF (freeL [v]) (ev g.ns k) m
          · rfl
          · have := this.1 hy; rw [hx] at this; cases this
        · exact this.2 hx) hp
      exact ⟨_, o', g', h1, h2, h3⟩
theorem Rf.count (h : Rf w0 w s V o g) {f : Int} (hp : CountPost g.ns w o g f e w') : Told w0 w s V (wantX (okB 2 f) true) o e w' := by
  obtain ⟨⟨o', h1, h2⟩, h3⟩ := hp
  rw [h.ns] at h3
  cases hi : okB 2 f with
  | false => rw [hi, if_neg (by simp)] at h3; exact ⟨_, o', g, h3, h.same h1 h2, h2⟩
  | true => rw [hi, if_pos rfl] at h3; exact ⟨_, o', g, h3, h.same h1 h2, h2⟩
theorem Rf.size (h : Rf w0 w s V o g) {f : Int} (hp : SizePost g.ns w o g f e w') : Told w0 w s V (wantX (okB 2 f) true) o e w' := by
  obtain ⟨⟨o', h1, h2⟩, h3⟩ := hp
  rw [h.ns] at h3
  cases hi : okB 2 f with
  | false => rw [hi, if_neg (by simp)] at h3; exact ⟨_, o', g, h3, h.same h1 h2, h2⟩
  | true => rw [hi, if_pos rfl] at h3; exact ⟨_, o', g, h3, h.same h1 h2, h2⟩
theorem Rf.eval (h : Rf w0 w s V o g) {f : Int} (hp : EvalPost w g f [] e w') : Told w0 w s V (wantX (okB 2 f) (decide ((V : Int) = 0))) o e w' := by
  obtain ⟨hg, h3⟩ := hp
  rw [h.ns] at h3
  cases hi : okB 2 f with
  | false => rw [hi, if_neg (by simp)] at h3; exact h.bad h3 hg
  | true =>
    rw [hi, if_pos rfl] at h3
    by_cases hV : V = 0
    · rw [if_pos (by rw [h.V, hV]; rfl)] at h3
      subst hV
      exact h.bad h3 hg
    · rw [if_neg (by rw [h.V]; intro e; exact hV e.symm)] at h3
      have : decide ((V : Int) = 0) = false := by simp; omega
      rw [this]
      exact h.bad h3 hg
theorem Rf.pick (h : Rf w0 w s V o g) {f : Int} (hp : PickPost w g f e w') : Told w0 w s V (if f = 1 then 0 else 92) o e w' := by
  obtain ⟨hg, hp⟩ := hp
  rw [h.ns] at hp
  rcases hp with ⟨h1, h2⟩ | ⟨⟨h0, h1⟩, bw, way, h2, -⟩
  · rw [if_neg (fun e => h1 (by rw [e]; exact ⟨by decide, by decide⟩))]
    exact h.bad h2 hg
  · obtain ⟨k, rfl, hk⟩ := end_of h0
    rw [if_pos (by omega)]
    exact h.bad h2 hg
theorem Rf.rename (h : Rf w0 w s V o g) {f : Int} (hp : RenamePost w o g f [] e w') : Told w0 w s V (wantX (okB 2 f) (decide ((V : Int) = 0))) o e w' := by
  obtain ⟨p1, p2, p3⟩ := hp
  rw [h.ns] at p1 p2 p3
  cases hi : okB 2 f with
  | false => have := p1 hi; exact h.bad this.1 this.2
  | true =>
    by_cases hV : V = 0
    · obtain ⟨k, rfl, hk⟩ := end_of hi
      have ek : Int.toNat (k : Int) = k := Int.toNat_natCast k
      have hok : RenOk g (k : Int).toNat [] := ⟨by rw [h.V, hV]; rfl, rfl, ?_⟩
      · have h3 := p3 hi hok
        obtain ⟨o', g', h1, h2, h3⟩ := h.op (k := k) (by
          rw [ek, h.askE hk, h.V]
          simp) hk (fun m => by rw [ek, ev_end _ hk]) h3
        subst hV
        exact ⟨_, o', g', h1, h2, h3⟩
      · rw [ek, vis_met (.inl hk)]
        intro u v hu
        obtain ⟨i, h1, -⟩ := hu
        simp at h1
    · obtain ⟨h3, o', h4, h5⟩ := p2 hi (fun hc => by have := hc.1; rw [h.V] at this; exact hV this.symm)
      have : decide ((V : Int) = 0) = false := by simp; omega
      rw [this]
      exact ⟨_, o', g, h3, h.same h4 h5, h5⟩
theorem Rf.var (h : Rf w0 w s V o g) {v : Int} (hp : VarPost w o g v e w') : ∃ (v' : Value), e = .returned (.tuple #[v', .int .i64 (if okB V v = true then 0 else 91)]) ∧ ∃ o', Keep T0 w0 (fun _ => 0) w' o' ∧ Keep T0 w o w' o' := by
  unfold VarPost at hp
  rw [h.V] at hp
  have hR := h.room
  have hn := h.ns
  cases hv : okB V v with
  | false =>
    rw [hv, if_neg (by simp)] at hp
    exact ⟨_, hp.1, o, h.keep.trans (keep_none _ _ hp.2), keep_none _ _ hp.2⟩
  | true =>
    rw [hv, if_pos rfl] at hp
    obtain ⟨o', g', hz⟩ := hp
    rcases hz.res with ⟨-, -, h1 | ⟨-, h1⟩⟩ | ⟨r, h1, -⟩
    · omega
    · omega
    · exact ⟨_, h1, o', h.keep.trans hz.keep, hz.keep⟩
end

end Go.Proofs.Ytailpphafoamfaa
