/- The frame of the ten laws: the listed table gives what the walks ask; a law that returns true and leaves old memory alone meets its row. -/
import Derived.Test.YtpfdbigdkegncaaDoorJ
import Derived.Test.YtpfdbigdkegncaaDoorRows
import Derived.ProofKit
import Derived.LaidMore
import Derived.OpenShut
import Derived.Stop.Joined
import Derived.Deep.Slices
import Derived.Lib.SmallJoins
namespace Go.Proofs.YtpfdbigdkegncaaDoor
open Go.ChangeShapes Go.WideShapes Go.ChangeAt Go.RowKit Go.Deep

theorem Tryd.own : ownKnob Tryd.prog.godebug = none := by kernel_rfl
theorem Tryd.laidOut : laidOutB Tryd.prog = true := by kernel_rfl
theorem gTypes : Tryd.prog.globalNamed "skua/word.types" = some 0 := by kernel_rfl
theorem tTypes : (Tryd.prog.globals[0]?).map (·.type) = some 51 := by kernel_rfl

theorem c53 : Tryd.prog.cellsOf 53 = 3 := by kernel_rfl
theorem c23 : Tryd.prog.cellsOf 23 = 2 := by kernel_rfl
theorem c9 : Tryd.prog.cellsOf 9 = 1 := by kernel_rfl
theorem c3 : Tryd.prog.cellsOf 3 = 1 := by kernel_rfl
theorem c4 : Tryd.prog.cellsOf 4 = 1 := by kernel_rfl

def rowD (i : Nat) : DataW Unit := .agg [.lit (.string (tN i).data.toList), .agg [.lit (.int .i64 (tW i)), .lit (.bool (tS i))]]
theorem laid_rows : (Rows.laid_skua_word_types : DataW Unit) = .slice ((List.range 9).map rowD) [] := by rfl

/-- The three cells of one row of the table. -/
theorem row_cells {enc : TypeId × Value → Unit} {W : World} {base : Nat} {sp : Nat → Bool} {held : Bool} {n i : Nat} {cs : List Value} {pl : List MemPlace}
    (h : DataW.trod enc Tryd.prog W base sp held n 53 cs = some (rowD i, pl)) : cs = [.string (tN i), .int .i64 (tW i), .bool (tS i)] := by
  obtain ⟨xs, m, _, hx, hlen, hxl, hf⟩ := DataW.trod_struct Tryd.underlying53 h
  rw [c53] at hlen
  simp only [Prod.mk.injEq] at hx
  have f0 : DataW.trod enc Tryd.prog W base sp held m 9 ((cs.drop 0).take (Tryd.prog.cellsOf 9)) = xs[0]? := hf 0 _ rfl
  have f1 : DataW.trod enc Tryd.prog W base sp held m 23 ((cs.drop 1).take (Tryd.prog.cellsOf 23)) = xs[1]? := hf 1 _ rfl
  rw [c9] at f0
  rw [c23] at f1
  match cs, hlen with
  | [x, y, z], _ =>
    match xs, hxl with
    | [u0, u1], _ =>
      simp only [List.drop_zero, List.drop_succ_cons, List.take_succ_cons, List.take_zero, List.getElem?_cons_zero, List.getElem?_cons_succ, List.take_nil] at f0 f1
      obtain ⟨s, e1, e2, _⟩ := DataW.trod_string Tryd.underlying9 f0
      obtain ⟨ys, m', _, hy, hl2, hyl, hg⟩ := DataW.trod_struct Tryd.underlying23 f1
      have g0 : DataW.trod enc Tryd.prog W base sp held m' 3 (([y, z].drop 0).take (Tryd.prog.cellsOf 3)) = ys[0]? := hg 0 _ rfl
      have g1 : DataW.trod enc Tryd.prog W base sp held m' 4 (([y, z].drop 1).take (Tryd.prog.cellsOf 4)) = ys[1]? := hg 1 _ rfl
      rw [c3] at g0
      rw [c4] at g1
      match ys, hyl with
      | [w0, w1], _ =>
        simp only [List.drop_zero, List.drop_succ_cons, List.take_succ_cons, List.take_zero, List.getElem?_cons_zero, List.getElem?_cons_succ, List.take_nil] at g0 g1
        obtain ⟨k, e3, e4, _⟩ := DataW.trod_int Tryd.underlying3 g0
        obtain ⟨b, e5, e6⟩ := DataW.trod_bool Tryd.underlying4 g1
        have hd := hx.1
        subst e2 e4 e6 hy
        simp [rowD] at hd
        obtain ⟨hs, hk, hb⟩ := hd
        simp at e1 e3 e5
        subst e1 e3 e5 hk hb
        have : tN i = s := by
          cases hT : tN i with
          | mk d1 =>
            cases s with
            | mk d2 =>
              rw [hT] at hs
              simp at hs
              rw [hs]
        rw [this]

theorem tab_of_laid {W : World} (h : laidMetH Tryd.prog [("skua/word.types", Rows.laid_skua_word_types)] W) : Tab W := by
  rw [MakeChecks.laidMetH_plain _ _ _ (by kernel_rfl)] at h
  obtain ⟨ps, ⟨g, t, cs, fu, p, q, hg, ht, hv, hd, _, _⟩, _, _⟩ := h
  obtain rfl := Option.some.inj (gTypes.symm.trans hg)
  obtain rfl := Option.some.inj (tTypes.symm.trans ht)
  rw [laid_rows] at hd
  rcases open_slice Tryd.underlying51 hd with ⟨_, hx⟩ | ⟨a, len, cap, m, n, D, Pl, hcs, _, hl, hm, hmm, hx, hi⟩
  · simp at hx
  · simp only [Prod.mk.injEq, DataW.slice.injEq] at hx
    have hlen : len = 9 := by
      have := congrArg List.length hx.1.1
      simpa using this.symm
    subst hlen
    have hD : ∀ i, i < 9 → D i = rowD i := by
      intro i hi9
      have := congrArg (fun l => l[i]?) hx.1.1
      simp [hi9] at this
      exact this.symm
    have hm9 : 9 ≤ m := by rw [hmm]; simpa using hl
    have hrow : ∀ i, i < 9 → ∀ j, j < 3 → W.cell? ((a.add (i * 3)).add j) = [Value.string (tN i), .int .i64 (tW i), .bool (tS i)][j]? := by
      intro i hi9 j hj
      obtain ⟨cs', hc, ht'⟩ := hi i (by omega)
      rw [c53] at hc
      rw [hD i hi9] at ht'
      obtain ⟨_, _, hat⟩ := World.cells?_some hc
      rw [hat j hj, row_cells ht']
    obtain ⟨b, off, spot⟩ := a
    have h00 := hrow 0 (by omega) 0 (by omega)
    have hspot : spot = none := by
      cases spot with
      | none => rfl
      | some k =>
        simp [Addr.add, World.cell?] at h00
        split at h00 <;> simp at h00
    subst hspot
    have hadd : ∀ i j, ((⟨b, off, none⟩ : Addr).add (i * 3)).add j = ⟨b, off + i * 3 + j, none⟩ := by
      intro i j
      unfold Addr.add
      by_cases h1 : i * 3 = 0 <;> by_cases h2 : j = 0 <;> simp [h1, h2]
    refine ⟨b, off, cap, ?_, fun i hi9 => ?_, fun i hi9 => ?_, fun i hi9 => ?_⟩
    · have := World.var?_cell hg hv 0
      rw [Array.eq_one_of_toList hcs] at this
      simpa using this
    · have := hrow i hi9 0 (by omega)
      rw [hadd] at this
      simpa using this
    · have := hrow i hi9 1 (by omega)
      rw [hadd] at this
      simpa using this
    · have := hrow i hi9 2 (by omega)
      rw [hadd] at this
      simpa using this

/-- The door's own heap meets the condition. -/
theorem door_met (os : Os) (args : Array Value) : laidMetH Tryd.prog [("skua/word.types", Rows.laid_skua_word_types)] ((World.doorLaid Tryd.prog 400 os).forCall (fun _ _ => 0) ⟨#[], args, []⟩).memory :=
  laidMetH_of_parts3 (fuel := 8) (laidMet_of_run' 8 (by kernel_rfl) (by kernel_rfl)) (by kernel_rfl) (by kernel_rfl)

/-- Arguments read as they did where old memory is as it was. -/
theorem trodAll_carry {H : Type} {enc : TypeId × Value → H} {W W' : World} (hb : Below W.heap.size W W') :
    ∀ (ts : List TypeId) (vs : List Value) (ds : List (DataW H)) (ps : List MemPlace), (∀ t ∈ ts, Tryd.prog.readableRec t = true ∧ t < Tryd.prog.types.size) → (∀ x ∈ ps, x.block < W.heap.size) →
      DataW.TrodAll enc Tryd.prog W 0 (fun _ => true) true ts vs ds ps → DataW.TrodAll enc Tryd.prog W' 0 (fun b => decide (b < W.heap.size)) true ts vs ds ps
  | [], [], [], _, _, _, h => h
  | t :: ts, v :: vs, d :: ds, ps, ht, hp, h => by
    obtain ⟨p, q, h1, h2, rfl⟩ := h
    exact ⟨p, q, Below.trod Tryd.laidOut (ht t (by simp)).1 (ht t (by simp)).2 h1 hb (fun x hx => hp x (by simp [hx])), trodAll_carry hb ts vs ds q (fun u hu => ht u (by simp [hu])) (fun x hx => hp x (by simp [hx])) h2, rfl⟩

/-- A law that has returned true, old memory being as it was, meets its row. -/
theorem law_post {H : Type} {enc : TypeId × Value → H} {f : Func} {s : ChangeSpec} {W W' : World} {args : Array Value} {ds : List (DataW H)} {before : List MemPlace}
    (hts : ∀ t ∈ f.params.toList, Tryd.prog.readableRec t = true ∧ t < Tryd.prog.types.size) (hres : f.resultTypes = #[4]) (hvars : s.vars = [])
    (hfn : s.fn H (ds ++ []) = { results := [.lit (.bool true)], args := ds }) (hW : DataW.Whole enc Tryd.prog f.params.toList s.vars false W args.toList ds [] before) (hb : Below W.heap.size W W') :
    s.post enc Tryd.prog f false true false false W args (.bool true) W' := by
  have hlt : ∀ p ∈ before, p.block < W.heap.size := fun p hp => hW.lt p hp
  have hW0 := hW
  obtain ⟨p, q, hA, hV, rfl, _, _⟩ := hW
  rw [hvars] at hV
  obtain rfl : q = [] := hV
  refine ⟨ds, [], p ++ [], [], p, [], hW0, ?_, ?_, ?_, hb.frame _, fun h => by cases h⟩
  · rw [hfn, hres]
    exact trodAll_mk1 (shut_bool Tryd.underlying4 true)
  · rw [hfn]
    exact trodAll_carry hb _ _ _ _ hts (fun x hx => hlt x (by simp [hx])) hA
  · rw [hfn, hvars]
    rfl
end Go.Proofs.YtpfdbigdkegncaaDoor
