/- The frame of the laws: the listed tables give what the walks ask; a law that returns true and leaves old memory alone meets its row. -/
import Derived.Test.YtilfganjpgkjdaaDoorLd
import Derived.Test.YtilfganjpgkjdaaDoorRows
import Derived.ProofKit
import Derived.LaidMore
import Derived.OpenShut
import Derived.Stop.Joined
import Derived.Deep.Slices
import Derived.Lib.SmallJoins
namespace Go.Proofs.YtilfganjpgkjdaaDoor
open Go.ChangeShapes Go.WideShapes Go.ChangeAt Go.RowKit Go.Deep

theorem Tryd.own : ownKnob Tryd.prog.godebug = none := by kernel_rfl
theorem Tryd.laidOut : laidOutB Tryd.prog = true := by kernel_rfl
theorem gKeys : Tryd.prog.globalNamed "skua/lex.keywords" = some 0 := by kernel_rfl
theorem tKeys : (Tryd.prog.globals[0]?).map (·.type) = some 34 := by kernel_rfl
theorem gSigns : Tryd.prog.globalNamed "skua/lex.signs" = some 1 := by kernel_rfl
theorem tSigns : (Tryd.prog.globals[1]?).map (·.type) = some 34 := by kernel_rfl
theorem c9 : Tryd.prog.cellsOf 9 = 1 := by kernel_rfl
def strD (l : List UInt8) : DataW Unit := .lit (.string l)
theorem laid_keys : (Rows.laid_skua_lex_keywords : DataW Unit) = .slice (keysL.map strD) [] := by rfl
theorem laid_signs : (Rows.laid_skua_lex_signs : DataW Unit) = .slice (signsL.map strD) [] := by rfl

/-- One cell of a table. -/
theorem str_cell {enc : TypeId × Value → Unit} {W : World} {base : Nat} {sp : Nat → Bool} {held : Bool} {n : Nat} {l : List UInt8} {cs : List Value} {pl : List MemPlace}
    (h : DataW.trod enc Tryd.prog W base sp held n 9 cs = some (strD l, pl)) : cs = [.string ⟨l.toArray⟩] := by
  obtain ⟨s, e1, e2, _⟩ := DataW.trod_string Tryd.underlying9 h
  simp [strD] at e2
  rw [e1, e2.1]
/-- A table of texts, read as it is listed, lies where the walks ask. -/
theorem strtab_of {W : World} {g n : Nat} {nm : String} {L : List (List UInt8)} {cs : Array Value} {fu : Nat} {p : List MemPlace} (hn : L.length = n) (hpos : 0 < n) (hg : Tryd.prog.globalNamed nm = some g) (hv : W.var? Tryd.prog nm = some cs)
    (hd : DataW.trod (fun _ => ()) Tryd.prog W 0 (fun _ => true) false fu 34 cs.toList = some (.slice (L.map strD) [], p)) : ∃ b off cap, StrTab g n L b off cap W := by
  rcases open_slice1 Tryd.underlying34 c9 hd with ⟨_, hx⟩ | ⟨a, len, cap, m, k, V, D, Pl, hcs, _, hl, hm, hmm, hx, hi⟩
  · simp at hx
  · simp only [Prod.mk.injEq, DataW.slice.injEq] at hx
    have hlen : len = n := by
      have := congrArg List.length hx.1.1
      rw [List.length_map, List.length_map, List.length_range] at this
      omega
    subst hlen
    have hD : ∀ i, i < len → D i = strD (L.getD i []) := by
      intro i hi9
      have := congrArg (fun l => l[i]?) hx.1.1
      have hL : i < L.length := by omega
      simp [hi9, hL] at this
      rw [List.getD_eq_getElem?_getD, List.getElem?_eq_getElem hL]
      exact this.symm
    have hm9 : len ≤ m := by rw [hmm]; simpa using hl
    have hrow : ∀ i, i < len → W.cell? (a.add i) = some (.string ⟨(L.getD i []).toArray⟩) := by
      intro i hi9
      obtain ⟨hc, ht'⟩ := hi i (by omega)
      rw [hD i hi9] at ht'
      have := str_cell ht'
      rw [List.cons.injEq] at this
      rw [hc, this.1]
    obtain ⟨b, off, spot⟩ := a
    have h00 := hrow 0 (by omega)
    have hspot : spot = none := by
      cases spot with
      | none => rfl
      | some k =>
        simp [Addr.add, World.cell?] at h00
        split at h00 <;> simp at h00
    subst hspot
    have hadd : ∀ i, ((⟨b, off, none⟩ : Addr).add i) = ⟨b, off + i, none⟩ := by
      intro i
      unfold Addr.add
      by_cases h1 : i = 0 <;> simp [h1]
    refine ⟨b, off, cap, ?_, fun i hi9 => ?_⟩
    · have := World.var?_cell hg hv 0
      rw [Array.eq_one_of_toList hcs] at this
      simpa using this
    · rw [← hadd]
      exact hrow i hi9
theorem tab_of_laid {W : World} (h : laidMetH Tryd.prog [("skua/lex.signs", Rows.laid_skua_lex_signs), ("skua/lex.keywords", Rows.laid_skua_lex_keywords)] W) : Tab W := by
  rw [MakeChecks.laidMetH_plain _ _ _ (by kernel_rfl)] at h
  obtain ⟨ps, ⟨g, t, cs, fu, p, q, hg, ht, hv, hd, ⟨g2, t2, cs2, fu2, p2, q2, hg2, ht2, hv2, hd2, _, _⟩, _⟩, _, _⟩ := h
  obtain rfl := Option.some.inj (gSigns.symm.trans hg)
  obtain rfl := Option.some.inj (tSigns.symm.trans ht)
  obtain rfl := Option.some.inj (gKeys.symm.trans hg2)
  obtain rfl := Option.some.inj (tKeys.symm.trans ht2)
  rw [laid_signs] at hd
  rw [laid_keys] at hd2
  exact ⟨strtab_of rfl (by decide) hg2 hv2 hd2, strtab_of rfl (by decide) hg hv hd⟩
/-- The door's own heap meets the condition. -/
theorem door_met (os : Os) (args : Array Value) : laidMetH Tryd.prog [("skua/lex.signs", Rows.laid_skua_lex_signs), ("skua/lex.keywords", Rows.laid_skua_lex_keywords)] ((World.doorLaid Tryd.prog 400 os).forCall (fun _ _ => 0) ⟨#[], args, []⟩).memory :=
  laidMetH_of_parts3 (fuel := 8) (laidMet_of_run' 8 (by kernel_rfl) (by kernel_rfl)) (by kernel_rfl) (by kernel_rfl)

/-- Arguments read as they did where old memory is as it was. -/
theorem trodAll_carry {H : Type} {enc : TypeId × Value → H} {W W' : World} (hb : Below W.heap.size W W') :
    ∀ (ts : List TypeId) (vs : List Value) (ds : List (DataW H)) (ps : List MemPlace), (∀ t ∈ ts, Tryd.prog.readableRec t = true ∧ t < Tryd.prog.types.size) → (∀ x ∈ ps, x.block < W.heap.size) →
      DataW.TrodAll enc Tryd.prog W 0 (fun _ => true) true ts vs ds ps → DataW.TrodAll enc Tryd.prog W' 0 (fun b => decide (b < W.heap.size)) true ts vs ds ps
  | [], [], [], _, _, _, h => h
  | t :: ts, v :: vs, d :: ds, ps, ht, hp, h => by
    obtain ⟨p, q, h1, h2, rfl⟩ := h
    exact ⟨p, q, Below.trod Tryd.laidOut (ht t (by simp)).1 (ht t (by simp)).2 h1 hb (fun x hx => hp x (by simp [hx])), trodAll_carry hb ts vs ds q (fun u hu => ht u (by simp [hu])) (fun x hx => hp x (by simp [hx])) h2, rfl⟩

/-- A law that has returned true, old memory being as it was, meets its row. -/
theorem law_post {H : Type} {enc : TypeId × Value → H} {f : Func} {s : ChangeSpec} {W W' : World} {args : Array Value} {ds : List (DataW H)} {before : List MemPlace}
    (hts : ∀ t ∈ f.params.toList, Tryd.prog.readableRec t = true ∧ t < Tryd.prog.types.size) (hres : f.resultTypes = #[4]) (hvars : s.vars = [])
    (hfn : s.fn H (ds ++ []) = { results := [.lit (.bool true)], args := ds }) (hW : DataW.Whole enc Tryd.prog f.params.toList s.vars false W args.toList ds [] before) (hb : Below W.heap.size W W') :
    s.post enc Tryd.prog f false true false false W args (.bool true) W' := by
  have hlt : ∀ p ∈ before, p.block < W.heap.size := fun p hp => hW.lt p hp
  have hW0 := hW
  obtain ⟨p, q, hA, hV, rfl, _, _⟩ := hW
  rw [hvars] at hV
  obtain rfl : q = [] := hV
  refine ⟨ds, [], p ++ [], [], p, [], hW0, ?_, ?_, ?_, hb.frame _, fun h => by cases h⟩
  · rw [hfn, hres]
    exact trodAll_mk1 (shut_bool Tryd.underlying4 true)
  · rw [hfn]
    exact trodAll_carry hb _ _ _ _ hts (fun x hx => hlt x (by simp [hx])) hA
  · rw [hfn, hvars]
    rfl
end Go.Proofs.YtilfganjpgkjdaaDoor
