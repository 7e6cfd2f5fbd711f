/- What each parameter's value is, opened: a number, a slice of acts. -/
import Derived.Test.YtailpphafoamfaaMK
import Derived.Test.YtailpphafoamfaaPzas
import Derived.Deep.Slices
import Derived.Lib.SmallJoins
set_option linter.all false
namespace Go.Proofs.Ytailpphafoamfaa
open Go.ChangeShapes Go.WideShapes Go.ChangeAt Go.RowKit Go.Deep

theorem cell_lt {w : World} {p : Addr} {v : Value} (h : w.cell? p = some v) : p.block < w.heap.size := lt_cell h
theorem add_none (b o i : Nat) : ((⟨b, o, none⟩ : Addr).add i) = ⟨b, o + i, none⟩ := by
  unfold Addr.add
  by_cases h1 : i = 0 <;> simp [h1]
theorem spot_of {w : World} {b o : Nat} {sp : Option Nat} {k : IntKind} {n : Int} (h : w.cell? ((⟨b, o, sp⟩ : Addr).add 0) = some (.int k n)) : sp = none := by
  cases sp with
  | none => rfl
  | some k =>
    simp [Addr.add, World.cell?] at h
    split at h <;> simp at h
theorem c3 : Try.prog.cellsOf 3 = 1 := by kernel_rfl
theorem c28 : Try.prog.cellsOf 28 = 1 := by kernel_rfl
theorem c51 : Try.prog.cellsOf 51 = 5 := by kernel_rfl
section
variable {H : Type} {enc : TypeId × Value → H} {W : World} {b : Nat} {v : Value} {d : DataW H} {p : List MemPlace}
theorem nums_trod {fuel : Nat} {v : Value} {x : DataW H × List MemPlace} (h : DataW.trod enc Try.prog W 0 (fun _ => true) true fuel 28 [v] = some x) : ∃ xs : List Int, Nums W v xs ∧ xs.length ≤ 9223372036854775807 := by
  rcases open_ints Try.underlying28 Try.underlying3 c3 h with ⟨hcs, -⟩ | ⟨a, len, cap, zs, hcs, _, hl, hm, hzl, -, hcell, _⟩
  · simp at hcs
    subst hcs
    exact ⟨[], ⟨none, 0, rfl, fun h => absurd rfl h⟩, by simp⟩
  · simp at hcs
    subst hcs
    simp only [if_true] at hzl
    have hlen : (zs.take len).length = len := by simp; omega
    refine ⟨zs.take len, ⟨some a, cap, by rw [hlen], fun hne => ?_⟩, by rw [hlen]; unfold maxLen at hm; omega⟩
    obtain ⟨bb, o, sp⟩ := a
    have h0 : 0 < len := by
      apply Nat.pos_of_ne_zero
      intro e
      subst e
      exact hne (by simp)
    have hc0 := hcell 0 (by omega)
    obtain rfl := spot_of hc0
    rw [add_none] at hc0
    refine ⟨bb, o, rfl, cell_lt hc0, fun j x hx => ?_⟩
    have hj : j < len := by have := (List.getElem?_eq_some_iff.1 hx).1; rw [hlen] at this; exact this
    have := hcell j (by omega)
    rw [add_none] at this
    rw [this]
    rw [List.getElem?_take_of_lt hj] at hx
    simp [List.getD_eq_getElem?_getD, hx]
set_option maxRecDepth 100000 in
/-- An act's five cells. -/
theorem act_trod {fuel : Nat} {cs : List Value} {x : DataW H × List MemPlace} (h : DataW.trod enc Try.prog W 0 (fun _ => true) true fuel 51 cs = some x) :
    ∃ (a : ActI) (vv : Value), cs = [.int .i64 a.K, .int .i64 a.A, .int .i64 a.B, .int .i64 a.C, vv] ∧ Nums W vv a.vs ∧ a.vs.length ≤ 9223372036854775807 := by
  obtain ⟨xs, n, _, rfl, hl, hlen, hf⟩ := DataW.trod_struct Try.underlying51 h
  rw [c51] at hl
  match cs, hl with
  | [v0, v1, v2, v3, v4], _ =>
    have hx : ∀ j, j < 5 → ∃ y, xs[j]? = some y := fun j hj => ⟨xs[j]'(by have : xs.length = 5 := hlen; omega), List.getElem?_eq_getElem _⟩
    obtain ⟨y0, e0⟩ := hx 0 (by omega)
    obtain ⟨y1, e1⟩ := hx 1 (by omega)
    obtain ⟨y2, e2⟩ := hx 2 (by omega)
    obtain ⟨y3, e3⟩ := hx 3 (by omega)
    obtain ⟨y4, e4⟩ := hx 4 (by omega)
    have h0 : DataW.trod enc Try.prog W 0 (fun _ => true) true n 3 (List.take (Try.prog.cellsOf 3) (List.drop 0 [v0, v1, v2, v3, v4])) = some y0 := (hf 0 _ rfl).trans e0
    have h1 : DataW.trod enc Try.prog W 0 (fun _ => true) true n 3 (List.take (Try.prog.cellsOf 3) (List.drop 1 [v0, v1, v2, v3, v4])) = some y1 := (hf 1 _ rfl).trans e1
    have h2 : DataW.trod enc Try.prog W 0 (fun _ => true) true n 3 (List.take (Try.prog.cellsOf 3) (List.drop 2 [v0, v1, v2, v3, v4])) = some y2 := (hf 2 _ rfl).trans e2
    have h3 : DataW.trod enc Try.prog W 0 (fun _ => true) true n 3 (List.take (Try.prog.cellsOf 3) (List.drop 3 [v0, v1, v2, v3, v4])) = some y3 := (hf 3 _ rfl).trans e3
    have h4 : DataW.trod enc Try.prog W 0 (fun _ => true) true n 28 (List.take (Try.prog.cellsOf 28) (List.drop 4 [v0, v1, v2, v3, v4])) = some y4 := (hf 4 _ rfl).trans e4
    rw [c3] at h0 h1 h2 h3
    rw [c28] at h4
    obtain ⟨K, q0, -, -⟩ := DataW.trod_int Try.underlying3 h0
    obtain ⟨A, q1, -, -⟩ := DataW.trod_int Try.underlying3 h1
    obtain ⟨B, q2, -, -⟩ := DataW.trod_int Try.underlying3 h2
    obtain ⟨C, q3, -, -⟩ := DataW.trod_int Try.underlying3 h3
    obtain ⟨vs, q4, q5⟩ := nums_trod h4
    have r0 : v0 = .int .i64 K := by simpa using q0
    have r1 : v1 = .int .i64 A := by simpa using q1
    have r2 : v2 = .int .i64 B := by simpa using q2
    have r3 : v3 = .int .i64 C := by simpa using q3
    exact ⟨⟨K, A, B, C, vs⟩, v4, by rw [r0, r1, r2, r3], q4, q5⟩
instance : Inhabited ActI := ⟨⟨0, 0, 0, 0, []⟩⟩
set_option maxRecDepth 100000 in
theorem as_acts (hv : Value.okWide Try.prog W .any b 22 v) (h : DataW.Trod enc Try.prog W 0 (fun _ => true) true 22 v d p) :
    ∃ ac : List ActI, Acts W v ac ∧ ac.length ≤ 9223372036854775807 ∧ ∀ a ∈ ac, a.vs.length ≤ 9223372036854775807 := by
  obtain ⟨a0, len0, cap0, rfl⟩ := okWide_slice Try.underlying22 hv
  obtain ⟨fuel, hf⟩ := h
  rcases open_slice Try.underlying22 hf with ⟨hcs, -⟩ | ⟨a, len, cap, m, n, D, Pl, hcs, _, hl, hm, hmm, -, hx⟩
  · simp [Value.cells] at hcs
    obtain ⟨rfl, rfl, rfl⟩ := hcs
    exact ⟨[], ⟨none, 0, rfl, fun h => absurd rfl h⟩, by simp, by simp⟩
  · simp [Value.cells] at hcs
    obtain ⟨rfl, rfl, rfl⟩ := hcs
    simp only [if_true] at hmm
    subst hmm
    rw [c51] at hx
    obtain ⟨f, hF⟩ := choose_lt (α := ActI) (p := fun i x => ∃ vv, W.cells? 0 (a.add (i * 5)) 5 = some [.int .i64 x.K, .int .i64 x.A, .int .i64 x.B, .int .i64 x.C, vv] ∧ Nums W vv x.vs ∧ x.vs.length ≤ 9223372036854775807) (n := m) (fun i hi => by
      obtain ⟨cs', h1, h2⟩ := hx i hi
      obtain ⟨x, vv, rfl, h3, h4⟩ := act_trod h2
      exact ⟨x, vv, h1, h3, h4⟩)
    have hlen : ((List.range len0).map f).length = len0 := by simp
    refine ⟨(List.range len0).map f, ⟨some a, m, by rw [hlen], fun hne => ?_⟩, by rw [hlen]; unfold maxLen at hm; omega, fun x hx => ?_⟩
    · have h0 : 0 < len0 := by
        apply Nat.pos_of_ne_zero
        intro e
        subst e
        exact hne (by simp)
      obtain ⟨bb, o, sp⟩ := a
      have cell : ∀ i, i < m → ∀ q vq, q < 5 → ∀ cs, W.cells? 0 ((⟨bb, o, sp⟩ : Addr).add (i * 5)) 5 = some cs → cs[q]? = some vq → W.cell? ((⟨bb, o, sp⟩ : Addr).add (i * 5 + q)) = some vq := fun i hi q vq hq cs hcs hcq => by
        have := (World.cells?_some hcs).2.2 q (by omega)
        rw [add_add] at this
        rw [this]
        exact hcq
      obtain ⟨vv0, g0, -, -⟩ := hF 0 (by omega)
      have hc0 := cell 0 (by omega) 0 _ (by omega) _ g0 rfl
      obtain rfl := spot_of hc0
      rw [add_none] at hc0
      refine ⟨bb, o, rfl, cell_lt hc0, fun j x hx => ?_⟩
      have hj : j < len0 := by have := (List.getElem?_eq_some_iff.1 hx).1; rw [hlen] at this; exact this
      rw [List.getElem?_map, List.getElem?_range hj] at hx
      simp at hx
      subst hx
      obtain ⟨vv, g1, g2, g3⟩ := hF j (by omega)
      have c0 := cell j (by omega) 0 _ (by omega) _ g1 rfl
      have c1 := cell j (by omega) 1 _ (by omega) _ g1 rfl
      have c2 := cell j (by omega) 2 _ (by omega) _ g1 rfl
      have c3' := cell j (by omega) 3 _ (by omega) _ g1 rfl
      have c4 := cell j (by omega) 4 _ (by omega) _ g1 rfl
      rw [add_none] at c0 c1 c2 c3' c4
      exact ⟨by simpa using c0, by simpa [Nat.add_assoc] using c1, by simpa [Nat.add_assoc] using c2, by simpa [Nat.add_assoc] using c3', vv, by simpa [Nat.add_assoc] using c4, g2⟩
    · obtain ⟨i, hi, rfl⟩ := List.mem_map.1 hx
      obtain ⟨-, -, -, h9⟩ := hF i (by have := List.mem_range.1 hi; omega)
      exact h9
set_option maxRecDepth 100000 in
theorem as_u8 (hv : Value.okWide Try.prog W .any b 5 v) (h : DataW.Trod enc Try.prog W 0 (fun _ => true) true 5 v d p) : ∃ a : Int, v = .int .u8 a ∧ 0 ≤ a ∧ a ≤ 255 := by
  obtain ⟨a, rfl, _, _, hw⟩ := open_int Try.underlying5 hv h
  refine ⟨a, rfl, ?_⟩
  simp [Lit.wf, IntKind.min, IntKind.max, IntKind.signed, IntKind.bits] at hw
  omega
end
end Go.Proofs.Ytailpphafoamfaa
