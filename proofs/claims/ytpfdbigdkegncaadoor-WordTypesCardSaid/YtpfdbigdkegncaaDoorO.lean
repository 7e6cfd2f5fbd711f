/- What each parameter's value is, opened: types, numbers, texts, arrays of numbers. -/
import Derived.Test.YtpfdbigdkegncaaDoorK
namespace Go.Proofs.YtpfdbigdkegncaaDoor
open Go.ChangeShapes Go.WideShapes Go.ChangeAt Go.RowKit Go.Deep

section
variable {H : Type} {enc : TypeId × Value → H} {W : World} {b : Nat} {v : Value} {d : DataW H} {p : List MemPlace}
theorem as_type (hv : Value.okWide Tryd.prog W .any b 23 v) (h : DataW.Trod enc Tryd.prog W 0 (fun _ => true) true 23 v d p) : ∃ (w : Int) (s : Bool), v = .agg #[.int .i64 w, .bool s] := by
  obtain ⟨v0, v1, y0, y1, n, rfl, _, _, h0, h1⟩ := Joins.open_agg2 Tryd.underlying23 (by kernel_rfl) (by kernel_rfl) hv h
  obtain ⟨k, e1, _, _⟩ := DataW.trod_int Tryd.underlying3 h0
  obtain ⟨s, e2, _⟩ := DataW.trod_bool Tryd.underlying4 h1
  cases e1
  cases e2
  exact ⟨k, s, rfl⟩
theorem u64_wf {a : Int} (wa : (Lit.int .u64 a).wf = true) : 0 ≤ a ∧ a < 18446744073709551616 := by
  have h1 : IntKind.u64.min = 0 := by decide
  have h2 : IntKind.u64.max = 18446744073709551615 := by decide
  simp only [Lit.wf, h1, h2, decide_eq_true_eq, Bool.and_eq_true] at wa
  omega
theorem as_u64 (hv : Value.okWide Tryd.prog W .any b 30 v) (h : DataW.Trod enc Tryd.prog W 0 (fun _ => true) true 30 v d p) : ∃ a : Int, v = .int .u64 a ∧ 0 ≤ a ∧ a < 18446744073709551616 := by
  obtain ⟨a, rfl, _, _, wa⟩ := open_int Tryd.underlying30 hv h
  exact ⟨a, rfl, u64_wf wa⟩
theorem as_u8 (hv : Value.okWide Tryd.prog W .any b 5 v) (h : DataW.Trod enc Tryd.prog W 0 (fun _ => true) true 5 v d p) : ∃ a : Int, v = .int .u8 a ∧ 0 ≤ a ∧ a < 256 := by
  obtain ⟨a, rfl, _, _, wa⟩ := open_int Tryd.underlying5 hv h
  have h1 : IntKind.u8.min = 0 := by decide
  have h2 : IntKind.u8.max = 255 := by decide
  simp only [Lit.wf, h1, h2, decide_eq_true_eq, Bool.and_eq_true] at wa
  exact ⟨a, rfl, by omega⟩
theorem as_int (hv : Value.okWide Tryd.prog W .any b 3 v) (h : DataW.Trod enc Tryd.prog W 0 (fun _ => true) true 3 v d p) : ∃ a : Int, v = .int .i64 a := by
  obtain ⟨a, rfl, _, _, _⟩ := open_int Tryd.underlying3 hv h
  exact ⟨a, rfl⟩
theorem as_str (hv : Value.okWide Tryd.prog W .any b 9 v) (h : DataW.Trod enc Tryd.prog W 0 (fun _ => true) true 9 v d p) : ∃ s : ByteArray, v = .string s ∧ s.size ≤ maxLen := by
  obtain ⟨s, rfl, _, _, hs⟩ := ChangeMaps.open_string Tryd.underlying9 hv h
  exact ⟨s, rfl, hs⟩
theorem c30 : Tryd.prog.cellsOf 30 = 1 := by kernel_rfl
theorem as_arr2 (hv : Value.okWide Tryd.prog W .any b 34 v) (h : DataW.Trod enc Tryd.prog W 0 (fun _ => true) true 34 v d p) : ∃ x y : Int, v = .agg #[.int .u64 x, .int .u64 y] ∧ (0 ≤ x ∧ x < 18446744073709551616) ∧ (0 ≤ y ∧ y < 18446744073709551616) := by
  have hv' := hv
  simp only [Value.okWide, Tryd.underlying34] at hv'
  obtain ⟨cs, rfl, hsz, _⟩ := hv'
  obtain ⟨l⟩ := cs
  have c34 : Tryd.prog.cellsOf 34 = 2 := by kernel_rfl
  match l, hsz.trans c34 with
  | [c0, c1], _ =>
    obtain ⟨fuel, hf⟩ := h
    obtain ⟨xs, m, _, _, _, hlen, he⟩ := DataW.trod_array Tryd.underlying34 hf
    match xs, hlen with
    | [u0, u1], _ =>
      have f0 : DataW.trod enc Tryd.prog W 0 (fun _ => true) true m 30 (([c0, c1].drop (0 * Tryd.prog.cellsOf 30)).take (Tryd.prog.cellsOf 30)) = some u0 := he 0 (by decide)
      rw [c30] at f0
      obtain ⟨x, e0, _, w0⟩ := DataW.trod_int Tryd.underlying30 f0
      simp at e0
      have f1 : DataW.trod enc Tryd.prog W 0 (fun _ => true) true m 30 (([c0, c1].drop (1 * Tryd.prog.cellsOf 30)).take (Tryd.prog.cellsOf 30)) = some u1 := he 1 (by decide)
      rw [c30] at f1
      obtain ⟨y, e1, _, w1⟩ := DataW.trod_int Tryd.underlying30 f1
      simp at e1
      subst e0 e1
      exact ⟨x, y, rfl, u64_wf w0, u64_wf w1⟩
theorem as_arr3 (hv : Value.okWide Tryd.prog W .any b 48 v) (h : DataW.Trod enc Tryd.prog W 0 (fun _ => true) true 48 v d p) : ∃ x y z : Int, v = .agg #[.int .u64 x, .int .u64 y, .int .u64 z] ∧ (0 ≤ x ∧ x < 18446744073709551616) ∧ (0 ≤ y ∧ y < 18446744073709551616) ∧ (0 ≤ z ∧ z < 18446744073709551616) := by
  have hv' := hv
  simp only [Value.okWide, Tryd.underlying48] at hv'
  obtain ⟨cs, rfl, hsz, _⟩ := hv'
  obtain ⟨l⟩ := cs
  have c48 : Tryd.prog.cellsOf 48 = 3 := by kernel_rfl
  match l, hsz.trans c48 with
  | [c0, c1, c2], _ =>
    obtain ⟨fuel, hf⟩ := h
    obtain ⟨xs, m, _, _, _, hlen, he⟩ := DataW.trod_array Tryd.underlying48 hf
    match xs, hlen with
    | [u0, u1, u2], _ =>
      have f0 : DataW.trod enc Tryd.prog W 0 (fun _ => true) true m 30 (([c0, c1, c2].drop (0 * Tryd.prog.cellsOf 30)).take (Tryd.prog.cellsOf 30)) = some u0 := he 0 (by decide)
      rw [c30] at f0
      obtain ⟨x, e0, _, w0⟩ := DataW.trod_int Tryd.underlying30 f0
      simp at e0
      have f1 : DataW.trod enc Tryd.prog W 0 (fun _ => true) true m 30 (([c0, c1, c2].drop (1 * Tryd.prog.cellsOf 30)).take (Tryd.prog.cellsOf 30)) = some u1 := he 1 (by decide)
      rw [c30] at f1
      obtain ⟨y, e1, _, w1⟩ := DataW.trod_int Tryd.underlying30 f1
      simp at e1
      have f2 : DataW.trod enc Tryd.prog W 0 (fun _ => true) true m 30 (([c0, c1, c2].drop (2 * Tryd.prog.cellsOf 30)).take (Tryd.prog.cellsOf 30)) = some u2 := he 2 (by decide)
      rw [c30] at f2
      obtain ⟨z, e2, _, w2⟩ := DataW.trod_int Tryd.underlying30 f2
      simp at e2
      subst e0 e1 e2
      exact ⟨x, y, z, rfl, u64_wf w0, u64_wf w1, u64_wf w2⟩
end
end Go.Proofs.YtpfdbigdkegncaaDoor
