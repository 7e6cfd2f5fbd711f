/- What each parameter's value is, opened: types, numbers, texts, arrays of numbers. -/
import Derived.Test.YtpfdbigdkegncaaDoorK
namespace Go.Proofs.YtpfdbigdkegncaaDoor
open Go.ChangeShapes Go.WideShapes Go.ChangeAt Go.RowKit Go.Deep

section
variable {H : Type} {enc : TypeId × Value → H} {W : World} {b : Nat} {v : Value} {d : DataW H} {p : List MemPlace}
theorem as_type (hv : Value.okWide Tryd.prog W .any b 23 v) (h : DataW.Trod enc Tryd.prog W 0 (fun _ => true) true 23 v d p) : ∃ (w : Int) (s : Bool), v = .agg #[.int .i64 w, .bool s] := by
  obtain ⟨v0, v1, y0, y1, n, rfl, _, _, h0, h1⟩ := Joins.open_agg2 Tryd.underlying23 (by kernel_rfl) (by kernel_rfl) hv h
  obtain ⟨k, e1, _, _⟩ := DataW.trod_int Tryd.underlying3 h0
  obtain ⟨s, e2, _⟩ := DataW.trod_bool Tryd.underlying4 h1
  cases e1
  cases e2
  exact ⟨k, s, rfl⟩
theorem as_u64 (hv : Value.okWide Tryd.prog W .any b 30 v) (h : DataW.Trod enc Tryd.prog W 0 (fun _ => true) true 30 v d p) : ∃ a : Int, v = .int .u64 a ∧ 0 ≤ a ∧ a < 18446744073709551616 := by
  obtain ⟨a, rfl, _, _, wa⟩ := open_int Tryd.underlying30 hv h
  have h1 : IntKind.u64.min = 0 := by decide
  have h2 : IntKind.u64.max = 18446744073709551615 := by decide
  simp only [Lit.wf, h1, h2, decide_eq_true_eq, Bool.and_eq_true] at wa
  exact ⟨a, rfl, by omega⟩
end
end Go.Proofs.YtpfdbigdkegncaaDoor
