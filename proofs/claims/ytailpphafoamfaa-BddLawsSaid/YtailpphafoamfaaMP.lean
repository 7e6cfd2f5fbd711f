/- An array of three small numbers, opened. -/
import Derived.Test.YtailpphafoamfaaMO
set_option linter.all false
namespace Go.Proofs.Ytailpphafoamfaa
open Go.ChangeShapes Go.WideShapes Go.ChangeAt Go.RowKit Go.Deep

theorem arr3 {cs : Array Value} (h : cs.size = 3) : ∃ x y z, cs = #[x, y, z] := by
  match cs, h with
  | ⟨[x, y, z]⟩, _ => exact ⟨x, y, z, rfl⟩
theorem c5 : Try.prog.cellsOf 5 = 1 := by kernel_rfl
theorem c59 : Try.prog.cellsOf 59 = 3 := by kernel_rfl
section
variable {H : Type} {enc : TypeId × Value → H} {W : World} {b : Nat} {v : Value} {d : DataW H} {p : List MemPlace}
theorem u8_of {fuel : Nat} {c : Value} {y : DataW H × List MemPlace} (h : DataW.trod enc Try.prog W 0 (fun _ => true) true fuel 5 [c] = some y) : ∃ a : Int, c = .int .u8 a ∧ 0 ≤ a ∧ a ≤ 255 := by
  obtain ⟨a, h1, -, hw⟩ := DataW.trod_int Try.underlying5 h
  refine ⟨a, by simpa using h1, ?_⟩
  simp [Lit.wf, IntKind.min, IntKind.max, IntKind.signed, IntKind.bits] at hw
  omega
set_option maxRecDepth 100000 in
theorem as_arr (hv : Value.okWide Try.prog W .any b 59 v) (h : DataW.Trod enc Try.prog W 0 (fun _ => true) true 59 v d p) :
    ∃ q0 q1 q2 : Int, v = .agg #[.int .u8 q0, .int .u8 q1, .int .u8 q2] ∧ (0 ≤ q0 ∧ q0 ≤ 255) ∧ (0 ≤ q1 ∧ q1 ≤ 255) ∧ (0 ≤ q2 ∧ q2 ≤ 255) := by
  simp only [Value.okWide, Try.underlying59] at hv
  obtain ⟨cs, rfl, hsz, -⟩ := hv
  rw [c59] at hsz
  obtain ⟨c0, c1, c2, rfl⟩ := arr3 hsz
  obtain ⟨fuel, hf⟩ := h
  cases fuel with
  | zero => simp [DataW.trod] at hf
  | succ m =>
    rw [DataW.trod_step] at hf
    unfold DataW.trodStep at hf
    simp only [Try.underlying59, Value.cells] at hf
    rw [if_pos (by rw [c59]; rfl)] at hf
    simp only [Option.map_eq_some_iff] at hf
    obtain ⟨ys, hy, e1⟩ := hf
    rw [c5, show List.range 3 = [0, 1, 2] from rfl] at hy
    simp only [List.mapM_cons, List.mapM_nil, Option.bind_eq_bind, Option.bind_eq_some_iff] at hy
    obtain ⟨y0, h0, z0, ⟨y1, h1, z1, ⟨y2, h2, -⟩, -⟩, -⟩ := hy
    obtain ⟨q0, r0, b0⟩ := u8_of (c := c0) h0
    obtain ⟨q1, r1, b1⟩ := u8_of (c := c1) h1
    obtain ⟨q2, r2, b2⟩ := u8_of (c := c2) h2
    exact ⟨q0, q1, q2, by rw [r0, r1, r2], b0, b1, b2⟩
end
end Go.Proofs.Ytailpphafoamfaa
