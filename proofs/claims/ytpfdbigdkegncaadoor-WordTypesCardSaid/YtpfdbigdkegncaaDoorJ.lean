/- The contract of the statements' anchor (awake): it returns true, wherever the table of types lies. -/
import Derived.Test.YtpfdbigdkegncaaDoorI
namespace Go.Proofs.YtpfdbigdkegncaaDoor
open Go.RowKit

theorem i8_any (w : World) : Calls Tryd.prog 31 #[] w fun e w' => e = .returned (.agg #[.int .i64 8, .bool true]) ∧ Below w.heap.size w w' := by
  go_enter Tryd.func31, Tryd.ntmps31
  go_wp2
  refine bodyPost_ret (v := .agg #[.int .i64 8, .bool true]) (by simp [results, Tryd.results31, go_sem]) rfl ⟨rfl, ?_⟩
  exact (Below.refl _ _).alloc (Nat.le_refl _) _

theorem d1 : doF 8 true ⟨#[47]⟩ 200 3 = (238, 0) := by decide +kernel
theorem d2 : doF 8 true ⟨#[37]⟩ 200 3 = (254, 0) := by decide +kernel
theorem d3 : doF 8 true ⟨#[62, 62]⟩ 200 2 = (242, 0) := by decide +kernel
theorem d4 : doF 8 false ⟨#[43]⟩ 200 100 = (44, 0) := by decide +kernel
theorem d5 : doF 8 true ⟨#[47]⟩ 1 0 = (0, 11) := by decide +kernel
theorem d6 : intF 8 true 200 = -56 := by decide +kernel
theorem d7 : castF 8 true 16 true 200 = 65480 := by decide +kernel
theorem d8 : castF 8 true 1 false 200 = 1 := by decide +kernel
theorem d9 : nameOf 8 true = ⟨#[105, 56]⟩ := by decide +kernel
theorem do_c {W : Int} {S : Bool} {s : ByteArray} {a b r q : Int} (h : doF W S s a b = (r, q)) (w : World) (ht : Tab w) (ha0 : 0 ≤ a) (ha1 : a < 18446744073709551616) (hb0 : 0 ≤ b) (hb1 : b < 18446744073709551616) :
    Calls Tryd.prog 23 #[.agg #[.int .i64 W, .bool S], .string s, .int .u64 a, .int .u64 b] w fun e w' => e = .returned (.tuple #[.int .u64 r, .int .i64 q]) ∧ Below w.heap.size w w' := by
  have := do_any W S s a b w ht ha0 ha1 hb0 hb1
  rw [h] at this
  exact this
theorem int_c {W : Int} {S : Bool} {v r : Int} (h : intF W S v = r) (w : World) (ht : Tab w) (hv0 : 0 ≤ v) (hv1 : v < 18446744073709551616) :
    Calls Tryd.prog 21 #[.agg #[.int .i64 W, .bool S], .int .u64 v] w fun e w' => e = .returned (.int .i64 r) ∧ Below w.heap.size w w' := by
  subst h
  exact int_any W S v w ht hv0 hv1
theorem cast_c {W : Int} {S : Bool} {V : Int} {R : Bool} {v r : Int} (h : castF W S V R v = r) (w : World) (ht : Tab w) (hv0 : 0 ≤ v) (hv1 : v < 18446744073709551616) :
    Calls Tryd.prog 29 #[.agg #[.int .i64 W, .bool S], .agg #[.int .i64 V, .bool R], .int .u64 v] w fun e w' => e = .returned (.int .u64 r) ∧ Below w.heap.size w w' := by
  subst h
  exact cast_any W S V R v w ht hv0 hv1
theorem name_c {W : Int} {S : Bool} {s : ByteArray} (h : nameOf W S = s) (w : World) (ht : Tab w) :
    Calls Tryd.prog 18 #[.agg #[.int .i64 W, .bool S]] w fun e w' => e = .returned (.string s) ∧ Below w.heap.size w w' := by
  subst h
  exact name_any W S w ht

theorem step_on {w0 w w' : World} (h : Tab w ∧ Below w0.heap.size w0 w) (hq : Below w.heap.size w w') : Tab w' ∧ Below w0.heap.size w0 w' := ⟨h.1.below hq, h.2.trans (hq.mono h.2.size)⟩

set_option maxHeartbeats 1000000 in
theorem awake_any (w : World) (ht : Tab w) : Calls Tryd.prog 13 #[] w fun e w' => e = .returned (.bool true) ∧ Below w.heap.size w w' := by
  have h0 : Tab w ∧ Below w.heap.size w w := ⟨ht, Below.refl _ _⟩
  clear ht
  go_enter Tryd.func13, Tryd.ntmps13
  go_wp2_with fail
  refine (i8_any _).mono ?_; rintro e w1 ⟨rfl, hq⟩
  have h1 := step_on h0 hq; clear hq
  go_wp2_with fail
  refine (do_c d1 _ h1.1 (by decide) (by decide) (by decide) (by decide)).mono ?_; rintro e w2 ⟨rfl, hq⟩
  have h2 := step_on h1 hq; clear hq h1
  go_wp2_with fail
  refine (i8_any _).mono ?_; rintro e w3 ⟨rfl, hq⟩
  have h3 := step_on h2 hq; clear hq h2
  go_wp2_with fail
  refine (do_c d2 _ h3.1 (by decide) (by decide) (by decide) (by decide)).mono ?_; rintro e w4 ⟨rfl, hq⟩
  have h4 := step_on h3 hq; clear hq h3
  go_wp2_with fail
  refine (i8_any _).mono ?_; rintro e w5 ⟨rfl, hq⟩
  have h5 := step_on h4 hq; clear hq h4
  go_wp2_with fail
  refine (do_c d3 _ h5.1 (by decide) (by decide) (by decide) (by decide)).mono ?_; rintro e w6 ⟨rfl, hq⟩
  have h6 := step_on h5 hq; clear hq h5
  go_wp2_with fail
  refine (do_c d4 _ h6.1 (by decide) (by decide) (by decide) (by decide)).mono ?_; rintro e w7 ⟨rfl, hq⟩
  have h7 := step_on h6 hq; clear hq h6
  go_wp2_with fail
  refine (i8_any _).mono ?_; rintro e w8 ⟨rfl, hq⟩
  have h8 := step_on h7 hq; clear hq h7
  go_wp2_with fail
  refine (do_c d5 _ h8.1 (by decide) (by decide) (by decide) (by decide)).mono ?_; rintro e w9 ⟨rfl, hq⟩
  have h9 := step_on h8 hq; clear hq h8
  go_wp2_with fail
  refine (i8_any _).mono ?_; rintro e w10 ⟨rfl, hq⟩
  have h10 := step_on h9 hq; clear hq h9
  go_wp2_with fail
  refine (int_c d6 _ h10.1 (by decide) (by decide)).mono ?_; rintro e w11 ⟨rfl, hq⟩
  have h11 := step_on h10 hq; clear hq h10
  go_wp2_with fail
  refine (i8_any _).mono ?_; rintro e w12 ⟨rfl, hq⟩
  have h12 := step_on h11 hq; clear hq h11
  go_wp2_with fail
  refine (cast_c d7 _ h12.1 (by decide) (by decide)).mono ?_; rintro e w13 ⟨rfl, hq⟩
  have h13 := step_on h12 hq; clear hq h12
  go_wp2_with fail
  refine (i8_any _).mono ?_; rintro e w14 ⟨rfl, hq⟩
  have h14 := step_on h13 hq; clear hq h13
  go_wp2_with fail
  refine (cast_c d8 _ h14.1 (by decide) (by decide)).mono ?_; rintro e w15 ⟨rfl, hq⟩
  have h15 := step_on h14 hq; clear hq h14
  go_wp2_with fail
  refine (i8_any _).mono ?_; rintro e w16 ⟨rfl, hq⟩
  have h16 := step_on h15 hq; clear hq h15
  go_wp2_with fail
  refine (name_c d9 _ h16.1).mono ?_; rintro e w17 ⟨rfl, hq⟩
  have h17 := step_on h16 hq; clear hq h16
  go_wp2
  go_ret
  exact ⟨rfl, h17.2⟩
end Go.Proofs.YtpfdbigdkegncaaDoor
