/- The law WordDoes: its walk. -/
import Derived.Test.YtpfdbigdkegncaaDoorDh
import Derived.Test.YtpfdbigdkegncaaDoorTg
namespace Go.Proofs.YtpfdbigdkegncaaDoor
open Go.RowKit

set_option maxHeartbeats 1000000 in
theorem does_law (W : Int) (S : Bool) (s : ByteArray) (a b : Int) (w : World) (ht : Tab w) (ha0 : 0 ≤ a) (ha1 : a < 18446744073709551616) (hb0 : 0 ≤ b) (hb1 : b < 18446744073709551616) :
    Calls Tryd.prog 5 #[.agg #[.int .i64 W, .bool S], .string s, .agg #[.int .u64 a, .int .u64 b]] w fun e w' => e = .returned (.bool true) ∧ Below w.heap.size w w' := by
  have H0 := On2.start ht W S a b
  clear ht
  go_enter Tryd.func5, Tryd.ntmps5
  go_wp2_with fail
  refine (do_any _ _ _ _ _ _ H0.tab ha0 ha1 hb0 hb1).mono ?_; rintro e w1 ⟨rfl, hq⟩
  have H1 := H0.step hq
  obtain ⟨c0, c1, q0, q1, _, _⟩ := H1
  have H1 := H0.step hq
  clear H0 hq
  go_wp2_with fail
  refine (rdo_any _ _ _ _ _ _ ha0 ha1 hb0 hb1).mono ?_; rintro e w2 ⟨rfl, hq⟩
  have H2 := H1.step hq
  generalize (doF W S s a b).1 = x
  generalize (doF W S s a b).2 = y
  clear c0 c1 q0 q1 hq H1
  go_wp2_with fail
  refine (awake_any _ H2.tab).mono ?_; rintro e w3 ⟨rfl, hq⟩
  have ho' := H2.old.trans (hq.mono H2.old.size)
  clear H2
  go_wp2
  go_ret
  exact ⟨ret_bool (by simp), ho'⟩
end Go.Proofs.YtpfdbigdkegncaaDoor
