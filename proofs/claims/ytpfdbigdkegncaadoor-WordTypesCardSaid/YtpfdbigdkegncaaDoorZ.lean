/- The law WordNorms: its walk. -/
import Derived.Test.YtpfdbigdkegncaaDoorY
import Derived.Test.YtpfdbigdkegncaaDoorU
namespace Go.Proofs.YtpfdbigdkegncaaDoor
open Go.RowKit

set_option maxHeartbeats 2000000 in
theorem norms_law (W : Int) (S : Bool) (v : Int) (w : World) (ht : Tab w) (hv0 : 0 ≤ v) (hv1 : v < 18446744073709551616) :
    Calls Tryd.prog 4 #[.agg #[.int .i64 W, .bool S], .int .u64 v] w fun e w' => e = .returned (.bool true) ∧ Below w.heap.size w w' := by
  obtain ⟨c0, c1, ht1, ho⟩ := On.start ht W S
  go_enter Tryd.func4, Tryd.ntmps4
  go_wp2_with fail
  go_region_held3 (fun w' => w'.cell? ⟨w.heap.size, 0, none⟩ = some (.int .i64 W) ∧ w'.cell? ⟨w.heap.size, 1, none⟩ = some (.bool S) ∧ Tab w' ∧ Below w.heap.size w w') (first | exact ⟨c0, c1, ht1.drew, ho.drew⟩ | exact keepT (by assumption) hq)
      (first | (go_at_call 13; refine (awake_any _ (by first | exact ht1.drew | exact (And.left (And.right (And.right (by assumption)))))).mono ?_; rintro e w' ⟨rfl, hq⟩) | (go_at_call 19; refine (norm_any _ _ _ _ (And.left (And.right (And.right (by assumption)))) hv0 hv1).mono ?_; rintro e w' ⟨rfl, hq⟩) | (go_at_call 20; refine (rnorm_any _ _ _ _ hv0 hv1).mono ?_; rintro e w' ⟨rfl, hq⟩) | (go_at_call 21; refine (int_any _ _ _ _ (And.left (And.right (And.right (by assumption)))) hv0 hv1).mono ?_; rintro e w' ⟨rfl, hq⟩) | (go_at_call 22; refine (rint_any _ _ _ _ hv0 hv1).mono ?_; rintro e w' ⟨rfl, hq⟩))
  rename_i hh
  clear c0 c1
  go_wp2
  go_ret
  exact ⟨rfl, hh.2.2.2⟩
end Go.Proofs.YtpfdbigdkegncaaDoor
