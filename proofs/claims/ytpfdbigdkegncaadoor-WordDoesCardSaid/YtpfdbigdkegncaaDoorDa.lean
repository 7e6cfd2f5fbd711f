/- The contracts of skuaref01's Neg, size and divide. -/
import Derived.Test.YtpfdbigdkegncaaDoorY
import Derived.Deep.QuietTactic
import Derived.BigQuiet
namespace Go.Proofs.YtpfdbigdkegncaaDoor
open Go.RowKit

theorem keepB {w x x' : World} {o : Obj} {p p' : Addr} {v v' : Value} (h : x.cell? p = some v ∧ x.cell? p' = some v' ∧ Below (w.heap.size + 1) (w.alloc o) x) (hb : Below x.heap.size x x') :
    x'.cell? p = some v ∧ x'.cell? p' = some v' ∧ Below (w.heap.size + 1) (w.alloc o) x' :=
  ⟨(hb.cell (cell_lt h.1)).trans h.1, (hb.cell (cell_lt h.2.1)).trans h.2.1, h.2.2.trans (hb.mono (by have := h.2.2.size; simpa using this))⟩
theorem drewB {B : Nat} {w0 x : World} {p p' : Addr} {v v' : Value} (h : x.cell? p = some v ∧ x.cell? p' = some v' ∧ Below B w0 x) : x.drew.cell? p = some v ∧ x.drew.cell? p' = some v' ∧ Below B w0 x.drew := ⟨h.1, h.2.1, h.2.2.drew⟩
theorem below_dn {B : Nat} {w0 w : World} (h : Below B w0 w) (m : Nat) : Below B w0 (w.drewN m) := ⟨h.os, h.tape, h.output, h.size, h.block⟩
theorem start_box (w : World) (W : Int) (S : Bool) : (w.alloc (.cells #[.int .i64 W, .bool S] 23)).cell? ⟨w.heap.size, 0, none⟩ = some (.int .i64 W) ∧ (w.alloc (.cells #[.int .i64 W, .bool S] 23)).cell? ⟨w.heap.size, 1, none⟩ = some (.bool S) ∧ Below (w.heap.size + 1) (w.alloc (.cells #[.int .i64 W, .bool S] 23)) (w.alloc (.cells #[.int .i64 W, .bool S] 23)) :=
  ⟨by simp [go_sem], by simp [go_sem], Below.refl _ _⟩

set_option maxHeartbeats 1000000 in
theorem neg_any (n : Nat) (S : Bool) (v : Int) (w : World) (hn1 : 1 ≤ n) (hn : n ≤ 64) (hv0 : 0 ≤ v) (hv1 : v < 18446744073709551616) :
    Calls Tryd.prog 48 #[.agg #[.int .i64 n, .bool S], .int .u64 v] w fun e w' => e = .returned (.bool (sgn S v n)) ∧ Below w.heap.size w w' := by
  obtain ⟨b0, b1, hb⟩ := start_box w n S
  cases S
  · have e : sgn false v n = false := rfl
    rw [e]
    go_enter Tryd.func48, Tryd.ntmps48
    go_wp2_with fail
    go_quiet (fail)
    go_wp2
    go_ret
    exact ⟨rfl, below_box (below_dn hb _)⟩
  · have hi0 : 0 ≤ (n : Int) - 1 := by omega
    have hi1 : (n : Int) - 1 < (n : Int) := by omega
    have hidx : ((n : Int) - 1).toNat = n - 1 := by omega
    have hwr : IntKind.i64.wrap ((n : Int) - 1) = (n : Int) - 1 := IntWalk.i64_in _ (by omega)
    go_enter Tryd.func48, Tryd.ntmps48
    go_wp2_with fail
    have h1n : (1 : Int) ≤ (n : Int) := by omega
    have KB := Lib.hid (drewB ⟨b0, b1, hb⟩)
    go_region_with (go_at_call 34; refine (bits_any _ n _ hn hv0 hv1).mono ?_; rintro e w' ⟨sl, rfl, hown, hq⟩; rw [bits_len] at hown; obtain ⟨g, cap, rfl, hg, hnc, hl, hx⟩ := own_parts hown hn1; have hlast := hx (n - 1) (by omega); have KC := Lib.hid (keepB KB.out hq); obtain ⟨d0, d1, _⟩ := KC.out; clear hx hown hl)
    all_goals
      have hbz := KC.out.2.2
      have e : sgn true v n = (bitsR v n).getD (n - 1) false := rfl
      have HE := Lib.hid e
      clear e d0 d1 KC
      go_wp2
      go_ret
      exact ⟨ret_bool HE.out.symm, below_box hbz⟩
end Go.Proofs.YtpfdbigdkegncaaDoor
