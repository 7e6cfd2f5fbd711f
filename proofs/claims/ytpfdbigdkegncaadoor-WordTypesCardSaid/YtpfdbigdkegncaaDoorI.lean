/- The contracts of word's truth and Cast. -/
import Derived.Test.YtpfdbigdkegncaaDoorH
namespace Go.Proofs.YtpfdbigdkegncaaDoor
open Go.RowKit

theorem truth_any (x : Bool) (w : World) : Calls Tryd.prog 44 #[.bool x] w fun e w' => e = .returned (.int .u64 (if x then 1 else 0)) ∧ Below w.heap.size w w' := by
  cases x
  · go_enter Tryd.func44, Tryd.ntmps44
    go_wp2
    go_ret
    exact ⟨rfl, Below.refl _ _⟩
  · go_enter Tryd.func44, Tryd.ntmps44
    go_wp2
    go_ret
    exact ⟨rfl, Below.refl _ _⟩

def castF (W : Int) (S : Bool) (V : Int) (R : Bool) (v : Int) : Int :=
  if rt W S = false ∨ rt V R = false then 0 else if V = 1 then (if lowF W v = 0 then 0 else 1) else lowF V (IntKind.u64.wrap (stF W S v))

theorem keep4 {w0 w w' : World} {p p' q q' : Addr} {v v' u u' : Value} (h : w.cell? p = some v ∧ w.cell? p' = some v' ∧ w.cell? q = some u ∧ w.cell? q' = some u' ∧ Below w0.heap.size w0 w) (hb : Below w.heap.size w w') :
    w'.cell? p = some v ∧ w'.cell? p' = some v' ∧ w'.cell? q = some u ∧ w'.cell? q' = some u' ∧ Below w0.heap.size w0 w' :=
  ⟨(hb.cell (cell_lt h.1)).trans h.1, (hb.cell (cell_lt h.2.1)).trans h.2.1, (hb.cell (cell_lt h.2.2.1)).trans h.2.2.1, (hb.cell (cell_lt h.2.2.2.1)).trans h.2.2.2.1, h.2.2.2.2.trans (hb.mono h.2.2.2.2.size)⟩
theorem two_boxes (w : World) (W V : Int) (S R : Bool) : 
    ((w.alloc (.cells #[.int .i64 W, .bool S] 23)).alloc (.cells #[.int .i64 V, .bool R] 23)).cell? ⟨w.heap.size, 0, none⟩ = some (.int .i64 W) ∧
    ((w.alloc (.cells #[.int .i64 W, .bool S] 23)).alloc (.cells #[.int .i64 V, .bool R] 23)).cell? ⟨w.heap.size, 1, none⟩ = some (.bool S) ∧
    ((w.alloc (.cells #[.int .i64 W, .bool S] 23)).alloc (.cells #[.int .i64 V, .bool R] 23)).cell? ⟨w.heap.size + 1, 0, none⟩ = some (.int .i64 V) ∧
    ((w.alloc (.cells #[.int .i64 W, .bool S] 23)).alloc (.cells #[.int .i64 V, .bool R] 23)).cell? ⟨w.heap.size + 1, 1, none⟩ = some (.bool R) ∧
    Below w.heap.size w ((w.alloc (.cells #[.int .i64 W, .bool S] 23)).alloc (.cells #[.int .i64 V, .bool R] 23)) := by
  refine ⟨by simp [go_sem], by simp [go_sem], ?_, ?_, ((Below.refl _ _).alloc (Nat.le_refl _) _).alloc (by simp) _⟩
  · have := World.size_alloc w (.cells #[.int .i64 W, .bool S] 23)
    rw [← this]
    simp [go_sem]
  · have := World.size_alloc w (.cells #[.int .i64 W, .bool S] 23)
    rw [← this]
    simp [go_sem]

set_option maxHeartbeats 1000000 in
theorem cast_any (W : Int) (S : Bool) (V : Int) (R : Bool) (v : Int) (w : World) (ht : Tab w) (hv0 : 0 ≤ v) (hv1 : v < 18446744073709551616) :
    Calls Tryd.prog 29 #[.agg #[.int .i64 W, .bool S], .agg #[.int .i64 V, .bool R], .int .u64 v] w fun e w' => e = .returned (.int .u64 (castF W S V R v)) ∧ Below w.heap.size w w' := by
  have ht1 := (ht.alloc (.cells #[.int .i64 W, .bool S] 23)).alloc (.cells #[.int .i64 V, .bool R] 23)
  have k0 := two_boxes w W V S R
  generalize hF : castF W S V R v = F
  have HF := Lib.hid hF
  clear hF
  go_enter Tryd.func29, Tryd.ntmps29
  have K0 := Lib.hid k0
  clear k0
  go_wp2_with fail
  refine (right_any _ _ _ ht1).mono ?_
  rintro e w1 ⟨rfl, hq⟩
  have ht2 := ht1.below hq
  obtain ⟨a0, a1, a2, a3, hb1⟩ := keep4 K0.out hq
  clear hq ht1 K0
  by_cases hr : rt W S = true
  · have HR := Lib.hid hr
    go_wp2_with fail
    refine (right_any _ _ _ ht2).mono ?_
    rintro e w2 ⟨rfl, hq⟩
    obtain ⟨b0, b1, b2, b3, hb2⟩ := keep4 ⟨a0, a1, a2, a3, hb1⟩ hq
    clear a0 a1 a2 a3 hb1 hq ht2
    by_cases hr2 : rt V R = true
    · have HR2 := Lib.hid hr2
      by_cases h1 : V = 1
      · have HV := Lib.hid h1
        have e1 : (V == 1) = true := by simp [h1]
        clear h1
        go_wp2_with fail
        refine (low_any _ _ _ _ HR.out hv0 hv1).mono ?_
        rintro e w3 ⟨rfl, hq⟩
        have hb3 := hb2.trans (hq.mono hb2.size)
        clear b0 b1 b2 b3 hb2 hq
        by_cases hz : lowF W v = 0
        · have hz1 : (lowF W v != 0) = false := by simp [hz]
          have HZ := Lib.hid hz
          clear hz
          go_wp2_with fail
          refine (truth_any false _).mono ?_
          rintro e w4 ⟨rfl, hq⟩
          have hb4 := hb3.trans (hq.mono hb3.size)
          clear hb3 hq e1 hz1
          go_wp2
          go_ret
          exact ⟨ret_int (by rw [← HF.out]; unfold castF; rw [if_neg (by simp [HR.out, HR2.out]), if_pos HV.out, if_pos HZ.out]), hb4⟩
        · have hz1 : (lowF W v != 0) = true := by simpa using hz
          have HZ := Lib.hid hz
          clear hz
          go_wp2_with fail
          refine (truth_any true _).mono ?_
          rintro e w4 ⟨rfl, hq⟩
          have hb4 := hb3.trans (hq.mono hb3.size)
          clear hb3 hq e1 hz1
          go_wp2
          go_ret
          exact ⟨ret_int (by rw [← HF.out]; unfold castF; rw [if_neg (by simp [HR.out, HR2.out]), if_pos HV.out, if_neg HZ.out]), hb4⟩
      · have e1 : (V == 1) = false := by simpa using h1
        have HV := Lib.hid h1
        clear h1
        go_wp2_with fail
        go_region_held3 (fun w' => w'.cell? ⟨w.heap.size, 0, none⟩ = some (.int .i64 W) ∧ w'.cell? ⟨w.heap.size, 1, none⟩ = some (.bool S) ∧ w'.cell? ⟨w.heap.size + 1, 0, none⟩ = some (.int .i64 V) ∧ w'.cell? ⟨w.heap.size + 1, 1, none⟩ = some (.bool R) ∧ Below w.heap.size w w') (first | exact ⟨b0, b1, b2, b3, hb2.drew⟩ | exact keep4 (by assumption) hq)
          (first | (go_at_call 35; refine (stands_any _ _ _ _ HR.out (by assumption) (by assumption)).mono ?_; rintro e w' ⟨rfl, hq⟩) | (go_at_call 32; refine (low_any _ _ _ _ HR2.out (u64_bd _).1 (u64_bd _).2).mono ?_; rintro e w' ⟨rfl, hq⟩))
        rename_i hh
        clear b0 b1 b2 b3
        go_wp2
        go_ret
        refine ⟨ret_int ?_, hh.2.2.2.2⟩
        rw [← HF.out]
        unfold castF
        rw [if_neg (by simp [HR.out, HR2.out]), if_neg HV.out]
    · have hr3 : rt V R = false := by simpa using hr2
      clear hr2
      have HR2 := Lib.hid hr3
      go_wp2
      go_ret
      exact ⟨ret_int (by rw [← HF.out]; unfold castF; rw [if_pos (.inr HR2.out)]), hb2⟩
  · have hr3 : rt W S = false := by simpa using hr
    clear hr
    have HR2 := Lib.hid hr3
    go_wp2
    go_ret
    exact ⟨ret_int (by rw [← HF.out]; unfold castF; rw [if_pos (.inl HR2.out)]), hb1⟩
end Go.Proofs.YtpfdbigdkegncaaDoor
