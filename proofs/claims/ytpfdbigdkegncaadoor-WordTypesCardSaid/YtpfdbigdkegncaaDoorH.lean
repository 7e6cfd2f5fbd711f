/- The contract of word's Do, whole. -/
import Derived.Test.YtpfdbigdkegncaaDoorG
namespace Go.Proofs.YtpfdbigdkegncaaDoor
open Go.RowKit

theorem low_low {W v : Int} {S : Bool} (h : rt W S = true) : lowF W (lowF W v) = lowF W v := by
  unfold lowF
  rcases rt_w h with rfl | rfl | rfl | rfl | rfl <;> exact Int.emod_emod_of_dvd _ (Int.dvd_refl _)

set_option maxHeartbeats 1000000 in
theorem do_ok (W : Int) (S : Bool) (s : ByteArray) (a b : Int) (w : World) (ht : Tab w) (hr : rt W S = true) (ho : opB W s = true) (ha0 : 0 ≤ a) (ha1 : a < 18446744073709551616) (hb0 : 0 ≤ b) (hb1 : b < 18446744073709551616)
    (hd : dvB s = true → lowF W b ≠ 0) :
    Calls Tryd.prog 23 #[.agg #[.int .i64 W, .bool S], .string s, .int .u64 a, .int .u64 b] w fun e w' => e = .returned (.tuple #[.int .u64 (lowF W (opF W S s (lowF W a) (lowF W b))), .int .i64 0]) ∧ Below w.heap.size w w' := by
  have ht1 := ht.alloc (.cells #[.int .i64 W, .bool S] 23)
  have HO := Lib.hid ho
  have HD := Lib.hid hd
  clear ho hd
  go_enter Tryd.func23, Tryd.ntmps23
  go_wp2_with fail
  refine (right_any _ _ _ ht1).mono ?_
  rintro e w1 ⟨rfl, hq⟩
  have hc0 : w1.cell? ⟨w.heap.size, 0, none⟩ = some (.int .i64 W) := (hq.cell (p := ⟨w.heap.size, 0, none⟩) (by simp)).trans (by simp [go_sem])
  have hc1 : w1.cell? ⟨w.heap.size, 1, none⟩ = some (.bool S) := (hq.cell (p := ⟨w.heap.size, 1, none⟩) (by simp)).trans (by simp [go_sem])
  have hb' := below_box (by simpa using hq)
  have HR := Lib.hid hr
  clear hq ht1
  go_wp2_with fail
  refine (doer_yes _ _ _ _ HR.out HO.out).mono ?_
  rintro e w2 ⟨f, rfl, ⟨fid, caps, rfl, hcf, hF⟩, hq⟩
  obtain ⟨hd0, hd1, hb2⟩ := keep2 ⟨hc0, hc1, hb'⟩ hq
  have la := low_lt (v := a) hr
  have lb := low_lt (v := b) hr
  obtain ⟨la0, la1⟩ := la
  obtain ⟨lb0, lb1⟩ := lb
  have hpre : preF W s (lowF W a) (lowF W b) := fun h => ⟨HD.out h, low_low hr⟩
  have fb := (hF w2 (Below.refl _ _) _ _ la0 la1 lb0 lb1 hpre).1
  obtain ⟨fb0, fb1⟩ := fb
  have HF := Lib.hid (fun w' (h : Below w2.heap.size w2 w') => (hF w' h _ _ la0 la1 lb0 lb1 hpre).2)
  have HPRE := Lib.hid hpre
  clear hc0 hc1 hq hb' hF hpre
  go_wp2_with fail
  go_region_held3 (fun w' => w'.cell? ⟨w.heap.size, 0, none⟩ = some (.int .i64 W) ∧ w'.cell? ⟨w.heap.size, 1, none⟩ = some (.bool S) ∧ Below w2.heap.size w2 w') (first | exact ⟨hd0, hd1, (Below.refl _ _).drew⟩ | exact keep2 (by assumption) hq)
      (first | (go_at_call 32; refine (low_any _ _ _ _ HR.out (by assumption) (by assumption)).mono ?_; rintro e w' ⟨rfl, hq⟩))
  rename_i hh
  clear hd0 hd1
  obtain ⟨hd0, hd1, hb3⟩ := hh
  by_cases hz : lowF W b = 0
  · have hdf : dvB s = false := by
      cases hv : dvB s
      · rfl
      · exact absurd hz (HD.out hv)
    have HDF := Lib.hid hdf
    have HZ := Lib.hid hz
    have hzz : (lowF W b == 0) = true := by simp [hz]
    clear hdf hz
    go_wp2_with fail
    refine (divides_any _ _).mono ?_
    rintro e w4 ⟨rfl, hq⟩
    obtain ⟨he0, he1, hb4⟩ := keep2 ⟨hd0, hd1, hb3⟩ hq
    have hdf := HDF.out
    clear hd0 hd1 hb3 hq hzz
    go_wp2_with fail
    go_region_held3 (fun w' => w'.cell? ⟨w.heap.size, 0, none⟩ = some (.int .i64 W) ∧ w'.cell? ⟨w.heap.size, 1, none⟩ = some (.bool S) ∧ Below w2.heap.size w2 w') (first | exact ⟨he0, he1, hb4.drew⟩ | exact keep2 (by assumption) hq)
        (first | (go_at_call 32; refine (low_any _ _ _ _ HR.out (by assumption) (by assumption)).mono ?_; rintro e w' ⟨rfl, hq⟩) | (refine (HF.out _ (by first | exact hb4.drew | exact (And.right (And.right (by assumption))))).mono ?_; rintro e w' ⟨rfl, hq⟩))
    rename_i hh
    clear he0 he1
    go_wp2
    go_ret2
    exact ⟨rfl, hb2.trans (hh.2.2.mono hb2.size)⟩
  · have hzz : (lowF W b == 0) = false := by simpa using hz
    clear hz
    go_wp2_with fail
    go_region_held3 (fun w' => w'.cell? ⟨w.heap.size, 0, none⟩ = some (.int .i64 W) ∧ w'.cell? ⟨w.heap.size, 1, none⟩ = some (.bool S) ∧ Below w2.heap.size w2 w') (first | exact ⟨hd0, hd1, hb3.drew⟩ | exact keep2 (by assumption) hq)
        (first | (go_at_call 32; refine (low_any _ _ _ _ HR.out (by assumption) (by assumption)).mono ?_; rintro e w' ⟨rfl, hq⟩) | (refine (HF.out _ (by first | exact hb3.drew | exact (And.right (And.right (by assumption))))).mono ?_; rintro e w' ⟨rfl, hq⟩))
    rename_i hh
    clear hd0 hd1
    go_wp2
    go_ret2
    exact ⟨rfl, hb2.trans (hh.2.2.mono hb2.size)⟩

/-- What Do answers: the value, and the error's number. -/
def doF (W : Int) (S : Bool) (s : ByteArray) (a b : Int) : Int × Int :=
  if rt W S = false then (0, 10) else if opB W s = false then (0, 12) else if dvB s = true ∧ lowF W b = 0 then (0, 11) else (lowF W (opF W S s (lowF W a) (lowF W b)), 0)
theorem do_any (W : Int) (S : Bool) (s : ByteArray) (a b : Int) (w : World) (ht : Tab w) (ha0 : 0 ≤ a) (ha1 : a < 18446744073709551616) (hb0 : 0 ≤ b) (hb1 : b < 18446744073709551616) :
    Calls Tryd.prog 23 #[.agg #[.int .i64 W, .bool S], .string s, .int .u64 a, .int .u64 b] w fun e w' => e = .returned (.tuple #[.int .u64 (doF W S s a b).1, .int .i64 (doF W S s a b).2]) ∧ Below w.heap.size w w' := by
  unfold doF
  by_cases hr : rt W S = false
  · rw [if_pos hr]
    exact do_type W S s a b w ht hr
  rw [if_neg hr]
  have hr' : rt W S = true := by simpa using hr
  by_cases ho : opB W s = false
  · rw [if_pos ho]
    exact do_op W S s a b w ht hr' ho
  rw [if_neg ho]
  have ho' : opB W s = true := by simpa using ho
  by_cases hz : dvB s = true ∧ lowF W b = 0
  · rw [if_pos hz]
    exact do_zero W S s a b w ht hr' ho' ha0 ha1 hb0 hb1 hz.1 hz.2
  · rw [if_neg hz]
    exact do_ok W S s a b w ht hr' ho' ha0 ha1 hb0 hb1 (fun h h' => hz ⟨h, h'⟩)
end Go.Proofs.YtpfdbigdkegncaaDoor
