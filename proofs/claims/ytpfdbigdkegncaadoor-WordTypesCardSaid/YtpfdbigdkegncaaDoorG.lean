/- The contract of word's Do: the value and the error that it returns, for every type, operator and two numbers of 64 bits. -/
import Derived.Test.YtpfdbigdkegncaaDoorF
namespace Go.Proofs.YtpfdbigdkegncaaDoor
open Go.RowKit

theorem bytes_list {s : ByteArray} {b : ByteArray} (h : s ≠ b) : (s.toList == b.toList) = false := by
  rw [← beq_toListBytes]
  exact bne_of h
set_option maxHeartbeats 400000 in
theorem divides_any (s : ByteArray) (w : World) : Calls Tryd.prog 38 #[.string s] w fun e w' => e = .returned (.bool (dvB s)) ∧ Below w.heap.size w w' := by
  by_cases h0 : s = ⟨#[47]⟩
  · subst h0
    go_enter Tryd.func38, Tryd.ntmps38
    go_wp2
    go_ret
    exact ⟨by rfl, Below.refl _ _⟩
  by_cases h1 : s = ⟨#[37]⟩
  · subst h1
    go_enter Tryd.func38, Tryd.ntmps38
    go_wp2
    go_ret
    exact ⟨by rfl, Below.refl _ _⟩
  have e0 : (s.toList == [47]) = false := by have := bytes_list h0; rwa [show (⟨#[47]⟩ : ByteArray).toList = [47] by decide +kernel] at this
  have e1 : (s.toList == [37]) = false := by have := bytes_list h1; rwa [show (⟨#[37]⟩ : ByteArray).toList = [37] by decide +kernel] at this
  have e2 : dvB s = false := by simp [dvB, h0, h1]
  have E2 := Lib.hid e2
  clear e2 h0 h1
  go_enter Tryd.func38, Tryd.ntmps38
  go_wp2
  go_ret
  exact ⟨ret_bool E2.out.symm, Below.refl _ _⟩

set_option maxHeartbeats 400000 in
theorem do_type (W : Int) (S : Bool) (s : ByteArray) (a b : Int) (w : World) (ht : Tab w) (hr : rt W S = false) :
    Calls Tryd.prog 23 #[.agg #[.int .i64 W, .bool S], .string s, .int .u64 a, .int .u64 b] w fun e w' => e = .returned (.tuple #[.int .u64 0, .int .i64 10]) ∧ Below w.heap.size w w' := by
  have ht1 := ht.alloc (.cells #[.int .i64 W, .bool S] 23)
  go_enter Tryd.func23, Tryd.ntmps23
  go_wp2_with fail
  refine (right_any _ _ _ ht1).mono ?_
  rintro e w1 ⟨rfl, hq⟩
  have hb' := below_box (by simpa using hq)
  clear hq ht1
  go_wp2
  go_ret2
  exact ⟨rfl, hb'⟩

set_option maxHeartbeats 400000 in
theorem do_op (W : Int) (S : Bool) (s : ByteArray) (a b : Int) (w : World) (ht : Tab w) (hr : rt W S = true) (ho : opB W s = false) :
    Calls Tryd.prog 23 #[.agg #[.int .i64 W, .bool S], .string s, .int .u64 a, .int .u64 b] w fun e w' => e = .returned (.tuple #[.int .u64 0, .int .i64 12]) ∧ Below w.heap.size w w' := by
  have ht1 := ht.alloc (.cells #[.int .i64 W, .bool S] 23)
  have HO := Lib.hid ho
  clear ho
  go_enter Tryd.func23, Tryd.ntmps23
  go_wp2_with fail
  refine (right_any _ _ _ ht1).mono ?_
  rintro e w1 ⟨rfl, hq⟩
  have hc0 : w1.cell? ⟨w.heap.size, 0, none⟩ = some (.int .i64 W) := (hq.cell (p := ⟨w.heap.size, 0, none⟩) (by simp)).trans (by simp [go_sem])
  have hc1 : w1.cell? ⟨w.heap.size, 1, none⟩ = some (.bool S) := (hq.cell (p := ⟨w.heap.size, 1, none⟩) (by simp)).trans (by simp [go_sem])
  have hb' := below_box (by simpa using hq)
  clear hq ht1
  go_wp2_with fail
  refine (doer_not _ _ _ _ HO.out).mono ?_
  rintro e w2 ⟨rfl, hq⟩
  have hb2 := hb'.trans (hq.mono hb'.size)
  clear hc0 hc1 hq hb'
  go_wp2
  go_ret2
  exact ⟨rfl, hb2⟩

set_option maxHeartbeats 1000000 in
theorem do_zero (W : Int) (S : Bool) (s : ByteArray) (a b : Int) (w : World) (ht : Tab w) (hr : rt W S = true) (ho : opB W s = true) (ha0 : 0 ≤ a) (ha1 : a < 18446744073709551616) (hb0 : 0 ≤ b) (hb1 : b < 18446744073709551616)
    (hd : dvB s = true) (hz : lowF W b = 0) :
    Calls Tryd.prog 23 #[.agg #[.int .i64 W, .bool S], .string s, .int .u64 a, .int .u64 b] w fun e w' => e = .returned (.tuple #[.int .u64 0, .int .i64 11]) ∧ Below w.heap.size w w' := by
  have ht1 := ht.alloc (.cells #[.int .i64 W, .bool S] 23)
  have HO := Lib.hid ho
  have HD := Lib.hid hd
  have HZ := Lib.hid hz
  clear ho hd hz
  go_enter Tryd.func23, Tryd.ntmps23
  go_wp2_with fail
  refine (right_any _ _ _ ht1).mono ?_
  rintro e w1 ⟨rfl, hq⟩
  have hc0 : w1.cell? ⟨w.heap.size, 0, none⟩ = some (.int .i64 W) := (hq.cell (p := ⟨w.heap.size, 0, none⟩) (by simp)).trans (by simp [go_sem])
  have hc1 : w1.cell? ⟨w.heap.size, 1, none⟩ = some (.bool S) := (hq.cell (p := ⟨w.heap.size, 1, none⟩) (by simp)).trans (by simp [go_sem])
  have hb' := below_box (by simpa using hq)
  have HR := Lib.hid hr
  clear hq ht1
  go_wp2_with fail
  refine (doer_yes _ _ _ _ HR.out HO.out).mono ?_
  rintro e w2 ⟨f, rfl, _, hq⟩
  obtain ⟨hd0, hd1, hb2⟩ := keep2 ⟨hc0, hc1, hb'⟩ hq
  clear hc0 hc1 hq hb'
  go_wp2_with fail
  go_region_held3 (fun w' => w'.cell? ⟨w.heap.size, 0, none⟩ = some (.int .i64 W) ∧ w'.cell? ⟨w.heap.size, 1, none⟩ = some (.bool S) ∧ Below w.heap.size w w') (first | exact ⟨hd0, hd1, hb2.drew⟩ | exact keep2 (by assumption) hq)
      (first | (go_at_call 32; refine (low_any _ _ _ _ HR.out (by assumption) (by assumption)).mono ?_; rintro e w' ⟨rfl, hq⟩))
  rename_i hh
  clear hd0 hd1 hb2
  obtain ⟨hd0, hd1, hb2⟩ := hh
  clear hd0 hd1
  have hz := HZ.out
  go_wp2_with fail
  refine (divides_any _ _).mono ?_
  rintro e w3 ⟨rfl, hq⟩
  have hb3 := hb2.trans (hq.mono hb2.size)
  have hd := HD.out
  clear hq hb2
  go_wp2
  go_ret2
  exact ⟨rfl, hb3⟩
end Go.Proofs.YtpfdbigdkegncaaDoor
