/- The contract of skuaref01's Turn, whole; the law WordTurns: its walk. -/
import Derived.Test.YtpfdbigdkegncaaDoorTb
import Derived.Test.YtpfdbigdkegncaaDoorM
namespace Go.Proofs.YtpfdbigdkegncaaDoor
open Go.RowKit

set_option maxHeartbeats 400000 in
theorem rturn_type (W : Int) (S : Bool) (s : ByteArray) (a : Int) (w : World) (hr : rt W S = false) :
    Calls Tryd.prog 28 #[.agg #[.int .i64 W, .bool S], .string s, .int .u64 a] w fun e w' => e = .returned (.tuple #[.int .u64 0, .int .i64 10]) ∧ Below w.heap.size w w' := by
  go_enter Tryd.func28, Tryd.ntmps28
  go_wp2_with fail
  refine (rright_any _ _ _).mono ?_
  rintro e w1 ⟨rfl, hb⟩
  have hb' := below_box (by simpa using hb)
  clear hb
  go_wp2
  go_ret2
  exact ⟨rfl, hb'⟩

set_option maxHeartbeats 400000 in
theorem rturn_neg (W : Int) (S : Bool) (a : Int) (w : World) (hr : rt W S = true) (hW : 1 < W) (_ha0 : 0 ≤ a) (_ha1 : a < 18446744073709551616) :
    Calls Tryd.prog 28 #[.agg #[.int .i64 W, .bool S], .string ⟨#[45]⟩, .int .u64 a] w fun e w' => e = .returned (.tuple #[.int .u64 (lowF W (IntKind.u64.wrap (-a))), .int .i64 0]) ∧ Below w.heap.size w w' := by
  have hn0 : normF W S (IntKind.u64.wrap (-a)) = lowF W (IntKind.u64.wrap (-a)) := if_pos hr
  have HN := Lib.hid hn0
  clear hn0
  go_enter Tryd.func28, Tryd.ntmps28
  go_wp2_with fail
  refine (rright_any _ _ _).mono ?_
  rintro e w1 ⟨rfl, hb⟩
  have hbx : Below (w.heap.size + 1) (w.alloc (.cells #[.int .i64 W, .bool S] 23)) w1 := by simpa using hb
  obtain ⟨hc0, hc1⟩ := box_cells hbx
  have hb' := below_box hbx
  clear hb hbx
  go_wp2_with fail
  refine (rnorm_any _ _ _ _ (u64_bd _).1 (u64_bd _).2).mono ?_
  rintro e w2 ⟨rfl, hb2⟩
  rw [HN.out]
  clear hc0 hc1
  go_wp2
  go_ret2
  exact ⟨rfl, hb'.trans (hb2.mono hb'.size)⟩

set_option maxHeartbeats 1000000 in
theorem rturn_op (W : Int) (S : Bool) (s : ByteArray) (a : Int) (w : World) (hr : rt W S = true) (ho : trB W s = false) :
    Calls Tryd.prog 28 #[.agg #[.int .i64 W, .bool S], .string s, .int .u64 a] w fun e w' => e = .returned (.tuple #[.int .u64 0, .int .i64 12]) ∧ Below w.heap.size w w' := by
  unfold trB at ho
  by_cases h1 : W = 1
  · rw [if_pos h1] at ho
    have hs : ¬ s = ⟨#[33]⟩ := of_decide_eq_false ho
    have n33 := lst_ne (l := [33]) hs
    have hW : ¬ (1 : Int) < W := by omega
    have hW' : decide ((1 : Int) < W) = false := by simpa using hW
    clear ho hs h1
    by_cases t1 : s = ⟨#[126]⟩
    · subst t1
      go_enter Tryd.func28, Tryd.ntmps28
      go_wp2_with fail
      refine (rright_any _ _ _).mono ?_
      rintro e w1 ⟨rfl, hb⟩
      have hbx : Below (w.heap.size + 1) (w.alloc (.cells #[.int .i64 W, .bool S] 23)) w1 := by simpa using hb
      obtain ⟨hc0, hc1⟩ := box_cells hbx
      have hb' := below_box hbx
      clear hb hbx
      go_wp2
      go_ret2
      exact ⟨rfl, hb'⟩
    have n126 := lst_ne (l := [126]) t1
    clear t1
    by_cases t2 : s = ⟨#[45]⟩
    · subst t2
      go_enter Tryd.func28, Tryd.ntmps28
      go_wp2_with fail
      refine (rright_any _ _ _).mono ?_
      rintro e w1 ⟨rfl, hb⟩
      have hbx : Below (w.heap.size + 1) (w.alloc (.cells #[.int .i64 W, .bool S] 23)) w1 := by simpa using hb
      obtain ⟨hc0, hc1⟩ := box_cells hbx
      have hb' := below_box hbx
      clear hb hbx
      go_wp2
      go_ret2
      exact ⟨rfl, hb'⟩
    have n45 := lst_ne (l := [45]) t2
    clear t2
    go_enter Tryd.func28, Tryd.ntmps28
    go_wp2_with fail
    refine (rright_any _ _ _).mono ?_
    rintro e w1 ⟨rfl, hb⟩
    have hbx : Below (w.heap.size + 1) (w.alloc (.cells #[.int .i64 W, .bool S] 23)) w1 := by simpa using hb
    obtain ⟨hc0, hc1⟩ := box_cells hbx
    have hb' := below_box hbx
    clear hb hbx
    go_wp2
    go_ret2
    exact ⟨rfl, hb'⟩
  · rw [if_neg h1] at ho
    have hs : ¬ (s = ⟨#[45]⟩ ∨ s = ⟨#[126]⟩) := of_decide_eq_false ho
    simp only [not_or] at hs
    have n45 := lst_ne (l := [45]) hs.1
    have n126 := lst_ne (l := [126]) hs.2
    have hW : (W == 1) = false := by simpa using h1
    clear ho hs h1
    by_cases t1 : s = ⟨#[33]⟩
    · subst t1
      go_enter Tryd.func28, Tryd.ntmps28
      go_wp2_with fail
      refine (rright_any _ _ _).mono ?_
      rintro e w1 ⟨rfl, hb⟩
      have hbx : Below (w.heap.size + 1) (w.alloc (.cells #[.int .i64 W, .bool S] 23)) w1 := by simpa using hb
      obtain ⟨hc0, hc1⟩ := box_cells hbx
      have hb' := below_box hbx
      clear hb hbx
      go_wp2
      go_ret2
      exact ⟨rfl, hb'⟩
    have n33 := lst_ne (l := [33]) t1
    clear t1
    go_enter Tryd.func28, Tryd.ntmps28
    go_wp2_with fail
    refine (rright_any _ _ _).mono ?_
    rintro e w1 ⟨rfl, hb⟩
    have hbx : Below (w.heap.size + 1) (w.alloc (.cells #[.int .i64 W, .bool S] 23)) w1 := by simpa using hb
    obtain ⟨hc0, hc1⟩ := box_cells hbx
    have hb' := below_box hbx
    clear hb hbx
    go_wp2
    go_ret2
    exact ⟨rfl, hb'⟩

theorem low_neg {W a : Int} {S : Bool} (hr : rt W S = true) : lowF W (IntKind.u64.wrap (-(lowF W a))) = lowF W (IntKind.u64.wrap (-a)) := by
  rw [low_u hr, low_u hr]
  have := low_cong_sub (a := 0) (c := 0) (W := W) rfl (low_low (v := a) hr)
  simpa using this
theorem low_not {W a : Int} {S : Bool} (hr : rt W S = true) : lowF W (18446744073709551615 - lowF W a) = 2 ^ W.toNat - 1 - lowF W a := by
  unfold lowF
  rcases rt_w hr with rfl | rfl | rfl | rfl | rfl
  · show (18446744073709551615 - a % 2 ^ 1) % 2 ^ 1 = 2 ^ 1 - 1 - a % 2 ^ 1
    omega
  · show (18446744073709551615 - a % 2 ^ 8) % 2 ^ 8 = 2 ^ 8 - 1 - a % 2 ^ 8
    omega
  · show (18446744073709551615 - a % 2 ^ 16) % 2 ^ 16 = 2 ^ 16 - 1 - a % 2 ^ 16
    omega
  · show (18446744073709551615 - a % 2 ^ 32) % 2 ^ 32 = 2 ^ 32 - 1 - a % 2 ^ 32
    omega
  · show (18446744073709551615 - a % 2 ^ 64) % 2 ^ 64 = 2 ^ 64 - 1 - a % 2 ^ 64
    omega
theorem val_flip {W : Int} {n : Nat} (hW : W = n) (a : Int) : valL ((bitsR a n).map (!·)) = 2 ^ W.toNat - 1 - lowF W a := by
  rw [val_not, val_bits, bits_len, hW]
  rfl
theorem rturn_any (W : Int) (S : Bool) (s : ByteArray) (a : Int) (w : World) (ha0 : 0 ≤ a) (ha1 : a < 18446744073709551616) :
    Calls Tryd.prog 28 #[.agg #[.int .i64 W, .bool S], .string s, .int .u64 a] w fun e w' => e = .returned (.tuple #[.int .u64 (turnF W S s a).1, .int .i64 (turnF W S s a).2]) ∧ Below w.heap.size w w' := by
  unfold turnF
  by_cases hr : rt W S = false
  · rw [if_pos hr]
    exact rturn_type W S s a w hr
  rw [if_neg hr]
  have hr' : rt W S = true := by simpa using hr
  by_cases ho : trB W s = false
  · rw [if_pos ho]
    exact rturn_op W S s a w hr' ho
  rw [if_neg ho]
  have ho' : trB W s = true := by simpa using ho
  obtain ⟨n, hW, hn1, hn64⟩ := rt_nat hr'
  unfold trB at ho'
  by_cases h1 : W = 1
  · rw [if_pos h1] at ho'
    have hs : s = ⟨#[33]⟩ := of_decide_eq_true ho'
    subst hs
    have e : lowF W (trF W ⟨#[33]⟩ (lowF W a)) = valL ((bitsR a n).map (!·)) := by
      rw [val_flip hW]
      have : trF W ⟨#[33]⟩ (lowF W a) = IntKind.u64.wrap (1 - lowF W a) := if_pos h1
      rw [this, low_u hr', h1]
      unfold lowF
      show (1 - a % 2 ^ 1) % 2 ^ 1 = 2 ^ 1 - 1 - a % 2 ^ 1
      omega
    rw [e]
    subst hW
    exact rturn_bang n S a w hn1 hn64 hr' (by simpa using h1) ha0 ha1
  · rw [if_neg h1] at ho'
    have hs : s = ⟨#[45]⟩ ∨ s = ⟨#[126]⟩ := of_decide_eq_true ho'
    have hW1 : 1 < W := by have := rt_w hr'; omega
    rcases hs with rfl | rfl
    · have e : trF W ⟨#[45]⟩ (lowF W a) = IntKind.u64.wrap (-(lowF W a)) := if_neg h1
      rw [e, low_neg hr']
      exact rturn_neg W S a w hr' hW1 ha0 ha1
    · have e : trF W ⟨#[126]⟩ (lowF W a) = 18446744073709551615 - lowF W a := if_neg h1
      rw [e, low_not hr', ← val_flip hW]
      subst hW
      exact rturn_not n S a w hn1 hn64 hr' hW1 ha0 ha1

set_option maxHeartbeats 1000000 in
theorem turns_law (W : Int) (S : Bool) (s : ByteArray) (a : Int) (w : World) (ht : Tab w) (ha0 : 0 ≤ a) (ha1 : a < 18446744073709551616) :
    Calls Tryd.prog 7 #[.agg #[.int .i64 W, .bool S], .string s, .int .u64 a] w fun e w' => e = .returned (.bool true) ∧ Below w.heap.size w w' := by
  have H0 := On.start ht W S
  clear ht
  go_enter Tryd.func7, Tryd.ntmps7
  go_wp2_with fail
  refine (turn_any _ _ _ _ _ H0.tab ha0 ha1).mono ?_; rintro e w1 ⟨rfl, hq⟩
  obtain ⟨c0, c1, ht, ho⟩ := H0.step hq
  clear H0 hq
  go_wp2_with fail
  refine (rturn_any _ _ _ _ _ ha0 ha1).mono ?_; rintro e w2 ⟨rfl, hq⟩
  obtain ⟨_, _, ht2, ho2⟩ := On.step ⟨c0, c1, ht, ho⟩ hq
  generalize (turnF W S s a).1 = x
  generalize (turnF W S s a).2 = y
  clear c0 c1 hq ht ho
  go_wp2_with fail
  refine (awake_any _ ht2).mono ?_; rintro e w3 ⟨rfl, hq⟩
  have ho' := ho2.trans (hq.mono ho2.size)
  go_wp2
  go_ret
  exact ⟨rfl, ho'⟩
end Go.Proofs.YtpfdbigdkegncaaDoor
