/- The law WordOrder: its walk. -/
import Derived.Test.YtpfdbigdkegncaaDoorR
namespace Go.Proofs.YtpfdbigdkegncaaDoor
open Go.RowKit

theorem test_c {W : Int} {S : Bool} {s : ByteArray} {a b q : Int} {r : Bool} (h : testF W S s a b = (r, q)) (w : World) (ht : Tab w) (ha0 : 0 ≤ a) (ha1 : a < 18446744073709551616) (hb0 : 0 ≤ b) (hb1 : b < 18446744073709551616) :
    Calls Tryd.prog 25 #[.agg #[.int .i64 W, .bool S], .string s, .int .u64 a, .int .u64 b] w fun e w' => e = .returned (.tuple #[.bool r, .int .i64 q]) ∧ Below w.heap.size w w' := by
  have := test_any W S s a b w ht ha0 ha1 hb0 hb1
  rw [h] at this
  exact this

def orL (w : World) (W : Int) (S : Bool) (a b c : Int) : List (Addr × Value) :=
  [(⟨w.heap.size, 0, none⟩, .int .i64 W), (⟨w.heap.size, 1, none⟩, .bool S), (⟨w.heap.size + 1, 0, none⟩, .int .u64 a), (⟨w.heap.size + 1, 1, none⟩, .int .u64 b), (⟨w.heap.size + 1, 2, none⟩, .int .u64 c)]
def orW (w : World) (W : Int) (S : Bool) (a b c : Int) : World := (w.alloc (.cells #[.int .i64 W, .bool S] 23)).alloc (.cells #[.int .u64 a, .int .u64 b, .int .u64 c] 48)
theorem or_start (w : World) (W : Int) (S : Bool) (a b c : Int) : Cs (orL w W S a b c) (orW w W S a b c) := by
  have s1 := World.size_alloc w (.cells #[.int .i64 W, .bool S] 23)
  intro x hx
  simp only [orL, List.mem_cons, List.not_mem_nil, or_false] at hx
  rcases hx with rfl | rfl | rfl | rfl | rfl
  · exact cell_old (cell_new w _ _ 0) _
  · exact cell_old (cell_new w _ _ 1) _
  · rw [← s1]; exact cell_new _ _ _ 0
  · rw [← s1]; exact cell_new _ _ _ 1
  · rw [← s1]; exact cell_new _ _ _ 2
theorem or_old (w : World) (W : Int) (S : Bool) (a b c : Int) : Below w.heap.size w (orW w W S a b c) := ((Below.refl _ _).alloc (Nat.le_refl _) _).alloc (by simp) _
theorem or_tab {w : World} (h : Tab w) (W : Int) (S : Bool) (a b c : Int) : Tab (orW w W S a b c) := (h.alloc _).alloc _
/-- The law's world on the way. -/
structure Or (w0 : World) (W : Int) (S : Bool) (a b c : Int) (w : World) : Prop where
  cs : Cs (orL w0 W S a b c) w
  tab : Tab w
  old : Below w0.heap.size w0 w
theorem Or.step {w0 w w' : World} {W : Int} {S : Bool} {a b c : Int} (h : Or w0 W S a b c w) (hq : Below w.heap.size w w') : Or w0 W S a b c w' := ⟨h.cs.step hq, h.tab.below hq, h.old.trans (hq.mono h.old.size)⟩
theorem Or.t0 {w0 w : World} {W : Int} {S : Bool} {a b c : Int} (h : Or w0 W S a b c w) : w.cell? ⟨w0.heap.size, 0, none⟩ = some (.int .i64 W) := h.cs (_, _) (by simp [orL])
theorem Or.t1 {w0 w : World} {W : Int} {S : Bool} {a b c : Int} (h : Or w0 W S a b c w) : w.cell? ⟨w0.heap.size, 1, none⟩ = some (.bool S) := h.cs (_, _) (by simp [orL])
theorem Or.q0 {w0 w : World} {W : Int} {S : Bool} {a b c : Int} (h : Or w0 W S a b c w) : w.cell? ⟨w0.heap.size + 1, 0, none⟩ = some (.int .u64 a) := h.cs (_, _) (by simp [orL])
theorem Or.q1 {w0 w : World} {W : Int} {S : Bool} {a b c : Int} (h : Or w0 W S a b c w) : w.cell? ⟨w0.heap.size + 1, 1, none⟩ = some (.int .u64 b) := h.cs (_, _) (by simp [orL])
theorem Or.q2 {w0 w : World} {W : Int} {S : Bool} {a b c : Int} (h : Or w0 W S a b c w) : w.cell? ⟨w0.heap.size + 1, 2, none⟩ = some (.int .u64 c) := h.cs (_, _) (by simp [orL])

set_option maxHeartbeats 2000000 in
theorem order_walk (W : Int) (S : Bool) (a b c : Int) (w : World) (ht : Tab w) (ha0 : 0 ≤ a) (ha1 : a < 18446744073709551616) (hb0 : 0 ≤ b) (hb1 : b < 18446744073709551616) (hc0 : 0 ≤ c) (hc1 : c < 18446744073709551616)
    (r1 r2 r3 r4 r5 : Bool) (e1 e2 e3 e4 e5 : Int) (h1 : testF W S ⟨#[60]⟩ a b = (r1, e1)) (h2 : testF W S ⟨#[61, 61]⟩ a b = (r2, e2)) (h3 : testF W S ⟨#[62]⟩ a b = (r3, e3)) (h4 : testF W S ⟨#[60]⟩ b c = (r4, e4)) (h5 : testF W S ⟨#[60]⟩ a c = (r5, e5))
    (hh : (e1 = 10 ∧ e3 = 10 ∧ e4 = 10 ∧ e5 = 10) ∨ (e1 = 12 ∧ e3 = 12 ∧ e4 = 12 ∧ e5 = 12) ∨
      ((e1 = 0 ∧ e2 = 0 ∧ e3 = 0 ∧ e4 = 0 ∧ e5 = 0) ∧ ((r1 = true ∧ r2 = false ∧ r3 = false ∧ r4 = false) ∨ (r1 = true ∧ r2 = false ∧ r3 = false ∧ r4 = true ∧ r5 = true) ∨ (r1 = false ∧ r2 = true ∧ r3 = false) ∨ (r1 = false ∧ r2 = false ∧ r3 = true)))) :
    Calls Tryd.prog 12 #[.agg #[.int .i64 W, .bool S], .agg #[.int .u64 a, .int .u64 b, .int .u64 c]] w fun e w' => e = .returned (.bool true) ∧ Below w.heap.size w w' := by
  have K0 : Or w W S a b c (orW w W S a b c) := ⟨or_start w W S a b c, or_tab ht W S a b c, or_old w W S a b c⟩
  have H1 := Lib.hid h1
  have H2 := Lib.hid h2
  have H3 := Lib.hid h3
  have H4 := Lib.hid h4
  have H5 := Lib.hid h5
  clear h1 h2 h3 h4 h5 ht
  rcases hh with ⟨rfl, rfl, rfl, rfl⟩ | ⟨rfl, rfl, rfl, rfl⟩ | ⟨⟨rfl, rfl, rfl, rfl, rfl⟩, ⟨rfl, rfl, rfl, rfl⟩ | ⟨rfl, rfl, rfl, rfl, rfl⟩ | ⟨rfl, rfl, rfl⟩ | ⟨rfl, rfl, rfl⟩⟩
  all_goals
    go_enter Tryd.func12, Tryd.ntmps12
    go_wp2_with fail
    refine (test_c H1.out _ K0.tab ha0 ha1 hb0 hb1).mono ?_; rintro e w1 ⟨rfl, hq⟩
    have K1 := K0.step hq
    have t0 := K1.t0; have t1 := K1.t1; have q0 := K1.q0; have q1 := K1.q1
    clear K0 hq
    go_wp2_with fail
    refine (test_c H2.out _ K1.tab ha0 ha1 hb0 hb1).mono ?_; rintro e w2 ⟨rfl, hq⟩
    clear t0 t1 q0 q1
    have K2 := K1.step hq
    have t0 := K2.t0; have t1 := K2.t1; have q0 := K2.q0; have q1 := K2.q1
    clear K1 hq
    go_wp2_with fail
    refine (test_c H3.out _ K2.tab ha0 ha1 hb0 hb1).mono ?_; rintro e w3 ⟨rfl, hq⟩
    clear t0 t1 q0 q1
    have K3 := K2.step hq
    have t0 := K3.t0; have t1 := K3.t1; have q0 := K3.q1; have q1 := K3.q2
    clear K2 hq
    go_wp2_with fail
    refine (test_c H4.out _ K3.tab hb0 hb1 hc0 hc1).mono ?_; rintro e w4 ⟨rfl, hq⟩
    clear t0 t1 q0 q1
    have K4 := K3.step hq
    have t0 := K4.t0; have t1 := K4.t1; have q0 := K4.q0; have q1 := K4.q2
    clear K3 hq
    go_wp2_with fail
    refine (test_c H5.out _ K4.tab ha0 ha1 hc0 hc1).mono ?_; rintro e w5 ⟨rfl, hq⟩
    clear t0 t1 q0 q1
    have K5 := K4.step hq
    clear K4 hq
    go_wp2_with fail
    refine (awake_any _ K5.tab).mono ?_; rintro e w6 ⟨rfl, hq⟩
    have ho' := K5.old.trans (hq.mono K5.old.size)
    clear K5 hq
    go_wp2
    go_ret
    exact ⟨rfl, ho'⟩

theorem less_tri (W : Int) (S : Bool) (x y : Int) (hr : rt W S = true) (hx : lowF W x = x) (hy : lowF W y = y) : (lessF W S x y = true ∧ (x == y) = false ∧ lessF W S y x = false) ∨ (lessF W S x y = false ∧ (x == y) = true ∧ lessF W S y x = false) ∨ (lessF W S x y = false ∧ (x == y) = false ∧ lessF W S y x = true) := by
  cases S
  · have e : ∀ u v, lessF W false u v = decide (u < v) := fun _ _ => rfl
    simp only [e, decide_eq_true_eq, decide_eq_false_iff_not, beq_iff_eq, beq_eq_false_iff_ne]
    omega
  · have e : ∀ u v, lessF W true u v = decide (stF W true u < stF W true v) := fun _ _ => rfl
    have inj : stF W true x = stF W true y → x = y := fun h => by rw [← hx, ← hy, ← low_st (v := x), ← low_st (v := y), h]
    simp only [e, decide_eq_true_eq, decide_eq_false_iff_not, beq_iff_eq, beq_eq_false_iff_ne]
    by_cases hxy : x = y
    · subst hxy; omega
    · have : stF W true x ≠ stF W true y := fun h => hxy (inj h)
      omega
theorem less_trans (W : Int) (S : Bool) (x y z : Int) (h1 : lessF W S x y = true) (h2 : lessF W S y z = true) : lessF W S x z = true := by
  cases S
  · have e : ∀ u v, lessF W false u v = decide (u < v) := fun _ _ => rfl
    simp only [e, decide_eq_true_eq] at *
    omega
  · have e : ∀ u v, lessF W true u v = decide (stF W true u < stF W true v) := fun _ _ => rfl
    simp only [e, decide_eq_true_eq] at *
    omega

theorem order_law (W : Int) (S : Bool) (a b c : Int) (w : World) (ht : Tab w) (ha0 : 0 ≤ a) (ha1 : a < 18446744073709551616) (hb0 : 0 ≤ b) (hb1 : b < 18446744073709551616) (hc0 : 0 ≤ c) (hc1 : c < 18446744073709551616) :
    Calls Tryd.prog 12 #[.agg #[.int .i64 W, .bool S], .agg #[.int .u64 a, .int .u64 b, .int .u64 c]] w fun e w' => e = .returned (.bool true) ∧ Below w.heap.size w w' := by
  refine order_walk W S a b c w ht ha0 ha1 hb0 hb1 hc0 hc1 (testF W S ⟨#[60]⟩ a b).1 (testF W S ⟨#[61, 61]⟩ a b).1 (testF W S ⟨#[62]⟩ a b).1 (testF W S ⟨#[60]⟩ b c).1 (testF W S ⟨#[60]⟩ a c).1 (testF W S ⟨#[60]⟩ a b).2 (testF W S ⟨#[61, 61]⟩ a b).2 (testF W S ⟨#[62]⟩ a b).2 (testF W S ⟨#[60]⟩ b c).2 (testF W S ⟨#[60]⟩ a c).2 rfl rfl rfl rfl rfl ?_
  by_cases hr : rt W S = false
  · left
    simp [testF, hr]
  have hr' : rt W S = true := by simpa using hr
  right
  by_cases hW : 1 < W
  · right
    have o1 : tsB W ⟨#[60]⟩ = true := by simp [tsB, hW]
    have o2 : tsB W ⟨#[61, 61]⟩ = true := by simp [tsB]
    have o3 : tsB W ⟨#[62]⟩ = true := by simp [tsB, hW]
    have t1 : ∀ x y, testF W S ⟨#[60]⟩ x y = (lessF W S (lowF W x) (lowF W y), 0) := fun x y => by simp [testF, hr', o1]; rfl
    have t2 : testF W S ⟨#[61, 61]⟩ a b = (lowF W a == lowF W b, 0) := by simp [testF, hr', o2]; rfl
    have t3 : testF W S ⟨#[62]⟩ a b = (lessF W S (lowF W b) (lowF W a), 0) := by simp [testF, hr', o3]; rfl
    refine ⟨by simp [t1, t2, t3], ?_⟩
    simp only [t1, t2, t3]
    rcases less_tri W S (lowF W a) (lowF W b) hr' (low_low hr') (low_low hr') with ⟨h1, h2, h3⟩ | ⟨h1, h2, h3⟩ | ⟨h1, h2, h3⟩
    · cases h4 : lessF W S (lowF W b) (lowF W c)
      · exact .inl ⟨h1, h2, h3, rfl⟩
      · exact .inr (.inl ⟨h1, h2, h3, rfl, less_trans W S _ _ _ h1 h4⟩)
    · exact .inr (.inr (.inl ⟨h1, h2, h3⟩))
    · exact .inr (.inr (.inr ⟨h1, h2, h3⟩))
  · left
    have o1 : tsB W ⟨#[60]⟩ = false := by simp [tsB, hW]
    have o3 : tsB W ⟨#[62]⟩ = false := by simp [tsB, hW]
    simp [testF, hr', o1, o3]
end Go.Proofs.YtpfdbigdkegncaaDoor
