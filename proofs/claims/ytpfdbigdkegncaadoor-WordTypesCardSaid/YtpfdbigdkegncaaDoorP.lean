/- The law WordSigns: its walk. -/
import Derived.Test.YtpfdbigdkegncaaDoorN
namespace Go.Proofs.YtpfdbigdkegncaaDoor
open Go.RowKit

/-- Cells that read so, and still do where old memory is as it was. -/
def Cs (l : List (Addr × Value)) (w : World) : Prop := ∀ x ∈ l, w.cell? x.1 = some x.2
theorem Cs.step {l : List (Addr × Value)} {w w' : World} (h : Cs l w) (hq : Below w.heap.size w w') : Cs l w' := fun x hx => (hq.cell (cell_lt (h x hx))).trans (h x hx)

theorem lst_ne {s : ByteArray} {l : List UInt8} (h : s ≠ ⟨l.toArray⟩) : (s.toList == l) = false := by
  have := bytes_list h
  rwa [ByteArray.toList_eq (⟨l.toArray⟩ : ByteArray)] at this

set_option maxHeartbeats 1000000 in
theorem signs_type1 (W : Int) (s : ByteArray) (a b : Int) (w : World) (ht : Tab w) (hr : rt W false = false) :
    Calls Tryd.prog 10 #[.int .i64 W, .string s, .agg #[.int .u64 a, .int .u64 b]] w fun e w' => e = .returned (.bool true) ∧ Below w.heap.size w w' := by
  have ht1 := ((ht.alloc (.cells #[.int .u64 a, .int .u64 b] 34)).alloc (.cells #[.int .i64 W, .bool false] 23)).alloc (.cells #[.int .i64 W, .bool true] 23)
  have ho : Below w.heap.size w (((w.alloc (.cells #[.int .u64 a, .int .u64 b] 34)).alloc (.cells #[.int .i64 W, .bool false] 23)).alloc (.cells #[.int .i64 W, .bool true] 23)) :=
    (((Below.refl _ _).alloc (Nat.le_refl _) _).alloc (by simp) _).alloc (by simp; omega) _
  go_enter Tryd.func10, Tryd.ntmps10
  go_wp2_with fail
  refine (right_any _ _ _ ht1).mono ?_; rintro e w1 ⟨rfl, hq⟩
  have ht2 := ht1.below hq
  have ho2 := ho.trans (hq.mono ho.size)
  clear ht1 ho hq
  go_wp2_with fail
  refine (awake_any _ ht2).mono ?_; rintro e w3 ⟨rfl, hq⟩
  have ho' := ho2.trans (hq.mono ho2.size)
  go_wp2
  go_ret
  exact ⟨rfl, ho'⟩

/-- The law's three boxes. -/
def sgL (w : World) (W a b : Int) : List (Addr × Value) :=
  [(⟨w.heap.size, 0, none⟩, .int .u64 a), (⟨w.heap.size, 1, none⟩, .int .u64 b), (⟨w.heap.size + 1, 0, none⟩, .int .i64 W), (⟨w.heap.size + 1, 1, none⟩, .bool false), (⟨w.heap.size + 1 + 1, 0, none⟩, .int .i64 W), (⟨w.heap.size + 1 + 1, 1, none⟩, .bool true)]
def sgW (w : World) (W a b : Int) : World := ((w.alloc (.cells #[.int .u64 a, .int .u64 b] 34)).alloc (.cells #[.int .i64 W, .bool false] 23)).alloc (.cells #[.int .i64 W, .bool true] 23)
theorem cell_new (w : World) (c : Array Value) (t : TypeId) (i : Nat) : (w.alloc (.cells c t)).cell? ⟨w.heap.size, i, none⟩ = c[i]? := by
  unfold World.cell?
  rw [heap_last]
  rfl
theorem cell_old {w : World} {p : Addr} {v : Value} (h : w.cell? p = some v) (o : Obj) : (w.alloc o).cell? p = some v :=
  (((Below.refl w.heap.size w).alloc (Nat.le_refl _) o).cell (cell_lt h)).trans h
theorem sg_start (w : World) (W a b : Int) : Cs (sgL w W a b) (sgW w W a b) := by
  have s1 := World.size_alloc w (.cells #[.int .u64 a, .int .u64 b] 34)
  have s2 := World.size_alloc (w.alloc (.cells #[.int .u64 a, .int .u64 b] 34)) (.cells #[.int .i64 W, .bool false] 23)
  rw [s1] at s2
  intro x hx
  simp only [sgL, List.mem_cons, List.not_mem_nil, or_false] at hx
  rcases hx with rfl | rfl | rfl | rfl | rfl | rfl
  · exact cell_old (cell_old (cell_new w _ _ 0) _) _
  · exact cell_old (cell_old (cell_new w _ _ 1) _) _
  · rw [← s1]; exact cell_old (cell_new _ _ _ 0) _
  · rw [← s1]; exact cell_old (cell_new _ _ _ 1) _
  · rw [← s2]; exact cell_new _ _ _ 0
  · rw [← s2]; exact cell_new _ _ _ 1
theorem sg_old (w : World) (W a b : Int) : Below w.heap.size w (sgW w W a b) :=
  (((Below.refl _ _).alloc (Nat.le_refl _) _).alloc (by simp) _).alloc (by simp; omega) _
theorem sg_tab {w : World} (h : Tab w) (W a b : Int) : Tab (sgW w W a b) := ((h.alloc _).alloc _).alloc _

set_option maxHeartbeats 1000000 in
theorem signs_type2 (W : Int) (s : ByteArray) (a b : Int) (w : World) (ht : Tab w) (hr : rt W false = true) (hr2 : rt W true = false) :
    Calls Tryd.prog 10 #[.int .i64 W, .string s, .agg #[.int .u64 a, .int .u64 b]] w fun e w' => e = .returned (.bool true) ∧ Below w.heap.size w w' := by
  have k0 := sg_start w W a b
  have ht1 := sg_tab ht W a b
  have ho := sg_old w W a b
  go_enter Tryd.func10, Tryd.ntmps10
  go_wp2_with fail
  refine (right_any _ _ _ ht1).mono ?_; rintro e w1 ⟨rfl, hq⟩
  have k1 := k0.step hq
  have ht2 := ht1.below hq
  have ho2 := ho.trans (hq.mono ho.size)
  have e0 : w1.cell? ⟨w.heap.size + 1 + 1, 0, none⟩ = some (.int .i64 W) := k1 (_, _) (by simp [sgL])
  have e1 : w1.cell? ⟨w.heap.size + 1 + 1, 1, none⟩ = some (.bool true) := k1 (_, _) (by simp [sgL])
  clear ht1 ho hq k0 k1
  go_wp2_with fail
  refine (right_any _ _ _ ht2).mono ?_; rintro e w2 ⟨rfl, hq⟩
  have ht3 := ht2.below hq
  have ho3 := ho2.trans (hq.mono ho2.size)
  clear ht2 ho2 hq e0 e1
  go_wp2_with fail
  refine (awake_any _ ht3).mono ?_; rintro e w3 ⟨rfl, hq⟩
  have ho' := ho3.trans (hq.mono ho3.size)
  go_wp2
  go_ret
  exact ⟨rfl, ho'⟩

def sgS (s : ByteArray) : Prop := s = ⟨#[43]⟩ ∨ s = ⟨#[45]⟩ ∨ s = ⟨#[42]⟩ ∨ s = ⟨#[38]⟩ ∨ s = ⟨#[124]⟩ ∨ s = ⟨#[94]⟩ ∨ s = ⟨#[60, 60]⟩

set_option maxHeartbeats 1000000 in
theorem signs_other (W : Int) (s : ByteArray) (a b : Int) (w : World) (ht : Tab w) (hr : rt W false = true) (hr2 : rt W true = true) (hs : ¬ sgS s) :
    Calls Tryd.prog 10 #[.int .i64 W, .string s, .agg #[.int .u64 a, .int .u64 b]] w fun e w' => e = .returned (.bool true) ∧ Below w.heap.size w w' := by
  have k0 := sg_start w W a b
  have ht1 := sg_tab ht W a b
  have ho := sg_old w W a b
  simp only [sgS, not_or] at hs
  obtain ⟨n0, n1, n2, n3, n4, n5, n6⟩ := hs
  have m0 := lst_ne (l := [43]) n0
  have m1 := lst_ne (l := [45]) n1
  have m2 := lst_ne (l := [42]) n2
  have m3 := lst_ne (l := [38]) n3
  have m4 := lst_ne (l := [124]) n4
  have m5 := lst_ne (l := [94]) n5
  have m6 := lst_ne (l := [60, 60]) n6
  clear n0 n1 n2 n3 n4 n5 n6
  go_enter Tryd.func10, Tryd.ntmps10
  go_wp2_with fail
  refine (right_any _ _ _ ht1).mono ?_; rintro e w1 ⟨rfl, hq⟩
  have k1 := k0.step hq
  have ht2 := ht1.below hq
  have ho2 := ho.trans (hq.mono ho.size)
  have e0 : w1.cell? ⟨w.heap.size + 1 + 1, 0, none⟩ = some (.int .i64 W) := k1 (_, _) (by simp [sgL])
  have e1 : w1.cell? ⟨w.heap.size + 1 + 1, 1, none⟩ = some (.bool true) := k1 (_, _) (by simp [sgL])
  clear ht1 ho hq k0 k1
  go_wp2_with fail
  refine (right_any _ _ _ ht2).mono ?_; rintro e w2 ⟨rfl, hq⟩
  have ht3 := ht2.below hq
  have ho3 := ho2.trans (hq.mono ho2.size)
  clear ht2 ho2 hq e0 e1
  go_wp2_with fail
  refine (awake_any _ ht3).mono ?_; rintro e w3 ⟨rfl, hq⟩
  have ho' := ho3.trans (hq.mono ho3.size)
  go_wp2
  go_ret
  exact ⟨rfl, ho'⟩

theorem signs_math {W : Int} {s : ByteArray} {a b : Int} (hr : rt W false = true) (hr2 : rt W true = true) (hs : sgS s) :
    ∃ r, doF W false s a b = (r, 0) ∧ doF W true s a b = (r, 0) := by
  have hW : 1 < W := by
    rcases rt_cases hr2 with ⟨_, h⟩ | h
    · cases h
    · omega
  have ho : opB W s = true := by
    simp only [opB, decide_eq_true_eq]
    rcases hs with h | h | h | h | h | h | h <;> simp [h, hW]
  have hd : ¬ dvB s = true := by
    rcases hs with rfl | rfl | rfl | rfl | rfl | rfl | rfl <;> decide
  refine ⟨_, doF_ok hr ho (fun h => absurd h hd), ?_⟩
  rw [doF_ok hr2 ho (fun h => absurd h hd)]
  have e : opF W true s (lowF W a) (lowF W b) = opF W false s (lowF W a) (lowF W b) := by
    rcases hs with rfl | rfl | rfl | rfl | rfl | rfl | rfl <;> rfl
  rw [e]

set_option maxHeartbeats 2000000 in
theorem signs_ok (W : Int) (s : ByteArray) (a b : Int) (w : World) (ht : Tab w) (ha0 : 0 ≤ a) (ha1 : a < 18446744073709551616) (hb0 : 0 ≤ b) (hb1 : b < 18446744073709551616) (hr : rt W false = true) (hr2 : rt W true = true) (hs : sgS s) :
    Calls Tryd.prog 10 #[.int .i64 W, .string s, .agg #[.int .u64 a, .int .u64 b]] w fun e w' => e = .returned (.bool true) ∧ Below w.heap.size w w' := by
  obtain ⟨r, h1, h2⟩ := signs_math (a := a) (b := b) hr hr2 hs
  have k0 := sg_start w W a b
  have ht1 := sg_tab ht W a b
  have ho := sg_old w W a b
  have H1 := Lib.hid h1
  have H2 := Lib.hid h2
  clear h1 h2 ht
  rcases hs with rfl | rfl | rfl | rfl | rfl | rfl | rfl
  all_goals
    go_enter Tryd.func10, Tryd.ntmps10
    go_wp2_with fail
    refine (right_any _ _ _ ht1).mono ?_; rintro e w1 ⟨rfl, hq⟩
    have k1 := k0.step hq
    have ht2 := ht1.below hq
    have ho2 := ho.trans (hq.mono ho.size)
    have e0 : w1.cell? ⟨w.heap.size + 1 + 1, 0, none⟩ = some (.int .i64 W) := k1 (_, _) (by simp [sgL])
    have e1 : w1.cell? ⟨w.heap.size + 1 + 1, 1, none⟩ = some (.bool true) := k1 (_, _) (by simp [sgL])
    clear ht1 ho hq k0
    go_wp2_with fail
    refine (right_any _ _ _ ht2).mono ?_; rintro e w2 ⟨rfl, hq⟩
    have ht3 := ht2.below hq
    have ho3 := ho2.trans (hq.mono ho2.size)
    have k2 := k1.step hq
    have f0 : w2.cell? ⟨w.heap.size, 0, none⟩ = some (.int .u64 a) := k2 (_, _) (by simp [sgL])
    have f1 : w2.cell? ⟨w.heap.size, 1, none⟩ = some (.int .u64 b) := k2 (_, _) (by simp [sgL])
    have f2 : w2.cell? ⟨w.heap.size + 1, 0, none⟩ = some (.int .i64 W) := k2 (_, _) (by simp [sgL])
    have f3 : w2.cell? ⟨w.heap.size + 1, 1, none⟩ = some (.bool false) := k2 (_, _) (by simp [sgL])
    clear ht2 ho2 hq e0 e1 k1
    go_wp2_with fail
    refine (do_c H1.out _ ht3 ha0 ha1 hb0 hb1).mono ?_; rintro e w3 ⟨rfl, hq⟩
    have ht4 := ht3.below hq
    have ho4 := ho3.trans (hq.mono ho3.size)
    have k3 := k2.step hq
    clear f0 f1 f2 f3
    have f0 : w3.cell? ⟨w.heap.size, 0, none⟩ = some (.int .u64 a) := k3 (_, _) (by simp [sgL])
    have f1 : w3.cell? ⟨w.heap.size, 1, none⟩ = some (.int .u64 b) := k3 (_, _) (by simp [sgL])
    have f2 : w3.cell? ⟨w.heap.size + 1 + 1, 0, none⟩ = some (.int .i64 W) := k3 (_, _) (by simp [sgL])
    have f3 : w3.cell? ⟨w.heap.size + 1 + 1, 1, none⟩ = some (.bool true) := k3 (_, _) (by simp [sgL])
    clear ht3 ho3 hq k2
    go_wp2_with fail
    refine (do_c H2.out _ ht4 ha0 ha1 hb0 hb1).mono ?_; rintro e w4 ⟨rfl, hq⟩
    have ht5 := ht4.below hq
    have ho5 := ho4.trans (hq.mono ho4.size)
    clear f0 f1 f2 f3 ht4 ho4 hq k3
    go_wp2_with fail
    refine (awake_any _ ht5).mono ?_; rintro e w5 ⟨rfl, hq⟩
    have ho' := ho5.trans (hq.mono ho5.size)
    go_wp2
    go_ret
    exact ⟨rfl, ho'⟩

theorem signs_law (W : Int) (s : ByteArray) (a b : Int) (w : World) (ht : Tab w) (ha0 : 0 ≤ a) (ha1 : a < 18446744073709551616) (hb0 : 0 ≤ b) (hb1 : b < 18446744073709551616) :
    Calls Tryd.prog 10 #[.int .i64 W, .string s, .agg #[.int .u64 a, .int .u64 b]] w fun e w' => e = .returned (.bool true) ∧ Below w.heap.size w w' := by
  by_cases hr : rt W false = true
  · by_cases hr2 : rt W true = true
    · by_cases hs : sgS s
      · exact signs_ok W s a b w ht ha0 ha1 hb0 hb1 hr hr2 hs
      · exact signs_other W s a b w ht hr hr2 hs
    · exact signs_type2 W s a b w ht hr (by simpa using hr2)
  · exact signs_type1 W s a b w ht (by simpa using hr)
end Go.Proofs.YtpfdbigdkegncaaDoor
