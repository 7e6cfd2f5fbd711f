/- The contracts of word's tester and Test: whether two values are as an operator says, or the error, for every type, operator and two numbers of 64 bits. -/
import Derived.Test.YtpfdbigdkegncaaDoorQ
namespace Go.Proofs.YtpfdbigdkegncaaDoor
open Go.RowKit

def TstYes (W : Int) (S : Bool) (s : ByteArray) (w : World) (e : Ending) (w' : World) : Prop :=
  ∃ f, e = .returned (.tuple #[f, .bool true]) ∧ IsTst f w' (tsF W S s) ∧ Below w.heap.size w w'
def TstNo (w : World) (e : Ending) (w' : World) : Prop := e = .returned (.tuple #[.nilFunc, .bool false]) ∧ Below w.heap.size w w'

theorem below_two {w w' : World} {o o' : Obj} (h : Below (w.heap.size + 2) ((w.alloc o).alloc o') w') : Below w.heap.size w w' :=
  (((Below.refl _ _).alloc (Nat.le_refl _) o).alloc (by simp) o').trans (h.mono (by omega))

set_option maxHeartbeats 400000 in
theorem tester_O (W : Int) (S : Bool) (s : ByteArray) (w : World) (hr : rt W S = true) (hW : 1 < W) (hn : findO s .nilFunc .nilFunc ≠ none) :
    Calls Tryd.prog 42 #[.agg #[.int .i64 W, .bool S], .string s] w (TstYes W S s w) := by
  have hn' : findO s (.func (.func 65) #[] #[.pointer (some ⟨(w.alloc (.cells #[.int .i64 W, .bool S] 23)).heap.size, 0, none⟩)]) (.pointer (some ⟨(w.alloc (.cells #[.int .i64 W, .bool S] 23)).heap.size + 1, 0, none⟩)) ≠ none := fun h => hn (findO_none.2 (findO_none.1 h))
  obtain ⟨⟨i, f⟩, hf⟩ := Option.ne_none_iff_exists'.1 hn'
  have HF := Lib.hid hf
  have HR := Lib.hid hr
  clear hn hn' hf hr
  go_enter Tryd.func42, Tryd.ntmps42
  go_wp2_with fail
  refine (orderer_yes _ _ _ _ i f HF.out).mono ?_
  rintro e w1 ⟨rfl, hq⟩
  have c0 := (hq.cell (p := ⟨(w.alloc (.cells #[.int .i64 W, .bool S] 23)).heap.size, 0, none⟩) (by show (w.alloc (.cells #[.int .i64 W, .bool S] 23)).heap.size < (w.alloc (.cells #[.int .i64 W, .bool S] 23)).heap.size + 2; omega)).trans (cell_old (cell_new _ _ _ 0) _)
  have c1 := (hq.cell (p := ⟨(w.alloc (.cells #[.int .i64 W, .bool S] 23)).heap.size, 1, none⟩) (by show (w.alloc (.cells #[.int .i64 W, .bool S] 23)).heap.size < (w.alloc (.cells #[.int .i64 W, .bool S] 23)).heap.size + 2; omega)).trans (cell_old (cell_new _ _ _ 1) _)
  have c2 : w1.cell? ⟨(w.alloc (.cells #[.int .i64 W, .bool S] 23)).heap.size + 1, 0, none⟩ = some (.func (.func 65) #[] #[.pointer (some ⟨(w.alloc (.cells #[.int .i64 W, .bool S] 23)).heap.size, 0, none⟩)]) := (hq.cell (p := ⟨(w.alloc (.cells #[.int .i64 W, .bool S] 23)).heap.size + 1, 0, none⟩) (by show (w.alloc (.cells #[.int .i64 W, .bool S] 23)).heap.size + 1 < (w.alloc (.cells #[.int .i64 W, .bool S] 23)).heap.size + 2; omega)).trans (by rw [← World.size_alloc (w.alloc (.cells #[.int .i64 W, .bool S] 23)) (.cells #[.int .i64 W, .bool S] 23)]; exact cell_new _ _ _ 0)
  have hfn := tst_O (S := S) HR.out HF.out w1 c0 c1 c2
  have hb := below_two hq
  have hb2 := below_box (by simpa using hb)
  clear hq c0 c1 c2 hb
  go_wp2
  go_ret2
  exact ⟨f, rfl, hfn, hb2⟩

set_option maxHeartbeats 400000 in
theorem tester_T (W : Int) (S : Bool) (s : ByteArray) (w : World) (hn : findO s .nilFunc .nilFunc = none ∨ ¬ 1 < W) :
    Calls Tryd.prog 42 #[.agg #[.int .i64 W, .bool S], .string s] w fun e w' => e = .returned (.tuple #[((findT s).map (·.2)).getD .nilFunc, .bool (findT s).isSome]) ∧ Below w.heap.size w w' := by
  by_cases hW : 1 < W
  · have hn' : findO s (.func (.func 65) #[] #[.pointer (some ⟨(w.alloc (.cells #[.int .i64 W, .bool S] 23)).heap.size, 0, none⟩)]) (.pointer (some ⟨(w.alloc (.cells #[.int .i64 W, .bool S] 23)).heap.size + 1, 0, none⟩)) = none := findO_none.2 (findO_none.1 (hn.resolve_right (fun h => h hW)))
    have HN := Lib.hid hn'
    clear hn hn'
    generalize hx : ((findT s).map (·.2)).getD .nilFunc = x
    generalize hy : (findT s).isSome = y
    have Hx := Lib.hid hx
    have Hy := Lib.hid hy
    clear hx hy
    go_enter Tryd.func42, Tryd.ntmps42
    go_wp2_with fail
    refine (orderer_no _ _ _ _ HN.out).mono ?_
    rintro e w1 ⟨rfl, hq⟩
    have hb := below_two hq
    have hb2 := below_box (by simpa using hb)
    clear hq hb
    have hmm := @run_makeMap Tryd.prog
    have p0 := fun  v => map_put (P := Tryd.prog) Tryd.underlying74 Tryd.underlying9 w1 #[] 0 ⟨#[61, 61]⟩ v rfl
    have p1 := fun v0 v => map_put (P := Tryd.prog) Tryd.underlying74 Tryd.underlying9 w1 #[{ key := .string ⟨#[61, 61]⟩, val := v0, born := 0 }] 1 ⟨#[33, 61]⟩ v rfl
    have g := map_get (P := Tryd.prog) Tryd.underlying74 Tryd.underlying9 w1 #[{ key := .string ⟨#[61, 61]⟩, val := .func (.func 50) #[] #[], born := 0 }, { key := .string ⟨#[33, 61]⟩, val := .func (.func 51) #[] #[], born := 1 }] 2 s .nilFunc (findT s) (by kernel_rfl) (findT_eq s)
    rw [Hx.out, Hy.out] at g
    go_wp2
    go_ret2
    exact ⟨rfl, hb2.alloc hb2.size _⟩
  · clear hn
    have hmm := @run_makeMap Tryd.prog
    have p0 := fun  v => map_put (P := Tryd.prog) Tryd.underlying74 Tryd.underlying9 (w.alloc (.cells #[.int .i64 W, .bool S] 23)) #[] 0 ⟨#[61, 61]⟩ v rfl
    have p1 := fun v0 v => map_put (P := Tryd.prog) Tryd.underlying74 Tryd.underlying9 (w.alloc (.cells #[.int .i64 W, .bool S] 23)) #[{ key := .string ⟨#[61, 61]⟩, val := v0, born := 0 }] 1 ⟨#[33, 61]⟩ v rfl
    simp only [World.size_alloc] at p0 p1
    have g := map_get (P := Tryd.prog) Tryd.underlying74 Tryd.underlying9 (w.alloc (.cells #[.int .i64 W, .bool S] 23)) #[{ key := .string ⟨#[61, 61]⟩, val := .func (.func 50) #[] #[], born := 0 }, { key := .string ⟨#[33, 61]⟩, val := .func (.func 51) #[] #[], born := 1 }] 2 s .nilFunc (findT s) (by kernel_rfl) (findT_eq s)
    simp only [World.size_alloc] at g
    generalize ((findT s).map (·.2)).getD .nilFunc = x at *
    generalize (findT s).isSome = y at *
    go_enter Tryd.func42, Tryd.ntmps42
    go_wp2
    go_ret2
    exact ⟨rfl, ((Below.refl _ _).alloc (Nat.le_refl _) _).alloc (by simp) _⟩

theorem tester_yes (W : Int) (S : Bool) (s : ByteArray) (w : World) (hr : rt W S = true) (ho : tsB W s = true) :
    Calls Tryd.prog 42 #[.agg #[.int .i64 W, .bool S], .string s] w (TstYes W S s w) := by
  have key : (findO s .nilFunc .nilFunc = none ∨ ¬ 1 < W) → findT s ≠ none → Calls Tryd.prog 42 #[.agg #[.int .i64 W, .bool S], .string s] w (TstYes W S s w) := by
    intro h1 h2
    obtain ⟨⟨i, f⟩, hf⟩ := Option.ne_none_iff_exists'.1 h2
    refine (tester_T W S s w h1).mono fun e w' hh => ?_
    rw [hf] at hh
    exact ⟨f, hh.1, tst_T hf w', hh.2⟩
  simp only [tsB, decide_eq_true_eq] at ho
  by_cases hW : 1 < W
  · by_cases hR : findO s .nilFunc .nilFunc = none
    · refine key (.inl hR) (fun h => ?_)
      have h1 := findO_none.1 hR
      have h2 := findT_none.1 h
      simp only [not_or] at h1 h2
      simp [h1, h2] at ho
    · exact tester_O W S s w hr hW hR
  · refine key (.inr hW) (fun h => ?_)
    have h2 := findT_none.1 h
    simp only [not_or] at h2
    simp [h2, hW] at ho
theorem tester_not (W : Int) (S : Bool) (s : ByteArray) (w : World) (ho : tsB W s = false) :
    Calls Tryd.prog 42 #[.agg #[.int .i64 W, .bool S], .string s] w (TstNo w) := by
  simp only [tsB, decide_eq_false_iff_not, not_or] at ho
  refine (tester_T W S s w ?_).mono fun e w' hh => ?_
  · by_cases hW : 1 < W
    · exact .inl (findO_none.2 fun h => ho.2.2 ⟨hW, h⟩)
    · exact .inr hW
  · rw [findT_none.2 (by simp [ho])] at hh
    exact hh

set_option maxHeartbeats 400000 in
theorem test_type (W : Int) (S : Bool) (s : ByteArray) (a b : Int) (w : World) (ht : Tab w) (hr : rt W S = false) :
    Calls Tryd.prog 25 #[.agg #[.int .i64 W, .bool S], .string s, .int .u64 a, .int .u64 b] w fun e w' => e = .returned (.tuple #[.bool false, .int .i64 10]) ∧ Below w.heap.size w w' := by
  have ht1 := ht.alloc (.cells #[.int .i64 W, .bool S] 23)
  go_enter Tryd.func25, Tryd.ntmps25
  go_wp2_with fail
  refine (right_any _ _ _ ht1).mono ?_
  rintro e w1 ⟨rfl, hq⟩
  have hb' := below_box (by simpa using hq)
  clear hq ht1
  go_wp2
  go_ret2
  exact ⟨rfl, hb'⟩

set_option maxHeartbeats 400000 in
theorem test_op (W : Int) (S : Bool) (s : ByteArray) (a b : Int) (w : World) (ht : Tab w) (hr : rt W S = true) (ho : tsB W s = false) :
    Calls Tryd.prog 25 #[.agg #[.int .i64 W, .bool S], .string s, .int .u64 a, .int .u64 b] w fun e w' => e = .returned (.tuple #[.bool false, .int .i64 12]) ∧ Below w.heap.size w w' := by
  have H0 := On.start ht W S
  have HO := Lib.hid ho
  clear ho
  go_enter Tryd.func25, Tryd.ntmps25
  go_wp2_with fail
  refine (right_any _ _ _ H0.tab).mono ?_
  rintro e w1 ⟨rfl, hq⟩
  obtain ⟨hc0, hc1, _, hb'⟩ := H0.step hq
  clear hq H0
  go_wp2_with fail
  refine (tester_not _ _ _ _ HO.out).mono ?_
  rintro e w2 ⟨rfl, hq⟩
  have hb2 := hb'.trans (hq.mono hb'.size)
  clear hc0 hc1 hq hb'
  go_wp2
  go_ret2
  exact ⟨rfl, hb2⟩

set_option maxHeartbeats 1000000 in
theorem test_ok (W : Int) (S : Bool) (s : ByteArray) (a b : Int) (w : World) (ht : Tab w) (hr : rt W S = true) (ho : tsB W s = true) (ha0 : 0 ≤ a) (ha1 : a < 18446744073709551616) (hb0 : 0 ≤ b) (hb1 : b < 18446744073709551616) :
    Calls Tryd.prog 25 #[.agg #[.int .i64 W, .bool S], .string s, .int .u64 a, .int .u64 b] w fun e w' => e = .returned (.tuple #[.bool (tsF W S s (lowF W a) (lowF W b)), .int .i64 0]) ∧ Below w.heap.size w w' := by
  have H0 := On.start ht W S
  have HO := Lib.hid ho
  clear ho
  go_enter Tryd.func25, Tryd.ntmps25
  go_wp2_with fail
  refine (right_any _ _ _ H0.tab).mono ?_
  rintro e w1 ⟨rfl, hq⟩
  obtain ⟨hc0, hc1, _, hb'⟩ := H0.step hq
  have HR := Lib.hid hr
  clear hq H0
  go_wp2_with fail
  refine (tester_yes _ _ _ _ HR.out HO.out).mono ?_
  rintro e w2 ⟨f, rfl, ⟨fid, caps, rfl, hcf, hF⟩, hq⟩
  obtain ⟨hd0, hd1, hb2⟩ := keep2 ⟨hc0, hc1, hb'⟩ hq
  have la := low_lt (v := a) hr
  have lb := low_lt (v := b) hr
  obtain ⟨la0, la1⟩ := la
  obtain ⟨lb0, lb1⟩ := lb
  have HF := Lib.hid (fun w' (h : Below w2.heap.size w2 w') => hF w' h _ _ la0 la1 lb0 lb1)
  clear hc0 hc1 hq hb' hF
  go_wp2_with fail
  go_region_held3 (fun w' => w'.cell? ⟨w.heap.size, 0, none⟩ = some (.int .i64 W) ∧ w'.cell? ⟨w.heap.size, 1, none⟩ = some (.bool S) ∧ Below w2.heap.size w2 w') (first | exact ⟨hd0, hd1, (Below.refl _ _).drew⟩ | exact keep2 (by assumption) hq)
      (first | (go_at_call 32; refine (low_any _ _ _ _ HR.out (by assumption) (by assumption)).mono ?_; rintro e w' ⟨rfl, hq⟩) | (refine (HF.out _ (by first | exact (Below.refl _ _).drew | exact (And.right (And.right (by assumption))))).mono ?_; rintro e w' ⟨rfl, hq⟩))
  rename_i hh
  clear hd0 hd1
  go_wp2
  go_ret2
  exact ⟨rfl, hb2.trans (hh.2.2.mono hb2.size)⟩

/-- What Test answers: whether it is so, and the error's number. -/
def testF (W : Int) (S : Bool) (s : ByteArray) (a b : Int) : Bool × Int :=
  if rt W S = false then (false, 10) else if tsB W s = false then (false, 12) else (tsF W S s (lowF W a) (lowF W b), 0)
theorem test_any (W : Int) (S : Bool) (s : ByteArray) (a b : Int) (w : World) (ht : Tab w) (ha0 : 0 ≤ a) (ha1 : a < 18446744073709551616) (hb0 : 0 ≤ b) (hb1 : b < 18446744073709551616) :
    Calls Tryd.prog 25 #[.agg #[.int .i64 W, .bool S], .string s, .int .u64 a, .int .u64 b] w fun e w' => e = .returned (.tuple #[.bool (testF W S s a b).1, .int .i64 (testF W S s a b).2]) ∧ Below w.heap.size w w' := by
  unfold testF
  by_cases hr : rt W S = false
  · rw [if_pos hr]
    exact test_type W S s a b w ht hr
  rw [if_neg hr]
  have hr' : rt W S = true := by simpa using hr
  by_cases ho : tsB W s = false
  · rw [if_pos ho]
    exact test_op W S s a b w ht hr' ho
  rw [if_neg ho]
  exact test_ok W S s a b w ht hr' (by simpa using ho) ha0 ha1 hb0 hb1
end Go.Proofs.YtpfdbigdkegncaaDoor
