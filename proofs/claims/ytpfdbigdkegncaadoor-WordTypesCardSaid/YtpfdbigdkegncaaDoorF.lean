/- The contract of word's Do: the value and the error that it returns, for every type, operator and two numbers of 64 bits. -/
import Derived.Test.YtpfdbigdkegncaaDoorE
namespace Go.Proofs.YtpfdbigdkegncaaDoor
open Go.RowKit

theorem reckoner_yes (W : Int) (S : Bool) (s : ByteArray) (w : World) (i : Nat) (f : Value) (h : findR s (.pointer (some ⟨w.heap.size, 0, none⟩)) = some (i, f)) :
    Calls Tryd.prog 45 #[.agg #[.int .i64 W, .bool S], .string s] w fun e w' => e = .returned (.tuple #[f, .bool true]) ∧ Below (w.heap.size + 1) (w.alloc (.cells #[.int .i64 W, .bool S] 23)) w' :=
  (reckoner_any W S s w).mono fun e w' hh => by rw [h] at hh; exact hh
theorem reckoner_no (W : Int) (S : Bool) (s : ByteArray) (w : World) (h : findR s (.pointer (some ⟨w.heap.size, 0, none⟩)) = none) :
    Calls Tryd.prog 45 #[.agg #[.int .i64 W, .bool S], .string s] w fun e w' => e = .returned (.tuple #[.nilFunc, .bool false]) ∧ Below (w.heap.size + 1) (w.alloc (.cells #[.int .i64 W, .bool S] 23)) w' :=
  (reckoner_any W S s w).mono fun e w' hh => by rw [h] at hh; exact hh
theorem joiner_yes (s : ByteArray) (w : World) (i : Nat) (f : Value) (h : findJ s = some (i, f)) :
    Calls Tryd.prog 46 #[.string s] w fun e w' => e = .returned (.tuple #[f, .bool true]) ∧ Below w.heap.size w w' :=
  (joiner_any s w).mono fun e w' hh => by rw [h] at hh; exact hh
theorem joiner_no (s : ByteArray) (w : World) (h : findJ s = none) :
    Calls Tryd.prog 46 #[.string s] w fun e w' => e = .returned (.tuple #[.nilFunc, .bool false]) ∧ Below w.heap.size w w' :=
  (joiner_any s w).mono fun e w' hh => by rw [h] at hh; exact hh

theorem findJ_none {s : ByteArray} : findJ s = none ↔ ¬ (s = ⟨#[38]⟩ ∨ s = ⟨#[124]⟩ ∨ s = ⟨#[94]⟩) := by
  unfold findJ
  constructor
  · intro h
    repeat' split at h
    all_goals simp_all
  · intro h
    simp only [not_or] at h
    rw [if_neg h.1, if_neg h.2.1, if_neg h.2.2]
theorem findR_none {s : ByteArray} {c : Value} : findR s c = none ↔ ¬ (s = ⟨#[43]⟩ ∨ s = ⟨#[45]⟩ ∨ s = ⟨#[42]⟩ ∨ s = ⟨#[47]⟩ ∨ s = ⟨#[37]⟩ ∨ s = ⟨#[60, 60]⟩ ∨ s = ⟨#[62, 62]⟩) := by
  unfold findR
  constructor
  · intro h
    repeat' split at h
    all_goals simp_all
  · intro h
    simp only [not_or] at h
    rw [if_neg h.1, if_neg h.2.1, if_neg h.2.2.1, if_neg h.2.2.2.1, if_neg h.2.2.2.2.1, if_neg h.2.2.2.2.2.1, if_neg h.2.2.2.2.2.2]

def DoerYes (W : Int) (S : Bool) (s : ByteArray) (w : World) (e : Ending) (w' : World) : Prop :=
  ∃ f, e = .returned (.tuple #[f, .bool true]) ∧ IsFn f w' (preF W s) (opF W S s) ∧ Below w.heap.size w w'
def DoerNo (w : World) (e : Ending) (w' : World) : Prop := e = .returned (.tuple #[.nilFunc, .bool false]) ∧ Below w.heap.size w w'

set_option maxHeartbeats 400000 in
theorem doer_R (W : Int) (S : Bool) (s : ByteArray) (w : World) (hr : rt W S = true) (hW : 1 < W) (hn : findR s .nilFunc ≠ none) :
    Calls Tryd.prog 37 #[.agg #[.int .i64 W, .bool S], .string s] w (DoerYes W S s w) := by
  have hn' : findR s (.pointer (some ⟨(w.alloc (.cells #[.int .i64 W, .bool S] 23)).heap.size, 0, none⟩)) ≠ none := fun h => hn (findR_none.2 (findR_none.1 h))
  obtain ⟨⟨i, f⟩, hf⟩ := Option.ne_none_iff_exists'.1 hn'
  have HF := Lib.hid hf
  have HR := Lib.hid hr
  clear hn hn' hf hr
  go_enter Tryd.func37, Tryd.ntmps37
  go_wp2_with fail
  refine (reckoner_yes _ _ _ _ i f HF.out).mono ?_
  rintro e w1 ⟨rfl, hq⟩
  have c0 := (hq.cell (p := ⟨(w.alloc (.cells #[.int .i64 W, .bool S] 23)).heap.size, 0, none⟩) (by simp)).trans (show _ = some (.int .i64 W) by simp [go_sem])
  have c1 := (hq.cell (p := ⟨(w.alloc (.cells #[.int .i64 W, .bool S] 23)).heap.size, 1, none⟩) (by simp)).trans (show _ = some (.bool S) by simp [go_sem])
  have hfn := fn_R (S := S) HR.out HF.out w1 c0 c1
  have hb := below_box ((below_box hq).mono (Nat.le_refl _) |> fun h => by simpa using h)
  clear hq c0 c1
  go_wp2
  go_ret2
  exact ⟨f, rfl, hfn, hb⟩

set_option maxHeartbeats 400000 in
theorem doer_J (W : Int) (S : Bool) (s : ByteArray) (w : World) (hn : findR s .nilFunc = none ∨ ¬ 1 < W) (hj : findJ s ≠ none) :
    Calls Tryd.prog 37 #[.agg #[.int .i64 W, .bool S], .string s] w (DoerYes W S s w) := by
  obtain ⟨⟨i, f⟩, hf⟩ := Option.ne_none_iff_exists'.1 hj
  have HF := Lib.hid hf
  clear hj hf
  by_cases hW : 1 < W
  · have hn' : findR s (.pointer (some ⟨(w.alloc (.cells #[.int .i64 W, .bool S] 23)).heap.size, 0, none⟩)) = none := findR_none.2 (findR_none.1 (hn.resolve_right (fun h => h hW)))
    have HN := Lib.hid hn'
    clear hn hn'
    go_enter Tryd.func37, Tryd.ntmps37
    go_wp2_with fail
    refine (reckoner_no _ _ _ _ HN.out).mono ?_
    rintro e w1 ⟨rfl, hq⟩
    have hb := below_box ((below_box hq).mono (Nat.le_refl _) |> fun h => by simpa using h)
    clear hq
    go_wp2_with fail
    refine (joiner_yes _ _ i f HF.out).mono ?_
    rintro e w2 ⟨rfl, hq⟩
    have hb2 := hb.trans (hq.mono hb.size)
    have hfn := fn_J (W := W) (S := S) HF.out w2
    clear hq hb
    go_wp2
    go_ret2
    exact ⟨f, rfl, hfn, hb2⟩
  · clear hn
    go_enter Tryd.func37, Tryd.ntmps37
    go_wp2_with fail
    refine (joiner_yes _ _ i f HF.out).mono ?_
    rintro e w2 ⟨rfl, hq⟩
    have hb2 := below_box (by simpa using hq)
    have hfn := fn_J (W := W) (S := S) HF.out w2
    clear hq
    go_wp2
    go_ret2
    exact ⟨f, rfl, hfn, hb2⟩

set_option maxHeartbeats 400000 in
theorem doer_no (W : Int) (S : Bool) (s : ByteArray) (w : World) (hn : findR s .nilFunc = none ∨ ¬ 1 < W) (hj : findJ s = none) :
    Calls Tryd.prog 37 #[.agg #[.int .i64 W, .bool S], .string s] w (DoerNo w) := by
  have HF := Lib.hid hj
  clear hj
  by_cases hW : 1 < W
  · have hn' : findR s (.pointer (some ⟨(w.alloc (.cells #[.int .i64 W, .bool S] 23)).heap.size, 0, none⟩)) = none := findR_none.2 (findR_none.1 (hn.resolve_right (fun h => h hW)))
    have HN := Lib.hid hn'
    clear hn hn'
    go_enter Tryd.func37, Tryd.ntmps37
    go_wp2_with fail
    refine (reckoner_no _ _ _ _ HN.out).mono ?_
    rintro e w1 ⟨rfl, hq⟩
    have hb := below_box ((below_box hq).mono (Nat.le_refl _) |> fun h => by simpa using h)
    clear hq
    go_wp2_with fail
    refine (joiner_no _ _ HF.out).mono ?_
    rintro e w2 ⟨rfl, hq⟩
    have hb2 := hb.trans (hq.mono hb.size)
    clear hq hb
    go_wp2
    go_ret2
    exact ⟨rfl, hb2⟩
  · clear hn
    go_enter Tryd.func37, Tryd.ntmps37
    go_wp2_with fail
    refine (joiner_no _ _ HF.out).mono ?_
    rintro e w2 ⟨rfl, hq⟩
    have hb2 := below_box (by simpa using hq)
    clear hq
    go_wp2
    go_ret2
    exact ⟨rfl, hb2⟩

theorem doer_yes (W : Int) (S : Bool) (s : ByteArray) (w : World) (hr : rt W S = true) (ho : opB W s = true) :
    Calls Tryd.prog 37 #[.agg #[.int .i64 W, .bool S], .string s] w (DoerYes W S s w) := by
  by_cases hW : 1 < W
  · by_cases hR : findR s .nilFunc = none
    · refine doer_J W S s w (.inl hR) (fun h => ?_)
      have h1 := findR_none.1 hR
      have h2 := findJ_none.1 h
      simp only [opB, decide_eq_true_eq] at ho
      simp only [not_or] at h1 h2
      simp [h1, h2] at ho
    · exact doer_R W S s w hr hW hR
  · refine doer_J W S s w (.inr hW) (fun h => ?_)
    have h2 := findJ_none.1 h
    simp only [opB, decide_eq_true_eq] at ho
    simp only [not_or] at h2
    simp [h2, hW] at ho
theorem doer_not (W : Int) (S : Bool) (s : ByteArray) (w : World) (ho : opB W s = false) :
    Calls Tryd.prog 37 #[.agg #[.int .i64 W, .bool S], .string s] w (DoerNo w) := by
  simp only [opB, decide_eq_false_iff_not, not_or] at ho
  refine doer_no W S s w ?_ (findJ_none.2 (by simp [ho]))
  by_cases hW : 1 < W
  · exact .inl (findR_none.2 fun h => ho.2.2.2 ⟨hW, h⟩)
  · exact .inr hW
end Go.Proofs.YtpfdbigdkegncaaDoor
