/- The contract of the reader's skip. -/
import Derived.Test.YtilfganjpgkjdaaDoorLk
namespace Go.Proofs.YtilfganjpgkjdaaDoor
open Go Go.RowKit

theorem gap_nil : gapL [] = 0 := rfl
theorem skip_fuel (n m : Nat) (l : List UInt8) (ln c : Int) (hn : l.length ≤ n) (hm : l.length ≤ m) : skipF n l ln c = skipF m l ln c := by
  induction n generalizing m l ln c with
  | zero =>
    obtain rfl : l = [] := List.length_eq_zero_iff.mp (by omega)
    cases m with
    | zero => rfl
    | succ m => rw [skipF, skipF, if_pos gap_nil]
  | succ n ih =>
    cases m with
    | zero =>
      obtain rfl : l = [] := List.length_eq_zero_iff.mp (by omega)
      rw [skipF, skipF, if_pos gap_nil]
    | succ m =>
      rw [skipF, skipF]
      by_cases h : gapL l = 0
      · rw [if_pos h, if_pos h]
      · rw [if_neg h, if_neg h]
        exact ih _ _ _ _ (by rw [List.length_drop]; omega) (by rw [List.length_drop]; omega)
def skipL (l : List UInt8) (ln c : Int) : List UInt8 × Int × Int := skipF l.length l ln c
theorem skip_stop {l : List UInt8} {ln c : Int} (h : gapL l = 0) : skipL l ln c = (l, ln, c) := by
  unfold skipL
  cases hl : l.length with
  | zero => rfl
  | succ n => rw [skipF, if_pos h]
theorem skip_go {l : List UInt8} {ln c : Int} (h : ¬ gapL l = 0) :
    skipL l ln c = skipL (l.drop (gapL l)) (advL (l.take (gapL l)) ln c).1 (advL (l.take (gapL l)) ln c).2 := by
  have hg := gap_le l
  conv => lhs; unfold skipL
  cases hl : l.length with
  | zero => omega
  | succ n =>
    rw [skipF, if_neg h]
    exact skip_fuel _ _ _ _ _ (by rw [List.length_drop]; omega) (Nat.le_refl _)

/-- How much is left to read. -/
def restLen (B : Nat) (w : World) : Nat := match w.cell? ⟨B, 0, none⟩ with
  | some (.string r) => r.size
  | _ => 0
theorem RdAt.rest {B : Nat} {r : ByteArray} {ln c : Int} {w : World} (h : RdAt B r ln c w) : restLen B w = r.size := by
  unfold restLen
  rw [h.c0]
/-- The reader, somewhere on its way, within bounds. -/
structure RdIn (B : Nat) (r : ByteArray) (ln c : Int) (w : World) : Prop where
  at_ : RdAt B r ln c w
  hs : r.size ≤ 65536
  l1 : 1 ≤ ln
  c1 : 1 ≤ c
  l2 : ln + r.size ≤ 1000000
  c2 : c + r.size ≤ 1000000
theorem ext_tail_size (r : ByteArray) (n : Nat) : (r.extract n r.size).size = r.size - n := by
  rw [size_len, Lib.extract_to_end, List.length_drop, size_len]
theorem RdIn.take {B n : Nat} {r : ByteArray} {ln c : Int} {w w' : World} (h : RdIn B r ln c w) (hn : n ≤ r.size)
    (h' : RdAt B (r.extract n r.size) (advL (r.data.toList.take n) ln c).1 (advL (r.data.toList.take n) ln c).2 w') :
    RdIn B (r.extract n r.size) (advL (r.data.toList.take n) ln c).1 (advL (r.data.toList.take n) ln c).2 w' := by
  have hb := adv_bd (r.data.toList.take n) ln c h.l1 h.c1
  have hl : (r.data.toList.take n).length ≤ n := List.length_take_le _ _
  have h1 := h.hs; have h2 := h.l2; have h3 := h.c2
  exact ⟨h', by rw [ext_tail_size]; omega, by omega, by omega, by rw [ext_tail_size]; omega, by rw [ext_tail_size]; omega⟩
/-- Behind skip. -/
def Skipped (B : Nat) (r : ByteArray) (ln c : Int) (w : World) (e : Ending) (w' : World) : Prop :=
  e = .returned (.tuple #[]) ∧ ∃ r' ln' c', RdIn B r' ln' c' w' ∧ (r'.data.toList, ln', c') = skipL r.data.toList ln c ∧ r'.size ≤ r.size ∧ w.grownBy w' (some B)
def SkipRel (B : Nat) (r : ByteArray) (ln c : Int) (w : World) (v : Value) (wr : World) : Prop :=
  ∃ r' ln' c', v = .int .i64 (gapL r'.data.toList) ∧ RdIn B r' ln' c' wr ∧ skipL r'.data.toList ln' c' = skipL r.data.toList ln c ∧ r'.size ≤ r.size ∧ w.grownBy wr (some B)
set_option maxHeartbeats 1000000 in
theorem skip_any (B : Nat) (r : ByteArray) (ln c : Int) (w : World) (hR : RdIn B r ln c w) :
    Calls Tryd.prog 21 #[.pointer (some ⟨B, 0, none⟩)] w (Skipped B r ln c w) := by
  have c0 := hR.at_.c0
  have hs := hR.hs
  have hm : r.size ≤ maxLen := by unfold maxLen; omega
  go_enter Tryd.func21, Tryd.ntmps21
  go_wp2_with (go_at_call 28; refine (gap_any _ _ hm).mono ?_; rintro e w' ⟨rfl, rfl⟩)
  go_loopw [2] (fun v wr => SkipRel B r ln c w v wr) (fun _ wr => restLen B wr)
  case atStart => exact ⟨r, ln, c, rfl, hR, rfl, Nat.le_refl _, grown_refl _ _⟩
  case round =>
    obtain ⟨r1, ln1, c1, rfl, hR1, hk, hle, hg⟩ := hrel
    have HR1 := Lib.hid hR1
    have HK := Lib.hid hk
    have hg1 := gap_le r1.data.toList
    have hz1 := Lib.hid (size_len r1)
    have hs1 := hR1.hs
    clear c0 hs hm hR hk hR1
    by_cases h0 : gapL r1.data.toList = 0
    · have H0 := Lib.hid h0
      rw [h0]
      clear h0 hg1
      go_wp2
      go_end0
      exact ⟨rfl, r1, ln1, c1, HR1.out, by rw [← HK.out, skip_stop H0.out], hle, hg⟩
    · have h0' : 0 < gapL r1.data.toList := by omega
      have hgs : gapL r1.data.toList ≤ r1.size := by rw [hz1.out]; exact hg1
      have hms : ∀ n, (r1.extract n r1.size).size ≤ maxLen := fun n => by rw [ext_tail_size]; unfold maxLen; omega
      have HMS := Lib.hid hms
      clear hms
      have HT := Lib.hid (take_any B r1 ln1 c1 (gapL r1.data.toList) wr HR1.out.at_ hgs hs1 HR1.out.l1 HR1.out.c1 (by have := HR1.out.l2; omega) (by have := HR1.out.c2; omega))
      have HIN := Lib.hid (fun w' h => RdIn.take (w' := w') HR1.out hgs h)
      have HGO := Lib.hid (skip_go (ln := ln1) (c := c1) h0)
      have hrest := Lib.hid HR1.out.at_.rest
      generalize hG : gapL r1.data.toList = g at *
      clear hG h0
      go_wp2_with (first
        | (go_at_call 29; refine (HT.out).mono ?_; rintro e w1 ⟨rfl, hA, hgr⟩; have hc0 := hA.c0; have HA := Lib.hid hA; clear hA)
        | (go_at_call 28; refine (gap_any _ _ (HMS.out _)).mono ?_; rintro e w' ⟨rfl, rfl⟩))
      go_roundw
      case rel =>
        refine ⟨_, _, _, by rw [Lib.extract_data], HIN.out _ HA.out, ?_, ?_, grown_trans hg hgr⟩
        · rw [Lib.extract_to_end, ← HK.out, HGO.out]
        · rw [ext_tail_size]; omega
      case measure =>
        rw [HA.out.rest, hrest.out, ext_tail_size]
        omega
end Go.Proofs.YtilfganjpgkjdaaDoor
