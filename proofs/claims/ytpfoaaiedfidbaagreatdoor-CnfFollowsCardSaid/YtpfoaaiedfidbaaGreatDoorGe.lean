/- The contract of Show, at literals that may be. -/
import Derived.Test.YtpfoaaiedfidbaaGreatDoorGb
import Derived.Test.YtpfoaaiedfidbaaGreatDoorShelf
import Derived.Test.YtpfoaaiedfidbaaGreatDoorEd
import Derived.Test.YtpfoaaiedfidbaaGreatDoorCb
namespace Go.Proofs.YtpfoaaiedfidbaaGreatDoor
open Go Go.RowKit

theorem owned_below {w w' : World} {base B e n : Nat} {v : Value} {xs : List Value} (h : w.ownsRow base e 1 v n xs) (hb : Below B w w') (hB : w.heap.size ≤ B) : w'.ownsRow base e 1 v n xs :=
  World.ownsRow.kept h (row := some w.heap.size) ⟨hb.os, hb.tape, hb.output, hb.size, fun k hk _ => hb.block k (by omega)⟩ (by
    cases hv : v.ownBlock with
    | none => exact .inl rfl
    | some k =>
      have := (World.ownsRow.lt h k hv).2
      exact .inr (by simp; omega))
theorem builder_below {T e B b : Nat} {bs : List Value} {w w' : World} (h : Lib.IsBuilder T e B b bs w) (hb : Below w.heap.size w w') : Lib.IsBuilder T e B b bs w' := by
  have one : ∀ p, Lib.BuilderAt T e B b p bs w → Lib.BuilderAt T e B b p bs w' := fun p h => by
    obtain ⟨hB, v, hbk, hown, hne⟩ := h
    exact ⟨hB, v, by rw [hb.block b (block_lt hbk)]; exact hbk, owned_below hown hb (Nat.le_refl _), hne⟩
  rcases h with h | h
  · exact .inl (one _ h)
  · exact .inr (one _ h)
/-- Literals, clauses as texts. -/
def litsL : List Int → List UInt8
  | [] => []
  | n :: r => Lib.itoa n ++ 32 :: litsL r
def showL : List (List Int) → List UInt8
  | [] => []
  | c :: r => litsL c ++ 48 :: 10 :: showL r
theorem litsL_step {acc R X : List UInt8} {c : List Int} {k : Nat} (hk : k < c.length) (h : acc ++ (litsL (c.drop k) ++ R) = X) : acc ++ Lib.itoa (c.getD k 0) ++ [32] ++ (litsL (c.drop (k + 1)) ++ R) = X := by
  rw [List.drop_eq_getElem_cons hk, litsL] at h
  rw [← h]
  simp [List.getD, List.getElem?_eq_getElem hk]
theorem showL_step {acc X : List UInt8} {l : List (List Int)} {k : Nat} (hk : k < l.length) (h : acc ++ showL (l.drop k) = X) : acc ++ (litsL (l.getD k []) ++ 48 :: 10 :: showL (l.drop (k + 1))) = X := by
  rw [List.drop_eq_getElem_cons hk, showL] at h
  rw [← h]
  simp [List.getD, List.getElem?_eq_getElem hk]
theorem bytes_app (a b : List UInt8) : Lib.byteCells a ++ Lib.strCells ⟨b.toArray⟩ = Lib.byteCells (a ++ b) := by
  simp [Lib.byteCells, Lib.strCells]
theorem bytes_one (a : List UInt8) (c : UInt8) (n : Int) (hn : n = c.toNat) : Lib.byteCells a ++ [.int .u8 n] = Lib.byteCells (a ++ [c]) := by
  subst hn
  simp [Lib.byteCells]
theorem bytes_len (a : List UInt8) : (Lib.byteCells a).length = a.length := by simp [Lib.byteCells]
theorem arr_size (l : List UInt8) : (⟨l.toArray⟩ : ByteArray).size = l.length := by show l.toArray.size = _; simp
theorem itoa_below (n : Int) (h : mayB n = true) (w : World) (hp : Pow w) :
    Calls Tryz.prog 36 #[.int .i64 n] w fun e w' => e = .returned (.string ⟨(Lib.itoa n).toArray⟩) ∧ Below w.heap.size w w' :=
  (Tryz.strconv_Itoa n (by have := mayB_iff.1 h; omega) (by have := mayB_iff.1 h; omega) w hp).mono fun e w' ⟨he, k, os, hw⟩ => ⟨he, by rw [hw]; exact below_grow _ _ _⟩
set_option maxHeartbeats 4000000 in
set_option maxRecDepth 100000 in
theorem show_any (v : Value) (l : List (List Int)) (w : World) (B : Nat) (h : Grid w B v l) (hs : Small l) (hm : allMay l = true) (hB : B ≤ w.heap.size) (hp : Pow w) (hxl : (showL l).length ≤ 1000000) :
    Calls Tryz.prog 19 #[v] w fun e w' => e = .returned (.tuple #[.string ⟨(showL l).toArray⟩, .int .i64 0]) ∧ Below w.heap.size w w' := by
  have HK := Lib.hid (check_any v l w B h hs.fits)
  rw [show checkC l = 0 by simp [checkC, hm]] at HK
  generalize hX : showL l = X at *
  have HX := Lib.hid hX
  have HG := Lib.hid h
  have HS := Lib.hid hs
  have HM := Lib.hid hm
  have HP := Lib.hid hp
  obtain ⟨A, c, rfl, hc, _⟩ := h
  have hl : l.length ≤ 1000 := hs.1
  clear hX hs hm hp
  go_enter Tryz.func19, Tryz.ntmps19
  go_wp2_with (go_at_call 24; refine (HK.out).mono ?_; rintro e w' ⟨rfl, hw⟩; subst hw)
  go_loopw [17] (fun i wr => ∃ (k : Nat) (acc : List UInt8), k ≤ l.length ∧ i = .int .i64 k ∧ Hid (acc ++ showL (l.drop k) = X) ∧ Hid (Lib.IsBuilder 62 5 w.heap.size w.heap.size (Lib.byteCells acc) wr) ∧ Hid (Below w.heap.size w wr)) (fun i _ => l.length - (intOf i).toNat)
  case atStart => exact ⟨0, [], Nat.zero_le _, rfl, Lib.hid (by simpa using HX.out), Lib.hid (Lib.fresh_isBuilder 62 5 w), Lib.hid ((Below.refl _ _).alloc (Nat.le_refl _) _)⟩
  case round =>
    obtain ⟨k, acc, hk, rfl, hacc, hbu, hb⟩ := hrel
    obtain ⟨wo, rfl⟩ : ∃ wo : World, wo = wr := ⟨_, rfl⟩
    by_cases hlt : k < l.length
    · obtain ⟨A2, c2, e2, _, hat⟩ := HG.out
      cases e2
      obtain ⟨b, off, rfl, hbB, hcell⟩ := hat (by omega)
      obtain ⟨r, hr0⟩ : ∃ r, l.getD k [] = r := ⟨_, rfl⟩
      obtain ⟨u, hu, hn⟩ := hcell k hlt
      have hu2 := (hb.out.cell (p := ⟨b, off + k, none⟩) (by show b < _; omega)).trans hu
      have hrl := HS.out.at_ hlt
      have hrm := allMay_iff.1 HM.out _ (getD_memL hlt)
      have hst := showL_step hlt hacc.out
      rw [hr0] at hn hrl hrm hst
      have HN := Lib.hid hn
      have HRM := Lib.hid hrm
      have HST := Lib.hid hst
      obtain ⟨A3, c3, rfl, hc3, _⟩ := hn
      clear hcell hat hr0 hrm hst hacc hu
      go_wp2_with fail
      go_loopw [23] (fun i wr => ∃ (j : Nat) (acc : List UInt8), j ≤ r.length ∧ i = .int .i64 j ∧ Hid (acc ++ (litsL (r.drop j) ++ 48 :: 10 :: showL (l.drop (k + 1))) = X) ∧ Hid (Lib.IsBuilder 62 5 w.heap.size w.heap.size (Lib.byteCells acc) wr) ∧ Hid (Below w.heap.size w wr)) (fun i _ => r.length - (intOf i).toNat)
      case atStart => exact ⟨0, acc, Nat.zero_le _, rfl, Lib.hid (by simpa using HST.out), hbu, hb⟩
      case round =>
        obtain ⟨j, acc2, hj, rfl, hacc2, hbu2, hb2⟩ := hrel
        by_cases hltj : j < r.length
        · obtain ⟨A4, c4, e4, _, hat⟩ := HN.out.below hb2.out hB
          cases e4
          obtain ⟨b4, off4, rfl, hb4, hcell⟩ := hat (by omega)
          obtain ⟨x, hx⟩ : ∃ x, r.getD j 0 = x := ⟨_, rfl⟩
          have hcx := hcell j hltj
          have hxm := rowMay_iff.1 HRM.out _ (getD_mem hltj)
          have hst := litsL_step hltj hacc2.out
          rw [hx] at hcx hxm hst
          have hle := congrArg List.length hst
          simp only [List.length_append, List.length_cons, List.length_nil] at hle
          have HST2 := Lib.hid hst
          have HI := Lib.hid (itoa_below x hxm wr (HP.out.under hb2.out HP.out.lt))
          have HW := Lib.hid (fun w2 (hbb : Lib.IsBuilder 62 5 w.heap.size w.heap.size (Lib.byteCells acc2) w2) (hz2 : w.heap.size ≤ w2.heap.size) => wstring_any w.heap.size w.heap.size (Lib.byteCells acc2) ⟨(Lib.itoa x).toArray⟩ w2 hbb (by rw [bytes_len, arr_size]; omega) hz2)
          have HV := Lib.hid (fun w2 (hbb : Lib.IsBuilder 62 5 w.heap.size w.heap.size (Lib.byteCells acc2 ++ Lib.strCells ⟨(Lib.itoa x).toArray⟩) w2) (hz2 : w.heap.size ≤ w2.heap.size) => wbyte_any w.heap.size w.heap.size _ 32 w2 hbb (by rw [List.length_append, bytes_len, Lib.strCells_length, arr_size]; omega) hz2)
          clear hcell hat hx hxm hst hle
          go_wp2_with fail
          refine (HI.out).mono ?_
          rintro e w1 ⟨rfl, hi1⟩
          have hbu3 := builder_below hbu2.out hi1
          have hb3 := hb2.out.trans (hi1.mono hb2.out.size)
          have HI2 := Lib.hid (HW.out w1 hbu3 hb3.size)
          have HB3 := Lib.hid hb3
          clear hi1 hbu3 hb3
          go_wp2_with fail
          refine (HI2.out).mono ?_
          rintro e w2 ⟨rfl, hbu4, hi2⟩
          have HB4 := Lib.hid (HB3.out.trans hi2)
          have HI3 := Lib.hid (HV.out w2 hbu4 HB4.out.size)
          clear hbu4 hi2
          go_wp2_with (go_at_call 37; refine (HI3.out).mono ?_; rintro e w3 ⟨rfl, hbu5, hi3, _⟩; have HU5 := Lib.hid hbu5; have HB5 := Lib.hid hi3; clear hbu5 hi3)
          go_roundw
          case rel =>
            refine ⟨j + 1, acc2 ++ Lib.itoa x ++ [32], by omega, by go_num, HST2, Lib.hid ?_, Lib.hid (HB4.out.trans HB5.out)⟩
            rw [← bytes_one _ 32 32 rfl, ← bytes_app]
            exact HU5.out
          case measure => simp [intOf]; omega
        · have hst := hacc2.out
          rw [List.drop_of_length_le (by omega), litsL, List.nil_append] at hst
          have hle := congrArg List.length hst
          simp only [List.length_append, List.length_cons] at hle
          have HST2 := Lib.hid hst
          have HI2 := Lib.hid (wstring_any w.heap.size w.heap.size (Lib.byteCells acc2) ⟨#[48]⟩ wr hbu2.out (by rw [bytes_len]; simp [ByteArray.size]; omega) hb2.out.size)
          have HV := Lib.hid (fun w2 (hbb : Lib.IsBuilder 62 5 w.heap.size w.heap.size (Lib.byteCells acc2 ++ Lib.strCells ⟨#[48]⟩) w2) (hz2 : w.heap.size ≤ w2.heap.size) => wbyte_any w.heap.size w.heap.size _ 10 w2 hbb (by rw [List.length_append, bytes_len, Lib.strCells_length]; simp [ByteArray.size]; omega) hz2)
          clear hst hle
          go_wp2_with fail
          refine (HI2.out).mono ?_
          rintro e w2 ⟨rfl, hbu4, hi2⟩
          have HB4 := Lib.hid (hb2.out.trans hi2)
          have HI3 := Lib.hid (HV.out w2 hbu4 HB4.out.size)
          clear hbu4 hi2
          go_wp2_with (go_at_call 37; refine (HI3.out).mono ?_; rintro e w3 ⟨rfl, hbu5, hi3, _⟩; have HU5 := Lib.hid hbu5; have HB5 := Lib.hid hi3; clear hbu5 hi3)
          go_roundw
          case rel =>
            refine ⟨k + 1, acc2 ++ [48] ++ [10], by omega, by go_num, Lib.hid ?_, Lib.hid ?_, Lib.hid (HB4.out.trans HB5.out)⟩
            · rw [← HST2.out]; simp
            · rw [← bytes_one _ 10 10 rfl, ← bytes_app]
              exact HU5.out
          case measure => simp [intOf]; omega
    · obtain rfl : k = l.length := by omega
      have HW := Lib.hid (Tryz.Builder_String_any w.heap.size w.heap.size acc wo hbu.out hb.out.size)
      have e : acc = X := by
        have := hacc.out
        rw [List.drop_of_length_le (Nat.le_refl _), showL, List.append_nil] at this
        exact this
      rw [e] at HW
      clear hbu hacc
      go_wp2_with (go_at_call 38; refine (HW.out).mono ?_; rintro e w2 ⟨rfl, hb2⟩)
      go_ret2
      exact ⟨rfl, hb.out.trans hb2⟩
end Go.Proofs.YtpfoaaiedfidbaaGreatDoor
