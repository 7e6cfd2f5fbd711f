/- The contract of Show, at a row of tokens. -/
import Derived.Test.YtnalgnklgmoepaaGreatDoorMbar
import Derived.Test.YtnalgnklgmoepaaGreatDoorMLv
import Derived.Test.YtnalgnklgmoepaaGreatDoorMBa
set_option linter.all false
namespace Go.Proofs.YtnalgnklgmoepaaGreatDoor
open Go Go.RowKit

theorem builder_alloc {T e : TypeId} {B b : Nat} {bs : List Value} {w : World} (h : Lib.IsBuilder T e B b bs w) (o : Obj) : Lib.IsBuilder T e B b bs (w.alloc o) := by
  have one : ∀ p, Lib.BuilderAt T e B b p bs w → Lib.BuilderAt T e B b p bs (w.alloc o) := fun p h => by
    obtain ⟨hB, v, hb, hown, hne⟩ := h
    exact ⟨hB, v, by rw [Lib.alloc_old w o b (block_lt' hb)]; exact hb, hown.alloc o, hne⟩
  rcases h with h | h
  · exact .inl (one _ h)
  · exact .inr (one _ h)
/-- Tokens as a text, from place k on. -/
def shF : Nat → List Tok → List UInt8
  | _, [] => []
  | k, t :: r => (if t.kind = 3 then [] else if k = 0 then t.text else 32 :: t.text) ++ shF (k + 1) r
theorem shF_R (l : List Tok) (k : Nat) : shF (k + 1) l = showR (l.map Tok.bare) := by
  induction l generalizing k with
  | nil => rfl
  | cons t r ih => rw [shF, List.map_cons, showR, ih, if_neg (show ¬ k + 1 = 0 by omega)]; rfl
theorem shF_L (l : List Tok) : shF 0 l = showL (l.map Tok.bare) := by
  cases l with
  | nil => rfl
  | cons t r => rw [shF, List.map_cons, showL, shF_R, if_pos rfl]; rfl
theorem shF_step {acc : List UInt8} {l : List Tok} {k : Nat} {X : List UInt8} (hk : k < l.length) (h : acc ++ shF k (l.drop k) = X) :
    acc ++ ((if l[k].kind = 3 then [] else if k = 0 then l[k].text else 32 :: l[k].text) ++ shF (k + 1) (l.drop (k + 1))) = X := by
  rw [List.drop_eq_getElem_cons hk, shF] at h
  exact h
theorem bytes_app (a b : List UInt8) : Lib.byteCells a ++ Lib.strCells ⟨b.toArray⟩ = Lib.byteCells (a ++ b) := by
  simp [Lib.byteCells, Lib.strCells]
theorem bytes_blank (a : List UInt8) : Lib.byteCells a ++ [.int .u8 32] = Lib.byteCells (a ++ [32]) := by
  simp [Lib.byteCells]
theorem bytes_len (a : List UInt8) : (Lib.byteCells a).length = a.length := by simp [Lib.byteCells]
theorem arr_size (l : List UInt8) : (⟨l.toArray⟩ : ByteArray).size = l.length := by show l.toArray.size = _; simp
def LShowRel (l : List Tok) (w : World) (X : List UInt8) (i : Value) (wr : World) : Prop :=
  ∃ (k : Nat) (acc : List UInt8), k ≤ l.length ∧ i = .int .i64 k ∧ acc ++ shF k (l.drop k) = X ∧ Lib.IsBuilder 61 5 w.heap.size w.heap.size (Lib.byteCells acc) wr ∧ Below w.heap.size w wr

set_option maxHeartbeats 4000000 in
set_option maxRecDepth 100000 in
theorem lshow_any (g cap : Nat) (l : List Tok) (w : World) (hrow : RowAt g l w) (hg : g < w.heap.size) (hl : l.length ≤ 100000) (hx : (shF 0 l).length ≤ 1000000) :
    Calls Tryz.prog 17 #[.slice (some ⟨g, 0, none⟩) l.length cap] w fun e w' => e = .returned (.string ⟨(shF 0 l).toArray⟩) ∧ Below w.heap.size w w' := by
  generalize hX : shF 0 l = X at *
  have HX := Lib.hid hX
  have HROW := Lib.hid hrow
  clear hX hrow
  go_enter Tryz.func17, Tryz.ntmps17
  go_wp2
  go_loopw [8] (fun i wr => LShowRel l w X i wr) (fun i _ => l.length - (intOf i).toNat)
  case atStart => exact ⟨0, [], Nat.zero_le _, rfl, by simpa using HX.out, Lib.fresh_isBuilder 61 5 w, (Below.refl _ _).alloc (Nat.le_refl _) _⟩
  case round =>
    obtain ⟨k, acc, hk, rfl, hacc, hbu, hb⟩ := hrel
    have HB := Lib.hid hbu
    have hz := hb.size
    have hzb : w.heap.size < wr.heap.size := hbu.elim (fun h => h.lt) (fun h => h.lt)
    by_cases hlt : k < l.length
    · have ht := (HROW.out k hlt).below hb hg
      have hst := Lib.hid (shF_step hlt hacc)
      generalize l[k] = t at *
      have c0 := ht.fk
      have c1 := ht.ft
      have c2 := ht.fm
      have c3 := ht.fl
      have c4 := ht.fc
      clear hbu hacc ht
      by_cases h3 : t.kind = 3
      · have h3' : (t.kind == 3) = true := by simpa using h3
        have H3 := Lib.hid h3
        clear h3
        go_wp2_with fail
        go_roundw
        case rel =>
          have := hst.out
          rw [if_pos H3.out, List.nil_append] at this
          exact ⟨k + 1, acc, by omega, by go_num, this, builder_alloc HB.out _, hb.alloc (by omega) _⟩
        case measure => simp [intOf]; omega
      · have h3' : (t.kind == 3) = false := by simpa using h3
        have H3 := Lib.hid h3
        clear h3
        have hle := congrArg List.length hst.out
        rw [if_neg H3.out] at hle
        by_cases hk0 : k = 0
        · subst hk0
          rw [if_pos rfl, List.length_append, List.length_append] at hle
          have HW := Lib.hid (fun o => wstring_any w.heap.size w.heap.size (Lib.byteCells acc) ⟨t.text.toArray⟩ (wr.alloc o) (builder_alloc HB.out o) (by rw [bytes_len, arr_size]; omega) (by simp; omega))
          have HLE := Lib.hid hle
          clear hle
          go_wp2_with (go_at_call 29; refine (HW.out _).mono ?_; rintro e w2 ⟨rfl, hbu2, hb2⟩)
          go_roundw
          case rel =>
            have := hst.out
            rw [if_neg H3.out, if_pos trivial, ← List.append_assoc] at this
            exact ⟨1, acc ++ t.text, by omega, rfl, this, by rw [← bytes_app]; exact hbu2, (hb.alloc (by omega) _).trans hb2⟩
          case measure => simp [intOf]; omega
        · rw [if_neg hk0, List.length_append, List.length_append, List.length_cons] at hle
          have hk0' : (0 : Int) < (k : Int) := by omega
          have HW := Lib.hid (fun o => wbyte_any w.heap.size w.heap.size (Lib.byteCells acc) 32 (wr.alloc o) (builder_alloc HB.out o) (by rw [bytes_len]; omega) (by simp; omega))
          have HV := Lib.hid (fun w2 (h : Lib.IsBuilder 61 5 w.heap.size w.heap.size (Lib.byteCells acc ++ [.int .u8 32]) w2) (hz2 : w.heap.size ≤ w2.heap.size) => wstring_any w.heap.size w.heap.size _ ⟨t.text.toArray⟩ w2 h (by rw [List.length_append, bytes_len, arr_size, List.length_singleton]; omega) hz2)
          have HLE := Lib.hid hle
          clear hle
          go_wp2_with fail
          refine (HW.out _).mono ?_
          rintro e w2 ⟨rfl, hbu2, hb2, hq2⟩
          have hz2 : w.heap.size ≤ w2.heap.size := by have := hb2.size; simp at this; omega
          have d1 : w2.cell? ⟨wr.heap.size, 1, none⟩ = some (.string ⟨t.text.toArray⟩) := by
            rw [Lib.cell_of_heap (hq2 wr.heap.size _ 55 (0, 0) (by omega) (by decide) (heap_alloc_new wr _))]; rfl
          go_wp2_with (go_at_call 29; refine (HV.out _ hbu2 hz2).mono ?_; rintro e w3 ⟨rfl, hbu3, hb3⟩)
          go_roundw
          case rel =>
            have := hst.out
            rw [if_neg H3.out, if_neg hk0] at this
            refine ⟨k + 1, acc ++ [32] ++ t.text, by omega, by go_num, ?_, by rw [← bytes_app, ← bytes_blank]; exact hbu3, ((hb.alloc (by omega) _).trans hb2).trans hb3⟩
            rw [← this]
            simp
          case measure => simp [intOf]; omega
    · obtain rfl : k = l.length := by omega
      have HW := Lib.hid (Tryz.Builder_String_any w.heap.size w.heap.size acc wr HB.out hz)
      have e : acc = X := by
        have := hacc
        rw [List.drop_of_length_le (Nat.le_refl _), shF, List.append_nil] at this
        exact this
      subst e
      clear hbu hacc
      go_wp2_with (go_at_call 30; refine (HW.out).mono ?_; rintro e w2 ⟨rfl, hb2⟩)
      go_ret
      exact ⟨rfl, hb.trans hb2⟩
end Go.Proofs.YtnalgnklgmoepaaGreatDoor
