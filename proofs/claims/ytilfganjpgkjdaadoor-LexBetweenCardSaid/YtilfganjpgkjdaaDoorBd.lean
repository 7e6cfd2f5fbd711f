/- The contracts of the law's noLine and comment. -/
import Derived.Test.YtilfganjpgkjdaaDoorLs
import Derived.Test.YtilfganjpgkjdaaDoorLu
import Derived.Test.YtilfganjpgkjdaaDoorBa
import Derived.Laws.IdiomStrings
namespace Go.Proofs.YtilfganjpgkjdaaDoor
open Go Go.RowKit

/-- A text without line feeds. -/
def noLn : List UInt8 → List UInt8
  | [] => []
  | b :: r => if (b.toNat : Int) = 10 then noLn r else b :: noLn r
theorem noLn_le (l : List UInt8) : (noLn l).length ≤ l.length := by
  induction l with
  | nil => exact Nat.le_refl _
  | cons b r ih =>
    rw [noLn]
    by_cases h : (b.toNat : Int) = 10
    · rw [if_pos h, List.length_cons]; omega
    · rw [if_neg h, List.length_cons, List.length_cons]; omega
theorem noLn_step {s : ByteArray} {k : Nat} {acc X : List UInt8} (h : k < s.size) (hr : acc ++ noLn (s.data.toList.drop k) = X) :
    acc ++ (if (s[k].toNat : Int) = 10 then noLn (s.data.toList.drop (k + 1)) else s[k] :: noLn (s.data.toList.drop (k + 1))) = X := by
  rw [drop_at s k h, noLn] at hr
  exact hr
def NoLnRel (s : ByteArray) (w : World) (X : List UInt8) (v i : Value) (wr : World) : Prop :=
  ∃ (k : Nat) (acc : List UInt8), k ≤ s.size ∧ i = .int .i64 k ∧ acc ++ noLn (s.data.toList.drop k) = X ∧ wr.ownsRow w.heap.size 5 1 v acc.length (Lib.byteCells acc) ∧ ¬ v = .slice none 0 0 ∧ acc.length ≤ k ∧ Below w.heap.size w wr

set_option maxHeartbeats 2000000 in
theorem noline_any (s : ByteArray) (w : World) (hs : s.size ≤ 65536) :
    Calls Tryd.prog 15 #[.string s] w fun e w' => e = .returned (.string ⟨(noLn s.data.toList).toArray⟩) ∧ Below w.heap.size w w' := by
  obtain ⟨i0, hi, hz0, hz1, hz2⟩ := info_parts infoB
  have HI := Lib.hid hi
  have HZ0 := Lib.hid hz0
  have HZ1 := Lib.hid hz1
  have HZ2 := Lib.hid hz2
  clear hi hz0 hz1 hz2
  generalize hX : noLn s.data.toList = X
  have HX := Lib.hid hX
  clear hX
  go_enter Tryd.func15, Tryd.ntmps15
  go_wp2
  go_loopw [3, 4] (fun v i wr => NoLnRel s w X v i wr) (fun _ i _ => s.size - (intOf i).toNat)
  case atStart => exact ⟨0, [], Nat.zero_le _, rfl, by simpa using HX.out, World.ownsRow_made w #[] 0 (Nat.le_refl _) (Nat.zero_le _) rfl, by simp, Nat.zero_le _, (Below.refl _ _).alloc (Nat.le_refl _) _⟩
  case round =>
    obtain ⟨k, acc, hk, rfl, hacc, hown, hnn, hal, hb⟩ := hrel
    have hz := hb.size
    by_cases hlt : k < s.size
    · have hst := Lib.hid (noLn_step hlt hacc)
      by_cases h10 : (s[k].toNat : Int) = 10
      · have h10' : ((s[k].toNat : Int) != 10) = false := by simpa using h10
        have H10 := Lib.hid h10
        have HO := Lib.hid hown
        have HNN := Lib.hid hnn
        clear h10 hown hacc hnn
        go_wp2
        go_roundw
        case rel =>
          have := hst.out
          rw [if_pos H10.out] at this
          exact ⟨k + 1, acc, by omega, by go_num, this, HO.out, HNN.out, by omega, hb⟩
        case measure => simp [intOf]; omega
      · have h10' : ((s[k].toNat : Int) != 10) = true := by simpa using h10
        have H10 := Lib.hid h10
        have HNN := Lib.hid hnn
        clear h10 hacc hnn
        go_wp2_with (at_builtin; refine wpList_append_own _ rfl _ _ 46 rfl w.heap.size 5 i0 (.int .u8 0) 1 1 Tryd.underlying46 HI.out HZ0.out HZ1.out HZ2.out rfl (by decide) _ _ _ rfl (hown.alloc _) ⟨wr.heap.size, 0, none⟩ 1 1 [.int .u8 (s[k].toNat : Int)] rfl rfl ?c1 ?c2 ?c3 ?c4 ?c5 ?_)
        case c1 =>
          intro j u hj
          match j, hj with
          | 0, hj => simp at hj; subst hj; simp [Addr.add]
        case c2 => intro u hu; simp at hu; subst hu; rfl
        case c3 => unfold maxLen; omega
        case c4 => omega
        case c5 => simp; omega
        intro v' w2 hown' hgrow hiff
        have hb2 := (hb.alloc (by omega) _).grown hgrow (by simp; omega) (fun k hk => (hown.lt k hk).1)
        have HO := Lib.hid hown'
        have HF := Lib.hid hiff
        clear hown' hiff hgrow hown
        go_wp2
        go_roundw
        case rel =>
          have := hst.out
          rw [if_neg H10.out] at this
          refine ⟨k + 1, acc ++ [s[k]], by omega, by go_num, ?_, ?_, ?_, ?_, hb2⟩
          · rw [← this]; simp
          · have := HO.out
            simpa [Lib.byteCells] using this
          · exact HF.out
          · simp; omega
        case measure => simp [intOf]; omega
    · obtain rfl : k = s.size := by omega
      have e : acc = X := by
        have := hacc
        rw [List.drop_of_length_le (by simp), noLn, List.append_nil] at this
        exact this
      subst e
      obtain ⟨g, cap, rfl, hc⟩ : ∃ g cap, u3 = .slice (some ⟨g, 0, none⟩) acc.length cap ∧ ∀ j (hj : j < acc.length), wr.cell? ((⟨g, 0, none⟩ : Addr).add j) = some (.int .u8 (acc[j].toNat : Int)) := by
        have h' := hown
        rcases hown.2 with ⟨h0, _⟩ | ⟨g, cap, cur, rfl, _⟩
        · exact absurd h0 hnn
        · refine ⟨g, cap, rfl, fun j hj => ?_⟩
          rw [h'.cells (g := g) rfl j _ (by rw [Lib.byteCells, List.getElem?_map, List.getElem?_eq_getElem hj]; rfl)]
      have hcv := run_convert_bytes_back (P := Tryd.prog) wr 46 9 5 ⟨g, 0, none⟩ cap acc Tryd.underlying46 Tryd.underlying5 Tryd.underlying9 hc
      clear hc hown hnn hacc
      go_wp2
      go_ret
      exact ⟨rfl, hb⟩
theorem cmt_step {s : ByteArray} {j : Nat} {X : Bool} (h : j + 1 < s.size) (hr : noCmt (s.data.toList.drop j) = X) :
    (!(s[j] == 47 && s[j + 1] == 47) && noCmt (s.data.toList.drop (j + 1))) = X := by
  rw [drop_at s j (by omega), drop_at s (j + 1) h, noCmt, ← drop_at s (j + 1) h] at hr
  exact hr
theorem u8_47 (b : UInt8) : (b == 47) = ((b.toNat : Int) == 47) := by
  rw [Bool.eq_iff_iff, beq_iff_eq, beq_iff_eq]
  constructor
  · intro h; subst h; rfl
  · intro h
    apply UInt8.toNat_inj.mp
    have : (47 : UInt8).toNat = 47 := rfl
    omega
set_option maxHeartbeats 2000000 in
theorem comment_any (s : ByteArray) (w : World) (hs : s.size ≤ 65536) :
    Calls Tryd.prog 16 #[.string s] w fun e w' => e = .returned (.bool (!noCmt s.data.toList)) ∧ w = w' := by
  generalize hX : noCmt s.data.toList = X
  have HX := Lib.hid hX
  clear hX
  go_enter Tryd.func16, Tryd.ntmps16
  go_wp2
  go_loop [3] (fun i => ∃ j : Nat, j ≤ s.size ∧ i = .int .i64 ((j : Int) + 1) ∧ noCmt (s.data.toList.drop j) = X) (fun i => s.size + 1 - (intOf i).toNat)
  case atStart => exact ⟨0, Nat.zero_le _, rfl, by simpa using HX.out⟩
  case round =>
    obtain ⟨j, hj, rfl, hr⟩ := hrel
    by_cases hlt : j + 1 < s.size
    · have hst := cmt_step hlt hr
      rw [u8_47, u8_47] at hst
      have HST := Lib.hid hst
      clear hst hr
      cases h1 : ((s[j].toNat : Int) == 47)
      · go_wp2
        go_round
        case rel => exact ⟨j + 1, by omega, by go_num, by have := HST.out; simpa [h1] using this⟩
        case measure => simp [intOf]; omega
      · cases h2 : ((s[j + 1].toNat : Int) == 47)
        · go_wp2
          go_round
          case rel => exact ⟨j + 1, by omega, by go_num, by have := HST.out; simpa [h1, h2] using this⟩
          case measure => simp [intOf]; omega
        · go_wp2
          go_ret
          exact ⟨ret_bool (by have := HST.out; simp [h1, h2] at this; simp [this]), rfl⟩
    · have e : noCmt (s.data.toList.drop j) = true := by
        have hl : (s.data.toList.drop j).length ≤ 1 := by rw [List.length_drop]; have := size_len s; omega
        generalize s.data.toList.drop j = x at *
        match x, hl with
        | [], _ => rfl
        | [_], _ => rfl
      have HR := Lib.hid (hr.symm.trans e)
      clear hr e
      go_wp2
      go_ret
      exact ⟨ret_bool (by rw [HR.out]; rfl), rfl⟩
end Go.Proofs.YtilfganjpgkjdaaDoor
