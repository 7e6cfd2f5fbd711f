/- A line that is a clause. -/
import Derived.Test.YtpfoaaiedfidbaaGreatDoorGb
import Derived.Test.YtpfoaaiedfidbaaGreatDoorAd
namespace Go.Proofs.YtpfoaaiedfidbaaGreatDoor
open Go Go.RowKit

/-- What is known of a word and what follows it. -/
structure WordOk (s : ByteArray) (i : Nat) (x : Int) (s' : ByteArray) : Prop where
  ne : s ≠ ⟨#[]⟩
  ix : Lib.indexByte s.data.toList 32 = i
  room : i + 1 ≤ s.size
  small : s.size ≤ 18
  rest : s.extract (i + 1) s.size = s'
  num : Lib.atoi (s.extract 0 i).data.toList = some x
  back : (⟨(Lib.itoa x).toArray⟩ : ByteArray) = s.extract 0 i
  may : mayB x = true
  low : -9223372036854775808 ≤ x
  high : x ≤ 9223372036854775807
theorem WordOk.size {s s' : ByteArray} {i : Nat} {x : Int} (h : WordOk s i x s') : (s.extract 0 i).size ≤ 18 := by
  have := h.small
  have := h.room
  rw [ByteArray.size_extract]
  omega
theorem WordOk.full {s s' : ByteArray} {i : Nat} {x : Int} (h : WordOk s i x s') : s.toList.isEmpty = false := by
  have h1 := h.room
  rw [Lib.toList_data]
  cases hl : s.data.toList with
  | nil =>
    have h2 : s.size = 0 := by rw [Lib.size_eq, hl]; rfl
    omega
  | cons _ _ => rfl
/-- What is known of a line. -/
structure LineOk (s : ByteArray) (xs : List Int) (W : Nat → ByteArray) (ix : Nat → Nat) : Prop where
  short : xs.length ≤ 1000
  len : s.size ≤ 9223372036854775807
  suf : Lib.hasSuffix s.data.toList [48] = true
  first : (⟨(Lib.trimSuffix s.data.toList [48]).toArray⟩ : ByteArray) = W 0
  last : W xs.length = ⟨#[]⟩
  step : ∀ k, k < xs.length → WordOk (W k) (ix k) (xs.getD k 0) (W (k + 1))
set_option maxHeartbeats 4000000 in
set_option maxRecDepth 100000 in
theorem clause_any (s : ByteArray) (xs : List Int) (W : Nat → ByteArray) (ix : Nat → Nat) (h : LineOk s xs W ix) (w : World) (hp : Pow w) :
    Calls Tryz.prog 40 #[.string s] w fun e w' => ∃ v', e = .returned (.tuple #[v', .bool true]) ∧ Own w' w.heap.size v' xs ∧ Below w.heap.size w w' := by
  obtain ⟨i0, hi, hz0, hz1, hz2⟩ := info_parts info3
  have HL := Lib.hid h
  have HS := Lib.hid (Tryz.strings_CutSuffix s ⟨#[48]⟩ w h.len)
  rw [show (⟨#[48]⟩ : ByteArray).data.toList = [48] from rfl, h.suf, h.first] at HS
  have HP := Lib.hid hp
  clear h hp
  go_enter Tryz.func40, Tryz.ntmps40
  go_wp2_with (go_at_call 58; refine (HS.out).mono ?_; rintro e w' ⟨rfl, hw⟩; have hw2 := hw.symm; clear hw; subst hw2)
  go_loopw [4, 6] (fun s' o wr => ∃ k : Nat, k ≤ xs.length ∧ s' = .string (W k) ∧ Hid (Own wr w.heap.size o (xs.take k)) ∧ Hid (Below w.heap.size w wr)) (fun s' _ _ => match s' with | .string b => b.size | _ => 0)
  case atStart => exact ⟨0, Nat.zero_le _, rfl, Lib.hid (by simpa using Own.nil _ _), Lib.hid (Below.refl _ _)⟩
  case round =>
    obtain ⟨k, hk, rfl, ho, hb⟩ := hrel
    by_cases hlt : k < xs.length
    · have HO := Lib.hid (HL.out.step k hlt)
      obtain ⟨x, hx⟩ : ∃ x, xs.getD k 0 = x := ⟨_, rfl⟩
      have HX := Lib.hid hx
      rw [hx] at HO
      obtain ⟨S, hS⟩ : ∃ S, W k = S := ⟨_, rfl⟩
      obtain ⟨S', hS'⟩ : ∃ S', W (k + 1) = S' := ⟨_, rfl⟩
      rw [hS, hS'] at HO
      rw [hS]
      have HS' := Lib.hid hS'
      obtain ⟨i, hii⟩ : ∃ i, ix k = i := ⟨_, rfl⟩
      rw [hii] at HO
      clear hx hS hS' hii
      have hne := HO.out.full
      have HC := Lib.hid (cut_below S 32 i wr HO.out.ix HO.out.room (by have := HO.out.small; omega))
      rw [HO.out.rest] at HC
      go_wp2_with (go_at_call 39; refine (HC.out).mono ?_; rintro e w1 ⟨rfl, hb1⟩)
      have hbb := hb.out.trans (hb1.mono hb.out.size)
      have HD := Lib.hid (literal_any (S.extract 0 i) x w1 (HP.out.under hbb HP.out.lt) HO.out.size HO.out.num HO.out.may HO.out.back HO.out.low HO.out.high)
      have HW1 := Lib.hid (ho.out.below hb1 (Nat.le_refl _))
      have HBB := Lib.hid hbb
      clear hb1 hbb
      go_wp2_with fail
      refine (HD.out).mono ?_
      rintro e w2 ⟨rfl, hb2⟩
      have HW2 := Lib.hid (HW1.out.below hb2 (Nat.le_refl _))
      have HB2 := Lib.hid (HBB.out.trans (hb2.mono HBB.out.size))
      clear hb2
      have Q1 := Lib.hid (show (xs.take k).length ≤ 1000000 by have := HL.out.short; have := List.length_take_le' k xs; omega)
      have Q2 := Lib.hid (show w.heap.size ≤ (w2.alloc (.cells #[.int .i64 x] 3)).heap.size by have := HB2.out.size; simp; omega)
      go_wp2_with (at_builtin; refine wpList_push _ rfl (.tmp 38) (.tmp 40) 23 rfl 3 i0 (.int .i64 0) 8 Tryz.underlying23 hi hz0 hz1 hz2 rfl (by decide) w.heap.size u6 (xs.take k).length (encs (xs.take k)) rfl (World.ownsRow.alloc HW2.out _) w2.heap.size 1 (.int .i64 x) rfl (cell_new _ _ _) rfl Q1.out Q2.out ?_; intro o2 w3 hown3 hgrow3 _; have HO3 := Lib.hid hown3; have HG3 := Lib.hid hgrow3; clear hown3 hgrow3)
      go_roundw
      case rel =>
        refine ⟨k + 1, by omega, by rw [HS'.out], Lib.hid ?_, Lib.hid ?_⟩
        · rw [List.take_succ_eq_append_getElem hlt, show xs[k] = x by rw [← HX.out]; simp [List.getD, List.getElem?_eq_getElem hlt]]
          exact Own.push HO3.out
        · exact (HB2.out.alloc HB2.out.size _).grown HG3.out Q2.out (fun q hq => (HW2.out.lt q hq).1)
      case measure =>
        have h1 := HO.out.room
        have h2 := congrArg ByteArray.size HO.out.rest
        rw [ByteArray.size_extract] at h2
        show S'.size < S.size
        omega
    · have hk2 : k = xs.length := by omega
      subst hk2
      rw [HL.out.last]
      go_wp2
      go_ret2
      exact ⟨_, rfl, by have := ho.out; rwa [List.take_length] at this, hb.out⟩
end Go.Proofs.YtpfoaaiedfidbaaGreatDoor
