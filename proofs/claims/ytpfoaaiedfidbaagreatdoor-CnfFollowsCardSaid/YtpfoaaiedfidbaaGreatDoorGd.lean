/- A text that is clauses. -/
import Derived.Test.YtpfoaaiedfidbaaGreatDoorGc
namespace Go.Proofs.YtpfoaaiedfidbaaGreatDoor
open Go Go.RowKit

/-- What is known of a line and what follows it. -/
structure RestOk (s : ByteArray) (i : Nat) (xs : List Int) (s' : ByteArray) : Prop where
  ix : Lib.indexByte s.data.toList 10 = i
  room : i + 1 ≤ s.size
  small : s.size ≤ 1000
  rest : s.extract (i + 1) s.size = s'
  line : ∃ W ix, LineOk (s.extract 0 i) xs W ix
theorem RestOk.full {s s' : ByteArray} {i : Nat} {xs : List Int} (h : RestOk s i xs s') : s.toList.isEmpty = false := by
  have h1 := h.room
  rw [Lib.toList_data]
  cases hl : s.data.toList with
  | nil =>
    have h2 : s.size = 0 := by rw [Lib.size_eq, hl]; rfl
    omega
  | cons _ _ => rfl
structure TextOk (l : List (List Int)) (W : Nat → ByteArray) (ix : Nat → Nat) : Prop where
  short : l.length ≤ 1000
  last : W l.length = ⟨#[]⟩
  step : ∀ k, k < l.length → RestOk (W k) (ix k) (l.getD k []) (W (k + 1))
set_option maxHeartbeats 4000000 in
set_option maxRecDepth 100000 in
theorem read_any (l : List (List Int)) (W : Nat → ByteArray) (ix : Nat → Nat) (h : TextOk l W ix) (w : World) (hp : Pow w) :
    Calls Tryz.prog 20 #[.string (W 0)] w fun e w' => ∃ v', e = .returned (.tuple #[v', .int .i64 0]) ∧ Mesh w' w.heap.size v' l ∧ Below w.heap.size w w' := by
  obtain ⟨j0, ki, kz0, kz1, kz2⟩ := info_parts info23
  have HL := Lib.hid h
  have HP := Lib.hid hp
  clear h hp
  go_enter Tryz.func20, Tryz.ntmps20
  go_wp2_with fail
  go_loopw [0, 4] (fun s' o wr => ∃ k : Nat, k ≤ l.length ∧ s' = .string (W k) ∧ Hid (Mesh wr w.heap.size o (l.take k)) ∧ Hid (Below w.heap.size w wr)) (fun s' _ _ => match s' with | .string b => b.size | _ => 0)
  case atStart => exact ⟨0, Nat.zero_le _, rfl, Lib.hid (by simpa using Mesh.nil _ _), Lib.hid (Below.refl _ _)⟩
  case round =>
    obtain ⟨k, hk, rfl, ho, hb⟩ := hrel
    by_cases hlt : k < l.length
    · have HO := Lib.hid (HL.out.step k hlt)
      obtain ⟨x, hx⟩ : ∃ x, l.getD k [] = x := ⟨_, rfl⟩
      have HX := Lib.hid hx
      rw [hx] at HO
      obtain ⟨S, hS⟩ : ∃ S, W k = S := ⟨_, rfl⟩
      obtain ⟨S', hS'⟩ : ∃ S', W (k + 1) = S' := ⟨_, rfl⟩
      rw [hS, hS'] at HO
      rw [hS]
      have HS' := Lib.hid hS'
      obtain ⟨i, hii⟩ : ∃ i, ix k = i := ⟨_, rfl⟩
      rw [hii] at HO
      clear hx hS hS' hii
      have hne := HO.out.full
      have HC := Lib.hid (cut_below S 10 i wr HO.out.ix HO.out.room (by have := HO.out.small; omega))
      rw [HO.out.rest] at HC
      go_wp2_with (go_at_call 39; refine (HC.out).mono ?_; rintro e w1 ⟨rfl, hb1⟩)
      have hbb := hb.out.trans (hb1.mono hb.out.size)
      obtain ⟨V, jx, hline⟩ := HO.out.line
      have HD := Lib.hid (clause_any (S.extract 0 i) x V jx hline w1 (HP.out.under hbb HP.out.lt))
      have HW1 := Lib.hid (ho.out.below hb1 (Nat.le_refl _))
      have HBB := Lib.hid hbb
      clear hb1 hbb hline
      go_wp2_with fail
      refine (HD.out).mono ?_
      rintro e w2 ⟨v2, rfl, ho2, hb2⟩
      obtain ⟨A2, c2, rfl⟩ := ho2.form
      have HV2 := Lib.hid ho2
      have HB2 := Lib.hid (HBB.out.trans (hb2.mono HBB.out.size))
      obtain ⟨us, hul, hou, hru⟩ := HW1.out.below hb2 (Nat.le_refl _)
      have HU := Lib.hid hul
      have HOU := Lib.hid hou
      have HRU := Lib.hid hru
      have hsz1 : w.heap.size ≤ w1.heap.size := HBB.out.size
      have HZ := Lib.hid hsz1
      have Q1 := Lib.hid (show us.length ≤ 1000000 by have := HL.out.short; have := List.length_take_le' k l; omega)
      have Q2 := Lib.hid (show w.heap.size ≤ (w2.alloc (.cells #[.slice A2 x.length c2] 23)).heap.size by have := HB2.out.size; simp; omega)
      have Q3 := Lib.hid (show (Value.slice A2 x.length c2).oneCell' = true from rfl)
      clear hb2 ho2 hul hou hru hsz1
      go_wp2_with (at_builtin; refine wpList_push _ rfl (.tmp 29) (.tmp 31) 22 rfl 23 j0 (.slice none 0 0) 24 Tryz.underlying22 ki kz0 kz1 kz2 rfl (by decide) w.heap.size u4 us.length us rfl (World.ownsRow.alloc HOU.out _) w2.heap.size 1 (.slice A2 x.length c2) rfl (cell_new _ _ _) Q3.out Q1.out Q2.out ?_; intro o2 w3 hown3 hgrow3 _; have HO3 := Lib.hid hown3; have HG3 := Lib.hid hgrow3; clear hown3 hgrow3)
      go_roundw
      case rel =>
        refine ⟨k + 1, by omega, by rw [HS'.out], Lib.hid ?_, Lib.hid ?_⟩
        · rw [List.take_succ_eq_append_getElem hlt, show l[k] = x by rw [← HX.out]; simp [List.getD, List.getElem?_eq_getElem hlt]]
          exact Mesh.push (w := w2.alloc (.cells #[.slice A2 x.length c2] 23)) HU.out (World.ownsRow.alloc HOU.out _) (fun j hj => World.ownsRow.alloc (HRU.out j hj) _) (World.ownsRow.alloc (HV2.out.mono HZ.out) _) HG3.out HO3.out
        · exact (HB2.out.alloc HB2.out.size _).grown HG3.out Q2.out (fun q hq => (HOU.out.lt q hq).1)
      case measure =>
        have h1 := HO.out.room
        have h2 := congrArg ByteArray.size HO.out.rest
        rw [ByteArray.size_extract] at h2
        show S'.size < S.size
        omega
    · have hk2 : k = l.length := by omega
      subst hk2
      rw [HL.out.last]
      go_wp2
      go_ret2
      exact ⟨_, rfl, by have := ho.out; rwa [List.take_length] at this, hb.out⟩
end Go.Proofs.YtpfoaaiedfidbaaGreatDoor
