/- A list of its own; clauses of their own. -/
import Derived.Test.YtpfoaaiedfidbaaGreatDoorAd
import Derived.Test.YtpfoaaiedfidbaaGreatDoorBa
namespace Go.Proofs.YtpfoaaiedfidbaaGreatDoor
open Go Go.RowKit

/-- Not too long for any memory. -/
def Small (l : List (List Int)) : Prop := l.length ≤ 1000 ∧ ∀ c ∈ l, c.length ≤ 1000
theorem Small.at_ {l : List (List Int)} {k : Nat} (h : Small l) (hk : k < l.length) : (l.getD k []).length ≤ 1000 := by
  simp only [List.getD, List.getElem?_eq_getElem hk, Option.getD_some]
  exact h.2 _ (List.getElem_mem hk)
theorem mine_any (v : Value) (xs : List Int) (w : World) (B : Nat) (h : Nums w B v xs) (hl : xs.length ≤ 100000) (hB : B ≤ w.heap.size) :
    Calls Tryz.prog 12 #[v] w fun e w' => ∃ v', e = .returned v' ∧ Own w' w.heap.size v' xs ∧ Below w.heap.size w w' := by
  obtain ⟨i0, hi, hz0, hz1, hz2⟩ := info_parts info3
  have H := Lib.hid (show Nums (w.alloc (.cells #[] 3)) B v xs from h.keep fun p hp => World.cell?_alloc_lt w _ p (by omega))
  clear h
  go_enter Tryz.func12, Tryz.ntmps12
  go_wp2_with (at_builtin; refine wpList_append_nums _ rfl _ _ 23 rfl 3 i0 Tryz.underlying23 hi hz0 hz1 hz2 w.heap.size _ [] rfl (World.ownsRow_made w #[] 0 (Nat.le_refl _) (Nat.zero_le _) rfl) B v xs rfl H.out (by simp; omega) (by simp) ?_)
  intro v' w1 hown hgrow _
  go_wp2
  go_ret
  exact ⟨v', rfl, by simpa [Own] using hown, ((Below.refl _ w).alloc (Nat.le_refl _) _).grown hgrow (by simp) (by intro k hk; simp [Value.ownBlock] at hk; omega)⟩
set_option maxHeartbeats 1600000 in
set_option maxRecDepth 100000 in
theorem copied_any (v : Value) (l : List (List Int)) (w : World) (B : Nat) (h : Grid w B v l) (hs : Small l) (hB : B ≤ w.heap.size) :
    Calls Tryz.prog 9 #[v] w fun e w' => ∃ v', e = .returned v' ∧ Mesh w' w.heap.size v' l ∧ Below w.heap.size w w' := by
  obtain ⟨i0, hi, hz0, hz1, hz2⟩ := info_parts info3
  obtain ⟨j0, ki, kz0, kz1, kz2⟩ := info_parts info23
  have HG := Lib.hid h
  obtain ⟨A, c, rfl, hc, _⟩ := h
  have HS := Lib.hid hs
  have hl := hs.1
  clear hs
  go_enter Tryz.func9, Tryz.ntmps9
  go_wp2
  go_loopw [3, 4] (fun o i wr => ∃ k : Nat, k ≤ l.length ∧ i = .int .i64 k ∧ Hid (Mesh wr w.heap.size o (l.take k)) ∧ Hid (Below w.heap.size w wr)) (fun _ i _ => l.length - (intOf i).toNat)
  case atStart => exact ⟨0, Nat.zero_le _, rfl, Lib.hid (by simpa using Mesh.made (Nat.le_refl _)), Lib.hid ((Below.refl _ _).alloc (Nat.le_refl _) _)⟩
  case round =>
    obtain ⟨k, hk, rfl, hm, hb⟩ := hrel
    by_cases hlt : k < l.length
    · obtain ⟨us, hul, ho, hr⟩ := hm.out
      obtain ⟨A', c', e', _, hat⟩ := HG.out.below hb.out hB
      cases e'
      obtain ⟨b, off, rfl, hbB, hcell⟩ := hat (by omega)
      obtain ⟨r, hr0⟩ : ∃ r, l.getD k [] = r := ⟨_, rfl⟩
      obtain ⟨u, hu, hn⟩ := hcell k hlt
      have hrl := HS.out.at_ hlt
      rw [hr0] at hn hrl
      have hulen : us.length = k := by rw [hul]; simp; omega
      have HU := Lib.hid hulen
      have HO := Lib.hid ho
      have HR := Lib.hid hr
      have HR0 := Lib.hid hr0
      have HN := Lib.hid (show Nums (wr.alloc (.cells #[] 3)) B u r from hn.keep fun p hp => World.cell?_alloc_lt wr _ p (by have := hb.out.size; omega))
      have hsz : w.heap.size ≤ wr.heap.size := hb.out.size
      have hbw : b < wr.heap.size := by omega
      have Q4 := Lib.hid (show us.length ≤ 1000000 by omega)
      have Q1 := Lib.hid (show ([] : List Int).length + r.length ≤ 1000000 by simp; omega)
      have Q2 := Lib.hid (show w.heap.size ≤ (wr.alloc (.cells #[] 3)).heap.size by simp; omega)
      have HNE := Lib.hid (show u3.ownBlock = none ∨ u3.ownBlock ≠ (Value.slice (some ⟨wr.heap.size, 0, none⟩) 0 0).ownBlock by
        cases hob : u3.ownBlock with
        | none => exact .inl rfl
        | some g => right; have := (HO.out.lt g hob).2; simp [Value.ownBlock]; omega)
      clear hcell hat hr0 hn hulen hul ho hr hm
      go_wp2_with (first
        | (at_builtin
           refine wpList_append_nums _ rfl (.tmp 13) (.tmp 17) 23 rfl 3 i0 Tryz.underlying23 hi hz0 hz1 hz2 w.heap.size (.slice (some ⟨wr.heap.size, 0, none⟩) 0 0) [] rfl (World.ownsRow_made wr #[] 0 hsz (Nat.zero_le _) rfl) B u r rfl HN.out Q1.out Q2.out ?_
           intro u1 w1 hown1 hgrow1 _
           have hO1 : Own w1 w.heap.size u1 r := by simpa [Own] using hown1
           obtain ⟨A1, c1, rfl⟩ := hO1.form
           have HO1 := Lib.hid hO1
           clear hO1
           have HG1 := Lib.hid hgrow1
           have HP1 := Lib.hid ((HO.out.alloc (.cells #[] 3)).kept hgrow1 HNE.out)
           have hs1 : w.heap.size ≤ w1.heap.size := Nat.le_trans Q2.out hgrow1.size
           have Q3 := Lib.hid (show w.heap.size ≤ (w1.alloc (.cells #[.slice A1 r.length c1] 23)).heap.size by simp; omega)
           clear hown1 hgrow1)
        | (at_builtin
           refine wpList_push _ rfl (.tmp 12) (.tmp 19) 22 rfl 23 j0 (.slice none 0 0) 24 Tryz.underlying22 ki kz0 kz1 kz2 rfl (by decide) w.heap.size u3 us.length us rfl (HP1.out.alloc _) w1.heap.size 1 (.slice A1 r.length c1) rfl (cell_new _ _ _) HO1.out.one Q4.out Q3.out ?_
           intro o2 w2 hown2 hgrow2 _
           have HO2 := Lib.hid hown2
           have HG2 := Lib.hid hgrow2
           clear hown2 hgrow2))
      go_wp2
      go_roundw
      case rel =>
        refine ⟨k + 1, by omega, by go_num, Lib.hid ?_, Lib.hid ?_⟩
        · rw [List.take_succ_eq_append_getElem hlt, show l[k] = r by rw [← HR0.out]; simp [List.getD, List.getElem?_eq_getElem hlt]]
          refine Mesh.push (w := w1.alloc (.cells #[.slice A1 r.length c1] 23)) (by rw [HU.out]; simp; omega) (HP1.out.alloc _) (fun j hj => ?_) (World.ownsRow.alloc HO1.out _) HG2.out HO2.out
          have hr1 := HR.out j hj
          refine World.ownsRow.alloc (World.ownsRow.kept (World.ownsRow.alloc hr1 _) HG1.out ?_) _
          cases hob : (us.getD j (.slice none 0 0)).ownBlock with
          | none => exact .inl rfl
          | some g => right; have := (hr1.lt g hob).2; simp [Value.ownBlock]; omega
        · exact ((((hb.out.alloc hsz _).grown HG1.out (by simp; omega) (fun q hq => by simp [Value.ownBlock] at hq; omega)).alloc hs1 _).grown HG2.out Q3.out (fun q hq => (HO.out.lt q hq).1))
      case measure => simp [intOf]; omega
    · go_wp2
      go_ret
      exact ⟨_, rfl, by have := hm.out; rwa [List.take_of_length_le (by omega)] at this, hb.out⟩
end Go.Proofs.YtpfoaaiedfidbaaGreatDoor
