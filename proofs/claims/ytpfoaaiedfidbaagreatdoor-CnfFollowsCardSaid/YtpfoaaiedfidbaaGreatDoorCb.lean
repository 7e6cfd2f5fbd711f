/- All ways to make ten variables true or false in which clauses hold (the document's). -/
import Derived.Test.YtpfoaaiedfidbaaGreatDoorCa
import Derived.Test.YtpfoaaiedfidbaaGreatDoorBe
namespace Go.Proofs.YtpfoaaiedfidbaaGreatDoor
open Go Go.RowKit

/-- The first so many variables, each one way. -/
def Sig (m : List Int) : Prop := ∀ j, j < m.length → m.getD j 0 = (j : Int) + 1 ∨ m.getD j 0 = -(j : Int) - 1
theorem Sig.snoc {m : List Int} (h : Sig m) {x : Int} (hx : x = (m.length : Int) + 1 ∨ x = -(m.length : Int) - 1) : Sig (m ++ [x]) := by
  intro j hj
  by_cases h1 : j < m.length
  · have := h j h1
    simpa [List.getD, List.getElem?_append_left h1] using this
  · have : j = m.length := by simp at hj; omega
    subst this
    simpa [List.getD] using hx
theorem Sig.nil : Sig [] := fun j hj => by simp at hj
theorem Small.fits {l : List (List Int)} (h : Small l) : Fits l := ⟨by have := h.1; omega, fun c hc => by have := h.2 c hc; omega⟩
set_option maxHeartbeats 4000000 in
set_option maxRecDepth 100000 in
theorem models_any (v : Value) (l : List (List Int)) (w : World) (B : Nat) (h : Grid w B v l) (hs : Fits l) (hB : B ≤ w.heap.size) :
    Calls Tryz.prog 13 #[v, .int .i64 10] w fun e w' => ∃ v' ms, e = .returned v' ∧ Mesh w' w.heap.size v' ms ∧ Below w.heap.size w w' ∧ ms.length ≤ 1024 ∧ ∀ m ∈ ms, Sig m ∧ m.length = 10 ∧ holdsB l m = true := by
  obtain ⟨i0, hi, hz0, hz1, hz2⟩ := info_parts info3
  obtain ⟨j0, ki, kz0, kz1, kz2⟩ := info_parts info23
  have HG := Lib.hid h
  have HS := Lib.hid hs
  clear hs h
  go_enter Tryz.func13, Tryz.ntmps13
  go_wp2
  go_loopw [5, 6] (fun o i wr => ∃ (k : Nat) (ms : List (List Int)), k ≤ 1024 ∧ i = .int .i64 k ∧ ms.length ≤ k ∧ Hid (Mesh wr w.heap.size o ms) ∧ Hid (Below w.heap.size w wr) ∧ Hid (∀ m ∈ ms, Sig m ∧ m.length = 10 ∧ holdsB l m = true)) (fun _ i _ => 1024 - (intOf i).toNat)
  case atStart => exact ⟨0, [], by omega, rfl, by simp, Lib.hid (Mesh.made (Nat.le_refl _)), Lib.hid ((Below.refl _ _).alloc (Nat.le_refl _) _), Lib.hid (by simp)⟩
  case round =>
    obtain ⟨k, ms, hk, rfl, hms, hm, hb, hall⟩ := hrel
    by_cases hlt : k < 1024
    · obtain ⟨wo, rfl⟩ : ∃ wo : World, wo = wr := ⟨_, rfl⟩
      have hsz := hb.out.size
      have hdk : decide ((k : Int) < 1024) = true := by simp; omega
      go_wp2
      go_loopw [7, 8] (fun o i wr => ∃ (j : Nat) (is : List Int), j ≤ 10 ∧ i = .int .i64 j ∧ Hid (Own wr wo.heap.size o is ∧ is.length = j) ∧ Hid (Below wo.heap.size wo wr) ∧ Hid (Sig is)) (fun _ i _ => 10 - (intOf i).toNat)
      case atStart => exact ⟨0, [], by omega, rfl, Lib.hid ⟨World.ownsRow_made wo #[] 0 (Nat.le_refl _) (Nat.zero_le _) rfl, rfl⟩, Lib.hid ((Below.refl _ _).alloc (Nat.le_refl _) _), Lib.hid Sig.nil⟩
      case round =>
        obtain ⟨j, is, hj, rfl, ho, hbi, hsig⟩ := hrel
        by_cases hltj : j < 10
        · have HO := Lib.hid ho.out.1
          have hln : is.length = j := ho.out.2
          have HL := Lib.hid hln
          have Q1 := Lib.hid (show is.length ≤ 1000000 by omega)
          have hs0 : wo.heap.size ≤ wr.heap.size := hbi.out.size
          have QA := Lib.hid (show wo.heap.size ≤ (wr.alloc (.cells #[.int .i64 ((j : Int) + 1)] 3)).heap.size by simp; omega)
          have QB := Lib.hid (show wo.heap.size ≤ (wr.alloc (.cells #[.int .i64 (-(j : Int) - 1)] 3)).heap.size by simp; omega)
          clear hln ho
          cases ht : (bits BinOp.and .i64 ((k : Int) / 2 ^ j) 1 == 1) with
          | true =>
            go_wp2_with (at_builtin; refine wpList_push _ rfl (.tmp 29) (.tmp 32) 23 rfl 3 i0 (.int .i64 0) 8 Tryz.underlying23 hi hz0 hz1 hz2 rfl (by decide) wo.heap.size u7 is.length (encs is) rfl (World.ownsRow.alloc HO.out _) wr.heap.size 1 (.int .i64 ((j : Int) + 1)) rfl (cell_new _ _ _) rfl Q1.out QA.out ?_; intro o2 w2 hown2 hgrow2 _; have HO2 := Lib.hid hown2; have HG2 := Lib.hid hgrow2; clear hown2 hgrow2)
            go_roundw
            case rel =>
              refine ⟨j + 1, is ++ [(j : Int) + 1], by omega, by go_num, Lib.hid ⟨Own.push HO2.out, by simp [HL.out]⟩, Lib.hid ?_, Lib.hid (hsig.out.snoc (.inl (by rw [HL.out])))⟩
              exact ((hbi.out.alloc hs0 _).grown HG2.out QA.out (fun q hq => (HO.out.lt q hq).1))
            case measure => simp [intOf]; omega
          | false =>
            go_wp2_with (at_builtin; refine wpList_push _ rfl (.tmp 34) (.tmp 38) 23 rfl 3 i0 (.int .i64 0) 8 Tryz.underlying23 hi hz0 hz1 hz2 rfl (by decide) wo.heap.size u7 is.length (encs is) rfl (World.ownsRow.alloc HO.out _) wr.heap.size 1 (.int .i64 (-(j : Int) - 1)) rfl (cell_new _ _ _) rfl Q1.out QB.out ?_; intro o2 w2 hown2 hgrow2 _; have HO2 := Lib.hid hown2; have HG2 := Lib.hid hgrow2; clear hown2 hgrow2)
            go_roundw
            case rel =>
              refine ⟨j + 1, is ++ [-(j : Int) - 1], by omega, by go_num, Lib.hid ⟨Own.push HO2.out, by simp [HL.out]⟩, Lib.hid ?_, Lib.hid (hsig.out.snoc (.inr (by rw [HL.out])))⟩
              exact ((hbi.out.alloc hs0 _).grown HG2.out QB.out (fun q hq => (HO.out.lt q hq).1))
            case measure => simp [intOf]; omega
        · have HO := Lib.hid ho.out.1
          have hln : is.length = 10 := by have := ho.out.2; omega
          have HL := Lib.hid hln
          have hs0 : wo.heap.size ≤ wr.heap.size := hbi.out.size
          have hbw := hb.out.trans (hbi.out.mono hsz)
          have HBW := Lib.hid hbw
          obtain ⟨us, hul, hou, hru⟩ := hm.out.below hbi.out (Nat.le_refl _)
          have HU := Lib.hid hul
          have HOU := Lib.hid hou
          have HRU := Lib.hid hru
          obtain ⟨A1, c1, e1⟩ := HO.out.form
          rw [hln] at e1
          subst e1
          have HC := Lib.hid (rholds_any v (.slice A1 10 c1) l is wr B wr.heap.size (HG.out.below HBW.out hB) HS.out HO.out.nums (by omega))
          have Q1 := Lib.hid (show us.length ≤ 1000000 by omega)
          have Q2 := Lib.hid (show w.heap.size ≤ (wr.alloc (.cells #[.slice A1 10 c1] 23)).heap.size by simp; omega)
          clear hln ho hul hou hru hbw
          cases hh : holdsB l is with
          | true =>
            have HH := Lib.hid hh
            clear hh
            go_wp2_with (first
              | (go_at_call 16; refine (HC.out).mono ?_; rintro e w' ⟨rfl, rfl⟩; rw [HH.out])
              | (at_builtin; refine wpList_push _ rfl (.tmp 43) (.tmp 45) 22 rfl 23 j0 (.slice none 0 0) 24 Tryz.underlying22 ki kz0 kz1 kz2 rfl (by decide) w.heap.size u5 us.length us rfl (World.ownsRow.alloc HOU.out _) wr.heap.size 1 (.slice A1 10 c1) rfl (cell_new _ _ _) rfl Q1.out Q2.out ?_; intro o2 w2 hown2 hgrow2 _; have HO2 := Lib.hid hown2; have HG2 := Lib.hid hgrow2; clear hown2 hgrow2))
            go_roundw
            case rel =>
              refine ⟨k + 1, ms ++ [is], by omega, by go_num, by simp; omega, Lib.hid ?_, Lib.hid ?_, Lib.hid ?_⟩
              · exact Mesh.push (w := wr.alloc (.cells #[.slice A1 10 c1] 23)) HU.out (World.ownsRow.alloc HOU.out _) (fun j hj => World.ownsRow.alloc (HRU.out j hj) _) (World.ownsRow.alloc (HO.out.mono hsz) _) HG2.out HO2.out
              · exact (HBW.out.alloc (by omega) _).grown HG2.out Q2.out (fun q hq => (HOU.out.lt q hq).1)
              · intro m hm2
                rw [List.mem_append, List.mem_singleton] at hm2
                rcases hm2 with h | rfl
                · exact hall.out m h
                · exact ⟨hsig.out, HL.out, HH.out⟩
            case measure => simp [intOf]; omega
          | false =>
            have HH := Lib.hid hh
            clear hh
            go_wp2_with (go_at_call 16; refine (HC.out).mono ?_; rintro e w' ⟨rfl, rfl⟩; rw [HH.out])
            go_roundw
            case rel => exact ⟨k + 1, ms, by omega, by go_num, by omega, Lib.hid (hm.out.below hbi.out (Nat.le_refl _)), HBW, hall⟩
            case measure => simp [intOf]; omega
    · go_wp2
      go_ret
      exact ⟨_, ms, rfl, hm.out, hb.out, by omega, hall.out⟩
end Go.Proofs.YtpfoaaiedfidbaaGreatDoor
