/- The library's Grow of nothing, and Concat. -/
import Derived.Test.YtpfoaaiedfidbaaGreatDoorDb
import Derived.Test.YtpfoaaiedfidbaaGreatDoorShelfg
namespace Go.Proofs.YtpfoaaiedfidbaaGreatDoor
open Go Go.RowKit

theorem grow_nil (n : Nat) (w : World) (hn : n ≤ 1000000) :
    Calls Tryz.prog 54 #[.slice none 0 0, .int .i64 n] w fun e w' => ∃ v', e = .returned v' ∧ Own w' w.heap.size v' [] ∧ Below w.heap.size w w' := by
  by_cases h0 : n = 0
  · subst h0
    exact (Any8.slices_Grow_room Tryz.layGrow none 0 0 0 w (by omega) (by omega) (by omega) (by omega)).mono fun e w' ⟨he, hw⟩ => ⟨_, he, by rw [hw]; exact Own.nil _ _, by rw [hw]; exact Below.refl _ _⟩
  · obtain ⟨i0, hi, hz0, hz1, hz2⟩ := info_parts info3
    refine (Any8.slices_Grow_grow Tryz.layGrow i0 (.int .i64 0) hi hz0 (by rw [hz1]; decide) none 0 0 n [] w (Nat.le_refl _) (by omega) (by rw [hz2]; omega) (by omega) (by simp) (fun _ => rfl) (fun a h => by cases h)).mono fun e w' ⟨he, hw⟩ => ?_
    have hge := grownCap_ge w (0 + n) 0 (Tryz.layGrow_ren.t 25)
    have hle := grownCap_le_maxLen w (0 + n) 0 (Tryz.layGrow_ren.t 25) (by unfold maxLen; omega)
    have hsize : ∀ m : Nat, (Builtin.zeroCells (Value.int .i64 0).cells m).size = m := by
      intro m
      simp [Builtin.zeroCells, Value.cells]
    refine ⟨_, he, ?_, ?_⟩
    · rw [hw]
      refine World.ownsRow_made w.drew _ _ (Nat.le_refl _) hle ?_
      simp only [Array.size_append, hsize]
      rw [Nat.zero_add] at hge ⊢
      simp
      omega
    · rw [hw]
      exact (Below.refl _ w).drew.alloc (Nat.le_refl _) _
theorem flat_snoc {l : List (List Int)} {k : Nat} {r : List Int} (h : k < l.length) (hr : l.getD k [] = r) : (l.take (k + 1)).flatten = (l.take k).flatten ++ r := by
  rw [List.take_succ_eq_append_getElem h]
  simp only [List.getD, List.getElem?_eq_getElem h, Option.getD_some] at hr
  rw [hr]
  simp
theorem flat_len {l : List (List Int)} (h : ∀ c ∈ l, c.length ≤ 1000) : l.flatten.length ≤ l.length * 1000 := by
  induction l with
  | nil => simp
  | cons c r ih =>
    have h1 := h c (by simp)
    have h2 := ih (fun x hx => h x (by simp [hx]))
    simp only [List.flatten_cons, List.length_append, List.length_cons]
    omega
theorem flat_take_len {l : List (List Int)} (h : Small l) (k : Nat) : (l.take k).flatten.length ≤ 1000000 := by
  have h1 := flat_len (l := l.take k) (fun c hc => h.2 c (List.mem_of_mem_take hc))
  have h2 := h.1
  have h3 : (l.take k).length ≤ l.length := List.length_take_le' _ _
  omega
set_option maxHeartbeats 1600000 in
set_option maxRecDepth 100000 in
theorem concat_any (v : Value) (l : List (List Int)) (w : World) (B : Nat) (h : Grid w B v l) (hs : Small l) (hB : B ≤ w.heap.size) :
    Calls Tryz.prog 33 #[v] w fun e w' => ∃ v', e = .returned v' ∧ Own w' w.heap.size v' l.flatten ∧ Below w.heap.size w w' := by
  obtain ⟨i0, hi, hz0, hz1, hz2⟩ := info_parts info3
  have HG := Lib.hid h
  obtain ⟨A, c, rfl, hc, hat⟩ := h
  have HA := Lib.hid hat
  have HS := Lib.hid hs
  have hl := hs.1
  clear hs hat
  go_enter Tryz.func33, Tryz.ntmps33
  go_wp2
  go_loop [3, 11] (fun z i => ∃ (k m : Nat), k ≤ l.length ∧ m ≤ 1000000 ∧ i = .int .i64 k ∧ z = .int .i64 m ∧ Hid ((l.take k).flatten.length = m)) (fun _ i => l.length - (intOf i).toNat)
  case atStart => exact ⟨0, 0, Nat.zero_le _, by omega, rfl, rfl, Lib.hid (by simp)⟩
  case round =>
    obtain ⟨k, m, hk, hm, rfl, rfl, hml⟩ := hrel
    by_cases hlt : k < l.length
    · obtain ⟨b, off, rfl, hbB, hcell⟩ := HA.out (by omega)
      obtain ⟨r, hr0⟩ : ∃ r, l.getD k [] = r := ⟨_, rfl⟩
      obtain ⟨u, hu, hn⟩ := hcell k hlt
      have hrl := HS.out.at_ hlt
      have hbd := flat_take_len HS.out (k + 1)
      rw [flat_snoc hlt hr0, List.length_append, hml.out] at hbd
      rw [hr0] at hn hrl
      have HR := Lib.hid hr0
      obtain ⟨A2, c2, rfl, hc2, _⟩ := hn
      clear hcell hr0
      go_wp2
      go_round
      case rel => exact ⟨k + 1, m + r.length, by omega, by omega, by go_num, by go_num, Lib.hid (by rw [flat_snoc hlt HR.out, List.length_append, hml.out])⟩
      case measure => simp [intOf]; omega
    · have HK := Lib.hid (show l.take k = l from List.take_of_length_le (by omega))
      go_wp2_with fail
      refine (grow_nil m w hm).mono ?_
      rintro e w1 ⟨v1, rfl, ho1, hb1⟩
      have HO1 := Lib.hid ho1
      have HB1 := Lib.hid hb1
      clear ho1 hb1
      go_wp2_with fail
      go_loopw [6, 27] (fun o i wr => ∃ j : Nat, j ≤ l.length ∧ i = .int .i64 j ∧ Hid (Own wr w.heap.size o (l.take j).flatten) ∧ Hid (Below w.heap.size w wr)) (fun _ i _ => l.length - (intOf i).toNat)
      case atStart => exact ⟨0, Nat.zero_le _, rfl, Lib.hid (by simpa using HO1.out), HB1⟩
      case round =>
        obtain ⟨j, hj, rfl, ho, hb⟩ := hrel
        by_cases hlt2 : j < l.length
        · obtain ⟨A', c', e', _, hat⟩ := HG.out.below hb.out hB
          cases e'
          obtain ⟨b, off, rfl, hbB, hcell⟩ := hat (by omega)
          obtain ⟨r, hr0⟩ : ∃ r, l.getD j [] = r := ⟨_, rfl⟩
          obtain ⟨u, hu, hn⟩ := hcell j hlt2
          have hbd := flat_take_len HS.out (j + 1)
          rw [flat_snoc hlt2 hr0, List.length_append] at hbd
          rw [hr0] at hn
          have HR := Lib.hid hr0
          have HN := Lib.hid hn
          have HBD := Lib.hid hbd
          have HSZ := Lib.hid hb.out.size
          clear hcell hat hr0 hn hbd
          go_wp2_with (at_builtin; refine wpList_append_nums _ rfl (.tmp 31) (.tmp 32) 23 rfl 3 i0 Tryz.underlying23 hi hz0 hz1 hz2 w.heap.size u6 (l.take j).flatten rfl ho.out B u r rfl HN.out HBD.out HSZ.out ?_; intro v2 w2 hown2 hgrow2 _; have HO2 := Lib.hid hown2; have HG2 := Lib.hid hgrow2; clear hown2 hgrow2)
          go_roundw
          case rel => exact ⟨j + 1, by omega, by go_num, Lib.hid (by rw [flat_snoc hlt2 HR.out]; exact HO2.out), Lib.hid (hb.out.grown HG2.out HSZ.out (fun q hq => (ho.out.lt q hq).1))⟩
          case measure => simp [intOf]; omega
        · go_wp2
          go_ret
          exact ⟨_, rfl, by have := ho.out; rwa [List.take_of_length_le (by omega)] at this, hb.out⟩
end Go.Proofs.YtpfoaaiedfidbaaGreatDoor
