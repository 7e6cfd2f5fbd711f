/- The tables of lex, and the contracts of signSize, gap and first. -/
import Derived.Test.YtilfganjpgkjdaaDoorLc
import Derived.Test.YtilfganjpgkjdaaDoorShelf
namespace Go.Proofs.YtilfganjpgkjdaaDoor
open Go Go.RowKit

def keysL : List (List UInt8) := [[98, 111, 111, 108], [117, 56], [117, 49, 54], [117, 51, 50], [117, 54, 52], [105, 56], [105, 49, 54], [105, 51, 50], [105, 54, 52], [118, 111, 105, 100], [105, 102], [101, 108, 115, 101], [119, 104, 105, 108, 101], [114, 101, 116, 117, 114, 110], [97, 115, 115, 101, 114, 116], [97, 115, 115, 117, 109, 101], [110, 111, 110, 100, 101, 116], [116, 114, 117, 101], [102, 97, 108, 115, 101]]

/-- A table of texts lies somewhere, and the variable number g names it. -/
structure StrTab (g n : Nat) (L : List (List UInt8)) (b off cap : Nat) (w : World) : Prop where
  tg : w.cell? ⟨g, 0, none⟩ = some (.slice (some ⟨b, off, none⟩) n cap)
  tn : ∀ i, i < n → w.cell? ⟨b, off + i, none⟩ = some (.string ⟨(L.getD i []).toArray⟩)
theorem cell_lt {w : World} {p : Addr} {v : Value} (h : w.cell? p = some v) : p.block < w.heap.size := by
  by_cases hh : p.block < w.heap.size
  · exact hh
  · exfalso
    have : w.heap[p.block]? = none := by simp; omega
    simp [World.cell?, this] at h
theorem StrTab.below {g n b off cap : Nat} {L : List (List UInt8)} {w w' : World} (h : StrTab g n L b off cap w) (hb : Below w.heap.size w w') : StrTab g n L b off cap w' :=
  ⟨(hb.cell (cell_lt h.tg)).trans h.tg, fun i hi => (hb.cell (cell_lt (h.tn i hi))).trans (h.tn i hi)⟩
def Keys (w : World) : Prop := ∃ b off cap, StrTab 0 19 keysL b off cap w
def Signs (w : World) : Prop := ∃ b off cap, StrTab 1 29 signsL b off cap w
def Tab (w : World) : Prop := Keys w ∧ Signs w
theorem Tab.below {w w' : World} (h : Tab w) (hb : Below w.heap.size w w') : Tab w' := by
  obtain ⟨⟨b, off, cap, h1⟩, ⟨b', off', cap', h2⟩⟩ := h
  exact ⟨⟨b, off, cap, h1.below hb⟩, ⟨b', off', cap', h2.below hb⟩⟩

theorem sign_hit {l : List UInt8} {k : Nat} (h : k < 29) (hp : Lib.hasPrefix l (signsL.getD k []) = true) (hr : signFrom l (signsL.drop k) = signL l) : ((signsL.getD k []).length : Int) = (signL l : Int) := by
  have hl : k < signsL.length := h
  rw [List.drop_eq_getElem_cons hl, signFrom] at hr
  rw [List.getD_eq_getElem?_getD, List.getElem?_eq_getElem hl, Option.getD_some] at *
  rw [if_pos hp] at hr
  omega
theorem sign_miss {l : List UInt8} {k : Nat} (h : k < 29) (hp : Lib.hasPrefix l (signsL.getD k []) = false) (hr : signFrom l (signsL.drop k) = signL l) : signFrom l (signsL.drop (k + 1)) = signL l := by
  have hl : k < signsL.length := h
  rw [List.drop_eq_getElem_cons hl, signFrom] at hr
  rw [List.getD_eq_getElem?_getD, List.getElem?_eq_getElem hl, Option.getD_some] at *
  rw [if_neg (by simp [hp])] at hr
  exact hr
theorem sign_end {l : List UInt8} {k : Nat} (h : k ≤ 29) (h' : ¬ k < 29) (hr : signFrom l (signsL.drop k) = signL l) : (0 : Int) = (signL l : Int) := by
  obtain rfl : k = 29 := by omega
  have : signFrom l (signsL.drop 29) = 0 := rfl
  omega

set_option maxHeartbeats 400000 in
theorem sign_any (s : ByteArray) (w : World) (ht : Signs w) :
    Calls Tryd.prog 39 #[.string s] w fun e w' => e = .returned (.int .i64 (signL s.data.toList)) ∧ w = w' := by
  obtain ⟨b, off, cap, ht⟩ := ht
  have g := ht.tg
  go_enter Tryd.func39, Tryd.ntmps39
  go_wp2
  go_loop [7] (fun i => ∃ k : Nat, k ≤ 29 ∧ i = .int .i64 k ∧ signFrom s.data.toList (signsL.drop k) = signL s.data.toList) (fun i => 29 - (intOf i).toNat)
  case atStart => exact ⟨0, Nat.zero_le _, rfl, rfl⟩
  case round =>
    obtain ⟨k, hk, rfl, hr⟩ := hrel
    have Hr := Lib.hid hr
    clear hr
    by_cases hlt : k < 29
    · have hc := ht.tn k hlt
      have HT := Lib.hid ht
      clear ht g
      have h1 := fun w => Tryd.strings_HasPrefix s ⟨(signsL.getD k []).toArray⟩ w
      dsimp only at h1
      cases hp : Lib.hasPrefix s.data.toList (signsL.getD k [])
      · have H1 := Lib.hid h1
        clear h1
        have HP := Lib.hid hp
        clear hp
        go_wp2_with (go_at_call 33; refine (H1.out _).mono ?_; rintro e w' ⟨rfl, rfl⟩; rw [HP.out])
        go_round
        case rel => exact ⟨k + 1, by omega, by go_num, sign_miss hlt HP.out Hr.out⟩
        case measure => simp [intOf]; omega
      · have H1 := Lib.hid h1
        clear h1
        have HP := Lib.hid hp
        clear hp
        go_wp2_with (go_at_call 33; refine (H1.out _).mono ?_; rintro e w' ⟨rfl, rfl⟩; rw [HP.out])
        go_ret
        exact ⟨ret_int (by have := sign_hit hlt HP.out Hr.out; simpa using this), rfl⟩
    · clear g ht
      go_wp2
      go_ret
      exact ⟨ret_int (sign_end hk hlt Hr.out), rfl⟩
end Go.Proofs.YtilfganjpgkjdaaDoor
