/- The contracts of the document's Number and of both Keywords. -/
import Derived.Test.YtilfganjpgkjdaaDoorLg
namespace Go.Proofs.YtilfganjpgkjdaaDoor
open Go Go.RowKit

set_option maxHeartbeats 400000 in
theorem rnumber_nil (w : World) : Calls Tryd.prog 9 #[.string ⟨#[]⟩] w fun e w' => e = .returned (.tuple #[.int .u64 0, .bool false]) ∧ w = w' := by
  go_enter Tryd.func9, Tryd.ntmps9
  go_wp2
  go_loop [6] (fun i => i = .int .i64 0) (fun _ => 0)
  case atStart => rfl
  case round =>
    subst hrel
    go_wp2
    go_ret2
    exact ⟨rfl, rfl⟩
set_option maxHeartbeats 400000 in
theorem rnumber_0x (w : World) : Calls Tryd.prog 9 #[.string ⟨#[48, 120]⟩] w fun e w' => e = .returned (.tuple #[.int .u64 0, .bool false]) ∧ w = w' := by
  have e1 : (((⟨#[48, 120]⟩ : ByteArray).extract 0 2).toList == [48, 120]) = true := by rw [Lib.toList_data, Lib.extract_data]; rfl
  have e2 : (⟨#[48, 120]⟩ : ByteArray).size = 2 := rfl
  have e3 : ((⟨#[48, 120]⟩ : ByteArray).extract 2 2).size = 0 := by rw [size_len, Lib.extract_data]; rfl
  generalize (⟨#[48, 120]⟩ : ByteArray) = s at *
  go_enter Tryd.func9, Tryd.ntmps9
  go_wp2
  go_loop [6] (fun i => i = .int .i64 0) (fun _ => 0)
  case atStart => rfl
  case round =>
    subst hrel
    go_wp2
    go_ret2
    exact ⟨rfl, rfl⟩
theorem bs_eq {s : ByteArray} {l : List UInt8} (h : s.data.toList = l) : s = ⟨l.toArray⟩ := by
  obtain ⟨⟨d⟩⟩ := s
  cases h
  rfl
theorem rnumber_any (s : ByteArray) (w : World) (hs : s.size ≤ maxLen) :
    Calls Tryd.prog 9 #[.string s] w fun e w' => e = .returned (.tuple #[.int .u64 ((numL s.data.toList).getD 0), .bool (numL s.data.toList).isSome]) ∧ w = w' := by
  have hx := hex_at s
  have hl := size_len s
  unfold numL
  by_cases h0 : s.size = 0
  · have hn : s.data.toList = [] := List.length_eq_zero_iff.mp (by omega)
    have e := bs_eq hn
    subst e
    exact rnumber_nil w
  by_cases h2 : s.size < 2
  · have hp : Lib.hasPrefix s.data.toList hexP = false := by rw [← hx, decide_eq_false (by omega)]; rfl
    rw [hp, if_neg (by decide), if_neg (fun h => by rw [h] at hl; have h3 : s.size = 0 := hl; omega), ← numR_eq 10 (.inl rfl)]
    exact rnumber_small s w hs h2 (by omega)
  rw [decide_eq_true (by omega), Bool.true_and] at hx
  cases hp : Lib.hasPrefix s.data.toList hexP
  · rw [if_neg (by decide), if_neg (fun h => by rw [h] at hl; have h3 : s.size = 0 := hl; omega), ← numR_eq 10 (.inl rfl)]
    exact rnumber_dec s w hs (by omega) (hx.trans hp)
  · rw [if_pos rfl]
    by_cases h3 : s.size = 2
    · have hd : s.data.toList.drop 2 = [] := List.drop_of_length_le (by omega)
      rw [if_pos hd]
      have ht : s.data.toList = [48, 120] := by
        have h := hx.trans hp
        rw [Lib.toList_data, Lib.extract_data] at h
        simp only [List.drop_zero, Nat.sub_zero, beq_iff_eq] at h
        rw [List.take_of_length_le (by omega)] at h
        exact h
      have e := bs_eq ht
      subst e
      exact rnumber_0x w
    · rw [if_neg (fun h => by have := congrArg List.length h; rw [List.length_drop] at this; simp at this; omega), ← numR_eq 16 (.inr rfl)]
      have := rnumber_hex s w hs (by omega) (hx.trans hp)
      rw [Lib.extract_to_end] at this
      exact this

/-- Whether a text is a keyword. -/
def keyFrom (l : List UInt8) : List (List UInt8) → Bool
  | [] => false
  | g :: r => if g = l then true else keyFrom l r
def keyL (l : List UInt8) : Bool := keyFrom l keysL
theorem key_hit {l : List UInt8} {k : Nat} (h : k < 19) (hp : keysL.getD k [] = l) (hr : keyFrom l (keysL.drop k) = keyL l) : true = keyL l := by
  have hl : k < keysL.length := h
  rw [List.drop_eq_getElem_cons hl, keyFrom] at hr
  rw [List.getD_eq_getElem?_getD, List.getElem?_eq_getElem hl, Option.getD_some] at *
  rw [if_pos hp] at hr
  exact hr
theorem key_miss {l : List UInt8} {k : Nat} (h : k < 19) (hp : ¬ keysL.getD k [] = l) (hr : keyFrom l (keysL.drop k) = keyL l) : keyFrom l (keysL.drop (k + 1)) = keyL l := by
  have hl : k < keysL.length := h
  rw [List.drop_eq_getElem_cons hl, keyFrom] at hr
  rw [List.getD_eq_getElem?_getD, List.getElem?_eq_getElem hl, Option.getD_some] at *
  rw [if_neg hp] at hr
  exact hr
theorem key_end {l : List UInt8} {k : Nat} (h : k ≤ 19) (h' : ¬ k < 19) (hr : keyFrom l (keysL.drop k) = keyL l) : false = keyL l := by
  obtain rfl : k = 19 := by omega
  exact hr
theorem str_beq (a : List UInt8) (s : ByteArray) : ((⟨a.toArray⟩ : ByteArray).toList == s.toList) = decide (a = s.data.toList) := by
  rw [Lib.toList_data, Lib.toList_data, Bool.eq_iff_iff]
  simp
set_option maxHeartbeats 400000 in
theorem key_any (s : ByteArray) (w : World) (ht : Keys w) :
    Calls Tryd.prog 10 #[.string s] w fun e w' => e = .returned (.bool (keyL s.data.toList)) ∧ w = w' := by
  obtain ⟨b, off, cap, ht⟩ := ht
  have g := ht.tg
  go_enter Tryd.func10, Tryd.ntmps10
  go_wp2
  go_loop [7] (fun i => ∃ k : Nat, k ≤ 19 ∧ i = .int .i64 k ∧ keyFrom s.data.toList (keysL.drop k) = keyL s.data.toList) (fun i => 19 - (intOf i).toNat)
  case atStart => exact ⟨0, Nat.zero_le _, rfl, rfl⟩
  case round =>
    obtain ⟨k, hk, rfl, hr⟩ := hrel
    have Hr := Lib.hid hr
    clear hr
    by_cases hlt : k < 19
    · have hc := ht.tn k hlt
      have HT := Lib.hid ht
      have hq := str_beq (keysL.getD k []) s
      generalize hA : (⟨(keysL.getD k []).toArray⟩ : ByteArray) = a at *
      clear ht g hA
      by_cases hp : keysL.getD k [] = s.data.toList
      · rw [decide_eq_true hp] at hq
        have HP := Lib.hid hp
        clear hp
        go_wp2
        go_ret
        exact ⟨ret_bool (key_hit hlt HP.out Hr.out), rfl⟩
      · rw [decide_eq_false hp] at hq
        have HP := Lib.hid hp
        clear hp
        go_wp2
        go_round
        case rel => exact ⟨k + 1, by omega, by go_num, key_miss hlt HP.out Hr.out⟩
        case measure => simp [intOf]; omega
    · clear g ht
      go_wp2
      go_ret
      exact ⟨ret_bool (key_end hk hlt Hr.out), rfl⟩
end Go.Proofs.YtilfganjpgkjdaaDoor
