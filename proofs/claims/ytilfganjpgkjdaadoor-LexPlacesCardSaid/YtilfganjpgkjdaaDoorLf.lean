/- The contract of lex's Number. -/
import Derived.Test.YtilfganjpgkjdaaDoorLe
namespace Go.Proofs.YtilfganjpgkjdaaDoor
open Go Go.RowKit

theorem ret_num {a b : Int} {x y : Bool} (h1 : a = b) (h2 : x = y) : Ending.returned (.tuple #[.int .u64 a, .bool x]) = .returned (.tuple #[.int .u64 b, .bool y]) := by rw [h1, h2]
theorem num_step {base acc : Int} {d : ByteArray} {k : Nat} {o : Option Int} (h : k < d.size) (hr : numFrom base acc (d.data.toList.drop k) = o) :
    (if base ≤ digI (d[k].toNat : Int) ∨ (18446744073709551615 - digI (d[k].toNat : Int)) / base < acc then none else numFrom base (acc * base + digI (d[k].toNat : Int)) (d.data.toList.drop (k + 1))) = o := by
  rw [drop_at d k h, numFrom] at hr
  exact hr
theorem num_no {base acc x : Int} {o p : Option Int} (h : base ≤ x ∨ (18446744073709551615 - x) / base < acc)
    (hr : (if base ≤ x ∨ (18446744073709551615 - x) / base < acc then none else p) = o) : (0 : Int) = o.getD 0 ∧ false = o.isSome := by
  rw [if_pos h] at hr
  subst hr
  exact ⟨rfl, rfl⟩
theorem num_yes {base acc x : Int} {o p : Option Int} (h1 : ¬ base ≤ x) (h2 : ¬ (18446744073709551615 - x) / base < acc)
    (hr : (if base ≤ x ∨ (18446744073709551615 - x) / base < acc then none else p) = o) : p = o := by
  rw [if_neg (fun h => h.elim h1 h2)] at hr
  exact hr
theorem num_end {base acc : Int} {d : ByteArray} {k : Nat} {o : Option Int} (h : k ≤ d.size) (h' : ¬ k < d.size) (hr : numFrom base acc (d.data.toList.drop k) = o) : acc = o.getD 0 ∧ true = o.isSome := by
  obtain rfl : k = d.size := by omega
  rw [List.drop_of_length_le (by simp)] at hr
  subst hr
  exact ⟨rfl, rfl⟩
theorem not_empty {d : ByteArray} (h : 0 < d.size) : d.toList.isEmpty = false := by
  rw [Lib.toList_data]
  obtain ⟨r, hr⟩ := head_at d h
  rw [hr]
  rfl

set_option maxHeartbeats 1000000 in
theorem number_10 (s d : ByteArray) (w : World) (hs : d.size ≤ maxLen) (h0 : 0 < d.size)
    (h1 : ∀ w, Calls Tryd.prog 17 #[.string s, .string ⟨#[48, 120]⟩] w fun e w' => e = .returned (.tuple #[.string d, .bool false]) ∧ w = w') :
    Calls Tryd.prog 8 #[.string s] w fun e w' => e = .returned (.tuple #[.int .u64 ((numFrom 10 0 d.data.toList).getD 0), .bool (numFrom 10 0 d.data.toList).isSome]) ∧ w = w' := by
  unfold maxLen at hs
  have H1 := Lib.hid h1
  clear h1
  have hE := not_empty h0
  have he := Lib.hid (rfl : numFrom 10 0 d.data.toList = numFrom 10 0 d.data.toList)
  generalize hO : numFrom 10 0 d.data.toList = o
  have HO := Lib.hid hO
  clear hO he
  go_enter Tryd.func8, Tryd.ntmps8
  go_wp2_with (go_at_call 17; refine (H1.out _).mono ?_; rintro e w' ⟨rfl, rfl⟩)
  go_loop [7, 20] (fun v i => ∃ (k : Nat) (acc : Int), k ≤ d.size ∧ i = .int .i64 k ∧ v = .int .u64 acc ∧ 0 ≤ acc ∧ acc ≤ 18446744073709551615 ∧ numFrom 10 acc (d.data.toList.drop k) = o) (fun _ i => d.size - (intOf i).toNat)
  case atStart => exact ⟨0, 0, Nat.zero_le _, rfl, rfl, by decide, by decide, by simpa using HO.out⟩
  case round =>
    obtain ⟨k, acc, hk, rfl, rfl, ha0, ha1, hr⟩ := hrel
    by_cases hlt : k < d.size
    · have hst := num_step hlt hr
      have hx := dig_bd (d[k].toNat : Int)
      have hb := byte_lt d[k]
      have l2 := fun w => digit_any (d[k].toNat : Int) w hb.1 hb.2
      generalize hX : digI (d[k].toNat : Int) = x at *
      have L2 := Lib.hid l2
      have HST := Lib.hid hst
      clear l2 hst hr hX hb
      obtain ⟨hx0, hx1⟩ := hx
      by_cases hc1 : 10 ≤ x
      · go_wp2_with (go_at_call 18; refine (L2.out _).mono ?_; rintro e w' ⟨rfl, rfl⟩)
        go_ret2
        exact ⟨ret_num (num_no (.inl hc1) HST.out).1 (num_no (.inl hc1) HST.out).2, rfl⟩
      · by_cases hc2 : (18446744073709551615 - x) / 10 < acc
        · go_wp2_with (go_at_call 18; refine (L2.out _).mono ?_; rintro e w' ⟨rfl, rfl⟩)
          go_ret2
          exact ⟨ret_num (num_no (.inr hc2) HST.out).1 (num_no (.inr hc2) HST.out).2, rfl⟩
        · go_wp2_with (go_at_call 18; refine (L2.out _).mono ?_; rintro e w' ⟨rfl, rfl⟩)
          go_round
          case rel => exact ⟨k + 1, acc * 10 + x, by omega, by go_num, rfl, by omega, by omega, num_yes (by omega) (by omega) HST.out⟩
          case measure => simp [intOf]; omega
    · have HR := Lib.hid hr
      clear hr
      go_wp2
      go_ret2
      exact ⟨ret_num (num_end hk hlt HR.out).1 (num_end hk hlt HR.out).2, rfl⟩

set_option maxHeartbeats 1000000 in
theorem number_16 (s d : ByteArray) (w : World) (hs : d.size ≤ maxLen) (h0 : 0 < d.size)
    (h1 : ∀ w, Calls Tryd.prog 17 #[.string s, .string ⟨#[48, 120]⟩] w fun e w' => e = .returned (.tuple #[.string d, .bool true]) ∧ w = w') :
    Calls Tryd.prog 8 #[.string s] w fun e w' => e = .returned (.tuple #[.int .u64 ((numFrom 16 0 d.data.toList).getD 0), .bool (numFrom 16 0 d.data.toList).isSome]) ∧ w = w' := by
  unfold maxLen at hs
  have H1 := Lib.hid h1
  clear h1
  have hE := not_empty h0
  have he := Lib.hid (rfl : numFrom 16 0 d.data.toList = numFrom 16 0 d.data.toList)
  generalize hO : numFrom 16 0 d.data.toList = o
  have HO := Lib.hid hO
  clear hO he
  go_enter Tryd.func8, Tryd.ntmps8
  go_wp2_with (go_at_call 17; refine (H1.out _).mono ?_; rintro e w' ⟨rfl, rfl⟩)
  go_loop [7, 20] (fun v i => ∃ (k : Nat) (acc : Int), k ≤ d.size ∧ i = .int .i64 k ∧ v = .int .u64 acc ∧ 0 ≤ acc ∧ acc ≤ 18446744073709551615 ∧ numFrom 16 acc (d.data.toList.drop k) = o) (fun _ i => d.size - (intOf i).toNat)
  case atStart => exact ⟨0, 0, Nat.zero_le _, rfl, rfl, by decide, by decide, by simpa using HO.out⟩
  case round =>
    obtain ⟨k, acc, hk, rfl, rfl, ha0, ha1, hr⟩ := hrel
    by_cases hlt : k < d.size
    · have hst := num_step hlt hr
      have hx := dig_bd (d[k].toNat : Int)
      have hb := byte_lt d[k]
      have l2 := fun w => digit_any (d[k].toNat : Int) w hb.1 hb.2
      generalize hX : digI (d[k].toNat : Int) = x at *
      have L2 := Lib.hid l2
      have HST := Lib.hid hst
      clear l2 hst hr hX hb
      obtain ⟨hx0, hx1⟩ := hx
      by_cases hc1 : 16 ≤ x
      · go_wp2_with (go_at_call 18; refine (L2.out _).mono ?_; rintro e w' ⟨rfl, rfl⟩)
        go_ret2
        exact ⟨ret_num (num_no (.inl hc1) HST.out).1 (num_no (.inl hc1) HST.out).2, rfl⟩
      · by_cases hc2 : (18446744073709551615 - x) / 16 < acc
        · go_wp2_with (go_at_call 18; refine (L2.out _).mono ?_; rintro e w' ⟨rfl, rfl⟩)
          go_ret2
          exact ⟨ret_num (num_no (.inr hc2) HST.out).1 (num_no (.inr hc2) HST.out).2, rfl⟩
        · go_wp2_with (go_at_call 18; refine (L2.out _).mono ?_; rintro e w' ⟨rfl, rfl⟩)
          go_round
          case rel => exact ⟨k + 1, acc * 16 + x, by omega, by go_num, rfl, by omega, by omega, num_yes (by omega) (by omega) HST.out⟩
          case measure => simp [intOf]; omega
    · have HR := Lib.hid hr
      clear hr
      go_wp2
      go_ret2
      exact ⟨ret_num (num_end hk hlt HR.out).1 (num_end hk hlt HR.out).2, rfl⟩

theorem number_0 (s : ByteArray) (w : World) (b : Bool)
    (h1 : ∀ w, Calls Tryd.prog 17 #[.string s, .string ⟨#[48, 120]⟩] w fun e w' => e = .returned (.tuple #[.string ⟨#[]⟩, .bool b]) ∧ w = w') :
    Calls Tryd.prog 8 #[.string s] w fun e w' => e = .returned (.tuple #[.int .u64 0, .bool false]) ∧ w = w' := by
  have H1 := Lib.hid h1
  clear h1
  cases b
  all_goals
    go_enter Tryd.func8, Tryd.ntmps8
    go_wp2_with (go_at_call 17; refine (H1.out _).mono ?_; rintro e w' ⟨rfl, rfl⟩)
    go_ret2
    exact ⟨rfl, rfl⟩
theorem bs_nil {l : List UInt8} (h : l = []) : (⟨l.toArray⟩ : ByteArray) = ⟨#[]⟩ := by rw [h]
theorem len_pos {l : List UInt8} (h : ¬ l = []) : 0 < (⟨l.toArray⟩ : ByteArray).size := by
  have : (⟨l.toArray⟩ : ByteArray).size = l.length := by show l.toArray.size = _; simp
  rw [this]
  cases l with
  | nil => exact absurd rfl h
  | cons a r => simp
theorem number_any (s : ByteArray) (w : World) (hs : s.size ≤ maxLen) :
    Calls Tryd.prog 8 #[.string s] w fun e w' => e = .returned (.tuple #[.int .u64 ((numL s.data.toList).getD 0), .bool (numL s.data.toList).isSome]) ∧ w = w' := by
  have h1 : ∀ w, Calls Tryd.prog 17 #[.string s, .string ⟨#[48, 120]⟩] w fun e w' => e = .returned (.tuple #[.string ⟨(Lib.trimPrefix s.data.toList hexP).toArray⟩, .bool (Lib.hasPrefix s.data.toList hexP)]) ∧ w = w' :=
    fun w => (Tryd.strings_CutPrefix s ⟨#[48, 120]⟩ w).mono fun e w' h => ⟨h.1, h.2.symm⟩
  unfold numL
  have hlen : s.data.toList.length ≤ maxLen := hs
  have hsz : ∀ l : List UInt8, (⟨l.toArray⟩ : ByteArray).size = l.length := fun l => by show l.toArray.size = _; simp
  cases hp : Lib.hasPrefix s.data.toList hexP
  · have e : Lib.trimPrefix s.data.toList hexP = s.data.toList := by unfold Lib.trimPrefix; rw [hp]; rfl
    rw [e, hp] at h1
    rw [if_neg (by decide)]
    by_cases hn : s.data.toList = []
    · rw [if_pos hn]
      rw [bs_nil hn] at h1
      exact number_0 s w _ h1
    · rw [if_neg hn]
      have := number_10 s ⟨s.data.toList.toArray⟩ w (by rw [hsz]; exact hlen) (len_pos hn) h1
      simpa using this
  · have e : Lib.trimPrefix s.data.toList hexP = s.data.toList.drop 2 := by unfold Lib.trimPrefix; rw [hp]; rfl
    rw [e, hp] at h1
    rw [if_pos rfl]
    by_cases hn : s.data.toList.drop 2 = []
    · rw [if_pos hn]
      rw [bs_nil hn] at h1
      exact number_0 s w _ h1
    · rw [if_neg hn]
      have := number_16 s ⟨(s.data.toList.drop 2).toArray⟩ w (by rw [hsz, List.length_drop]; omega) (len_pos hn) h1
      simpa using this
end Go.Proofs.YtilfganjpgkjdaaDoor
