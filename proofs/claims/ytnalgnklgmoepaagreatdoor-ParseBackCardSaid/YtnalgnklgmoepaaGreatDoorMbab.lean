/- The contract of lex's Number. The contract of the document's Number. The contracts of the document's Number and of both Keywords. The contract of the document's Keyword. The reader of lex: where it lies, and the contract of take. The contract of the reader's take. The contract of the reader's skip. The contract of the reader's token. The contract of the reader's token: names and signs. The contract of the reader's token: numbers. -/
import Derived.Lib.IndexBytes
import Derived.Laws.AppendOwn
import Derived.Outline
import Derived.RegionTactic
import Derived.ChangeAlike
import Derived.Deep.Light
import Derived.Test.YtnalgnklgmoepaaGreatDoorMbaa
set_option linter.all false
namespace Go.Proofs.YtnalgnklgmoepaaGreatDoor
open Go Go.RowKit

theorem ret_num {a b : Int} {x y : Bool} (h1 : a = b) (h2 : x = y) : Ending.returned (.tuple #[.int .u64 a, .bool x]) = .returned (.tuple #[.int .u64 b, .bool y]) := by rw [h1, h2]
theorem num_step {base acc : Int} {d : ByteArray} {k : Nat} {o : Option Int} (h : k < d.size) (hr : numFrom base acc (d.data.toList.drop k) = o) :
    (if base ≤ digI (d[k].toNat : Int) ∨ (18446744073709551615 - digI (d[k].toNat : Int)) / base < acc then none else numFrom base (acc * base + digI (d[k].toNat : Int)) (d.data.toList.drop (k + 1))) = o := by
  rw [drop_at d k h, numFrom] at hr
  exact hr
theorem num_no {base acc x : Int} {o p : Option Int} (h : base ≤ x ∨ (18446744073709551615 - x) / base < acc)
    (hr : (if base ≤ x ∨ (18446744073709551615 - x) / base < acc then none else p) = o) : (0 : Int) = o.getD 0 ∧ false = o.isSome := by
  rw [if_pos h] at hr
  subst hr
  exact ⟨rfl, rfl⟩
theorem num_yes {base acc x : Int} {o p : Option Int} (h1 : ¬ base ≤ x) (h2 : ¬ (18446744073709551615 - x) / base < acc)
    (hr : (if base ≤ x ∨ (18446744073709551615 - x) / base < acc then none else p) = o) : p = o := by
  rw [if_neg (fun h => h.elim h1 h2)] at hr
  exact hr
theorem num_end {base acc : Int} {d : ByteArray} {k : Nat} {o : Option Int} (h : k ≤ d.size) (h' : ¬ k < d.size) (hr : numFrom base acc (d.data.toList.drop k) = o) : acc = o.getD 0 ∧ true = o.isSome := by
  obtain rfl : k = d.size := by omega
  rw [List.drop_of_length_le (by simp)] at hr
  subst hr
  exact ⟨rfl, rfl⟩
theorem not_empty {d : ByteArray} (h : 0 < d.size) : d.toList.isEmpty = false := by
  rw [Lib.toList_data]
  obtain ⟨r, hr⟩ := head_at d h
  rw [hr]
  rfl

set_option maxHeartbeats 1000000 in
theorem number_10 (s d : ByteArray) (w : World) (hs : d.size ≤ maxLen) (h0 : 0 < d.size)
    (h1 : ∀ w, Calls Tryz.prog 71 #[.string s, .string ⟨#[48, 120]⟩] w fun e w' => e = .returned (.tuple #[.string d, .bool false]) ∧ w = w') :
    Calls Tryz.prog 45 #[.string s] w fun e w' => e = .returned (.tuple #[.int .u64 ((numFrom 10 0 d.data.toList).getD 0), .bool (numFrom 10 0 d.data.toList).isSome]) ∧ w = w' := by
  unfold maxLen at hs
  have H1 := Lib.hid h1
  clear h1
  have hE := not_empty h0
  have he := Lib.hid (rfl : numFrom 10 0 d.data.toList = numFrom 10 0 d.data.toList)
  generalize hO : numFrom 10 0 d.data.toList = o
  have HO := Lib.hid hO
  clear hO he
  go_enter Tryz.func45, Tryz.ntmps45
  go_wp2_with (go_at_call 71; refine (H1.out _).mono ?_; rintro e w' ⟨rfl, rfl⟩)
  go_loop [7, 20] (fun v i => ∃ (k : Nat) (acc : Int), k ≤ d.size ∧ i = .int .i64 k ∧ v = .int .u64 acc ∧ 0 ≤ acc ∧ acc ≤ 18446744073709551615 ∧ numFrom 10 acc (d.data.toList.drop k) = o) (fun _ i => d.size - (intOf i).toNat)
  case atStart => exact ⟨0, 0, Nat.zero_le _, rfl, rfl, by decide, by decide, by simpa using HO.out⟩
  case round =>
    obtain ⟨k, acc, hk, rfl, rfl, ha0, ha1, hr⟩ := hrel
    by_cases hlt : k < d.size
    · have hst := num_step hlt hr
      have hx := dig_bd (d[k].toNat : Int)
      have hb := byte_lt d[k]
      have l2 := fun w => digit_any (d[k].toNat : Int) w hb.1 hb.2
      generalize hX : digI (d[k].toNat : Int) = x at *
      have L2 := Lib.hid l2
      have HST := Lib.hid hst
      clear l2 hst hr hX hb
      obtain ⟨hx0, hx1⟩ := hx
      by_cases hc1 : 10 ≤ x
      · go_wp2_with (go_at_call 69; refine (L2.out _).mono ?_; rintro e w' ⟨rfl, rfl⟩)
        go_ret2
        exact ⟨ret_num (num_no (.inl hc1) HST.out).1 (num_no (.inl hc1) HST.out).2, rfl⟩
      · by_cases hc2 : (18446744073709551615 - x) / 10 < acc
        · go_wp2_with (go_at_call 69; refine (L2.out _).mono ?_; rintro e w' ⟨rfl, rfl⟩)
          go_ret2
          exact ⟨ret_num (num_no (.inr hc2) HST.out).1 (num_no (.inr hc2) HST.out).2, rfl⟩
        · go_wp2_with (go_at_call 69; refine (L2.out _).mono ?_; rintro e w' ⟨rfl, rfl⟩)
          go_round
          case rel => exact ⟨k + 1, acc * 10 + x, by omega, by go_num, rfl, by omega, by omega, num_yes (by omega) (by omega) HST.out⟩
          case measure => simp [intOf]; omega
    · have HR := Lib.hid hr
      clear hr
      go_wp2
      go_ret2
      exact ⟨ret_num (num_end hk hlt HR.out).1 (num_end hk hlt HR.out).2, rfl⟩

set_option maxHeartbeats 1000000 in
theorem number_16 (s d : ByteArray) (w : World) (hs : d.size ≤ maxLen) (h0 : 0 < d.size)
    (h1 : ∀ w, Calls Tryz.prog 71 #[.string s, .string ⟨#[48, 120]⟩] w fun e w' => e = .returned (.tuple #[.string d, .bool true]) ∧ w = w') :
    Calls Tryz.prog 45 #[.string s] w fun e w' => e = .returned (.tuple #[.int .u64 ((numFrom 16 0 d.data.toList).getD 0), .bool (numFrom 16 0 d.data.toList).isSome]) ∧ w = w' := by
  unfold maxLen at hs
  have H1 := Lib.hid h1
  clear h1
  have hE := not_empty h0
  have he := Lib.hid (rfl : numFrom 16 0 d.data.toList = numFrom 16 0 d.data.toList)
  generalize hO : numFrom 16 0 d.data.toList = o
  have HO := Lib.hid hO
  clear hO he
  go_enter Tryz.func45, Tryz.ntmps45
  go_wp2_with (go_at_call 71; refine (H1.out _).mono ?_; rintro e w' ⟨rfl, rfl⟩)
  go_loop [7, 20] (fun v i => ∃ (k : Nat) (acc : Int), k ≤ d.size ∧ i = .int .i64 k ∧ v = .int .u64 acc ∧ 0 ≤ acc ∧ acc ≤ 18446744073709551615 ∧ numFrom 16 acc (d.data.toList.drop k) = o) (fun _ i => d.size - (intOf i).toNat)
  case atStart => exact ⟨0, 0, Nat.zero_le _, rfl, rfl, by decide, by decide, by simpa using HO.out⟩
  case round =>
    obtain ⟨k, acc, hk, rfl, rfl, ha0, ha1, hr⟩ := hrel
    by_cases hlt : k < d.size
    · have hst := num_step hlt hr
      have hx := dig_bd (d[k].toNat : Int)
      have hb := byte_lt d[k]
      have l2 := fun w => digit_any (d[k].toNat : Int) w hb.1 hb.2
      generalize hX : digI (d[k].toNat : Int) = x at *
      have L2 := Lib.hid l2
      have HST := Lib.hid hst
      clear l2 hst hr hX hb
      obtain ⟨hx0, hx1⟩ := hx
      by_cases hc1 : 16 ≤ x
      · go_wp2_with (go_at_call 69; refine (L2.out _).mono ?_; rintro e w' ⟨rfl, rfl⟩)
        go_ret2
        exact ⟨ret_num (num_no (.inl hc1) HST.out).1 (num_no (.inl hc1) HST.out).2, rfl⟩
      · by_cases hc2 : (18446744073709551615 - x) / 16 < acc
        · go_wp2_with (go_at_call 69; refine (L2.out _).mono ?_; rintro e w' ⟨rfl, rfl⟩)
          go_ret2
          exact ⟨ret_num (num_no (.inr hc2) HST.out).1 (num_no (.inr hc2) HST.out).2, rfl⟩
        · go_wp2_with (go_at_call 69; refine (L2.out _).mono ?_; rintro e w' ⟨rfl, rfl⟩)
          go_round
          case rel => exact ⟨k + 1, acc * 16 + x, by omega, by go_num, rfl, by omega, by omega, num_yes (by omega) (by omega) HST.out⟩
          case measure => simp [intOf]; omega
    · have HR := Lib.hid hr
      clear hr
      go_wp2
      go_ret2
      exact ⟨ret_num (num_end hk hlt HR.out).1 (num_end hk hlt HR.out).2, rfl⟩

theorem number_0 (s : ByteArray) (w : World) (b : Bool)
    (h1 : ∀ w, Calls Tryz.prog 71 #[.string s, .string ⟨#[48, 120]⟩] w fun e w' => e = .returned (.tuple #[.string ⟨#[]⟩, .bool b]) ∧ w = w') :
    Calls Tryz.prog 45 #[.string s] w fun e w' => e = .returned (.tuple #[.int .u64 0, .bool false]) ∧ w = w' := by
  have H1 := Lib.hid h1
  clear h1
  cases b
  all_goals
    go_enter Tryz.func45, Tryz.ntmps45
    go_wp2_with (go_at_call 71; refine (H1.out _).mono ?_; rintro e w' ⟨rfl, rfl⟩)
    go_ret2
    exact ⟨rfl, rfl⟩
theorem bs_nil {l : List UInt8} (h : l = []) : (⟨l.toArray⟩ : ByteArray) = ⟨#[]⟩ := by rw [h]
theorem len_pos {l : List UInt8} (h : ¬ l = []) : 0 < (⟨l.toArray⟩ : ByteArray).size := by
  have : (⟨l.toArray⟩ : ByteArray).size = l.length := by show l.toArray.size = _; simp
  rw [this]
  cases l with
  | nil => exact absurd rfl h
  | cons a r => simp
theorem number_any (s : ByteArray) (w : World) (hs : s.size ≤ maxLen) :
    Calls Tryz.prog 45 #[.string s] w fun e w' => e = .returned (.tuple #[.int .u64 ((numL s.data.toList).getD 0), .bool (numL s.data.toList).isSome]) ∧ w = w' := by
  have h1 : ∀ w, Calls Tryz.prog 71 #[.string s, .string ⟨#[48, 120]⟩] w fun e w' => e = .returned (.tuple #[.string ⟨(Lib.trimPrefix s.data.toList hexP).toArray⟩, .bool (Lib.hasPrefix s.data.toList hexP)]) ∧ w = w' :=
    fun w => (Tryz.strings_CutPrefix s ⟨#[48, 120]⟩ w).mono fun e w' h => ⟨h.1, h.2.symm⟩
  unfold numL
  have hlen : s.data.toList.length ≤ maxLen := hs
  have hsz : ∀ l : List UInt8, (⟨l.toArray⟩ : ByteArray).size = l.length := fun l => by show l.toArray.size = _; simp
  cases hp : Lib.hasPrefix s.data.toList hexP
  · have e : Lib.trimPrefix s.data.toList hexP = s.data.toList := by unfold Lib.trimPrefix; rw [hp]; rfl
    rw [e, hp] at h1
    rw [if_neg (by decide)]
    by_cases hn : s.data.toList = []
    · rw [if_pos hn]
      rw [bs_nil hn] at h1
      exact number_0 s w _ h1
    · rw [if_neg hn]
      have := number_10 s ⟨s.data.toList.toArray⟩ w (by rw [hsz]; exact hlen) (len_pos hn) h1
      simpa using this
  · have e : Lib.trimPrefix s.data.toList hexP = s.data.toList.drop 2 := by unfold Lib.trimPrefix; rw [hp]; rfl
    rw [e, hp] at h1
    rw [if_pos rfl]
    by_cases hn : s.data.toList.drop 2 = []
    · rw [if_pos hn]
      rw [bs_nil hn] at h1
      exact number_0 s w _ h1
    · rw [if_neg hn]
      have := number_16 s ⟨(s.data.toList.drop 2).toArray⟩ w (by rw [hsz, List.length_drop]; omega) (len_pos hn) h1
      simpa using this
end Go.Proofs.YtnalgnklgmoepaaGreatDoor
namespace Go.Proofs.YtnalgnklgmoepaaGreatDoor
open Go Go.RowKit

/-- The document's number: its empty text is told behind the digits. -/
def numR (base acc : Int) : List UInt8 → Option Int
  | [] => some acc
  | b :: r => if base ≤ digR (b.toNat : Int) ∨ (18446744073709551615 - digR (b.toNat : Int)) / base < acc then none else numR base (base * acc + digR (b.toNat : Int)) r
theorem numR_eq (base : Int) (h : base = 10 ∨ base = 16) (l : List UInt8) (acc : Int) : numR base acc l = numFrom base acc l := by
  induction l generalizing acc with
  | nil => rfl
  | cons b r ih =>
    rw [numR, numFrom]
    by_cases hd : digI (b.toNat : Int) = 16
    · have e : digR (b.toNat : Int) = 99 := by
        unfold digI at hd
        unfold digR
        split at hd
        · omega
        · split at hd
          · omega
          · split at hd
            · omega
            · rename_i h1 h2 h3
              rw [if_neg h1, if_neg h2, if_neg h3]
      rw [e, hd, if_pos (.inl (by omega)), if_pos (.inl (by omega))]
    · have e : digR (b.toNat : Int) = digI (b.toNat : Int) := by
        unfold digI at hd ⊢
        unfold digR
        split
        · rfl
        · split
          · rfl
          · split
            · rfl
            · rename_i h1 h2 h3
              rw [if_neg h1, if_neg h2, if_neg h3] at hd
              exact absurd rfl hd
      rw [e, ih, Int.mul_comm]
theorem hex_at (s : ByteArray) : (decide (2 ≤ s.size) && ((s.extract 0 2).toList == [48, 120])) = Lib.hasPrefix s.data.toList hexP := by
  rw [← Lib.hasPrefix_of_take s.data.toList hexP, Lib.toList_data, Lib.extract_data]
  rfl
theorem numR_step {base acc : Int} {d : ByteArray} {k : Nat} {o : Option Int} (h : k < d.size) (hr : numR base acc (d.data.toList.drop k) = o) :
    (if base ≤ digR (d[k].toNat : Int) ∨ (18446744073709551615 - digR (d[k].toNat : Int)) / base < acc then none else numR base (base * acc + digR (d[k].toNat : Int)) (d.data.toList.drop (k + 1))) = o := by
  rw [drop_at d k h, numR] at hr
  exact hr
theorem numR_end {base acc : Int} {d : ByteArray} {k : Nat} {o : Option Int} (h : k ≤ d.size) (h' : ¬ k < d.size) (hr : numR base acc (d.data.toList.drop k) = o) : acc = o.getD 0 ∧ true = o.isSome := by
  obtain rfl : k = d.size := by omega
  rw [List.drop_of_length_le (by simp)] at hr
  subst hr
  exact ⟨rfl, rfl⟩
theorem digR_bd (c : Int) : 0 ≤ digR c ∧ digR c ≤ 99 := by
  unfold digR
  (repeat' split) <;> omega
theorem ext_size (s : ByteArray) (_h : 2 ≤ s.size) : (s.extract 2 s.size).size = s.size - 2 := by
  rw [size_len, Lib.extract_to_end, List.length_drop, size_len]

set_option maxHeartbeats 1000000 in
theorem rnumber_small (s : ByteArray) (w : World) (hs : s.size ≤ maxLen) (h2 : s.size < 2) (h0 : 0 < s.size) :
    Calls Tryz.prog 37 #[.string s] w fun e w' => e = .returned (.tuple #[.int .u64 ((numR 10 0 (s).data.toList).getD 0), .bool (numR 10 0 (s).data.toList).isSome]) ∧ w = w' := by
  unfold maxLen at hs
  have h0' : ¬ ((s.size : Int) = 0) := by omega
  generalize hO : numR 10 0 (s).data.toList = o
  have HO := Lib.hid hO
  clear hO
  go_enter Tryz.func37, Tryz.ntmps37
  go_wp2
  go_loop [5, 6] (fun v i => ∃ (k : Nat) (acc : Int), k ≤ s.size ∧ i = .int .i64 k ∧ v = .int .u64 acc ∧ 0 ≤ acc ∧ acc ≤ 18446744073709551615 ∧ numR 10 acc ((s).data.toList.drop k) = o) (fun _ i => s.size - (intOf i).toNat)
  case atStart => exact ⟨0, 0, Nat.zero_le _, rfl, rfl, by decide, by decide, by simpa using HO.out⟩
  case round =>
    obtain ⟨k, acc, hk, rfl, rfl, ha0, ha1, hr⟩ := hrel
    by_cases hlt : k < s.size
    · have hlt' : k < (s).size := hlt
      have hst := numR_step hlt' hr
      have hx := digR_bd ((s)[k].toNat : Int)
      have hb := byte_lt (s)[k]
      have l2 := fun w => rdigit_any ((s)[k].toNat : Int) w hb.1 hb.2
      generalize hX : digR ((s)[k].toNat : Int) = x at *
      have L2 := Lib.hid l2
      have HST := Lib.hid hst
      have HX := Lib.hid hX
      clear l2 hst hr hX hb
      obtain ⟨hx0, hx1⟩ := hx
      by_cases hc1 : 10 ≤ x
      · go_wp2_with (go_at_call 54; refine (L2.out _).mono ?_; rintro e w' ⟨rfl, rfl⟩)
        go_ret2
        exact ⟨ret_num (num_no (.inl hc1) HST.out).1 (num_no (.inl hc1) HST.out).2, rfl⟩
      · by_cases hc2 : (18446744073709551615 - x) / 10 < acc
        · go_wp2_with (go_at_call 54; refine (L2.out _).mono ?_; rintro e w' ⟨rfl, rfl⟩)
          go_ret2
          exact ⟨ret_num (num_no (.inr hc2) HST.out).1 (num_no (.inr hc2) HST.out).2, rfl⟩
        · go_wp2_with (go_at_call 54; refine (L2.out _).mono ?_; rintro e w' ⟨rfl, rfl⟩)
          go_round
          case rel => exact ⟨k + 1, 10 * acc + x, by omega, by go_num, rfl, by omega, by omega, num_yes (by omega) (by omega) HST.out⟩
          case measure => simp [intOf]; omega
    · have HR := Lib.hid hr
      have hlt' : ¬ k < (s).size := hlt
      clear hr
      go_wp2
      go_ret2
      exact ⟨ret_num (numR_end hk hlt' HR.out).1 (numR_end hk hlt' HR.out).2, rfl⟩

set_option maxHeartbeats 1000000 in
theorem rnumber_dec (s : ByteArray) (w : World) (hs : s.size ≤ maxLen) (h2 : 2 ≤ s.size) (hp : ((s.extract 0 2).toList == [48, 120]) = false) :
    Calls Tryz.prog 37 #[.string s] w fun e w' => e = .returned (.tuple #[.int .u64 ((numR 10 0 (s).data.toList).getD 0), .bool (numR 10 0 (s).data.toList).isSome]) ∧ w = w' := by
  unfold maxLen at hs
  have h0 : 0 < s.size := by omega
  generalize hO : numR 10 0 (s).data.toList = o
  have HO := Lib.hid hO
  clear hO
  go_enter Tryz.func37, Tryz.ntmps37
  go_wp2
  go_loop [5, 6] (fun v i => ∃ (k : Nat) (acc : Int), k ≤ s.size ∧ i = .int .i64 k ∧ v = .int .u64 acc ∧ 0 ≤ acc ∧ acc ≤ 18446744073709551615 ∧ numR 10 acc ((s).data.toList.drop k) = o) (fun _ i => s.size - (intOf i).toNat)
  case atStart => exact ⟨0, 0, Nat.zero_le _, rfl, rfl, by decide, by decide, by simpa using HO.out⟩
  case round =>
    obtain ⟨k, acc, hk, rfl, rfl, ha0, ha1, hr⟩ := hrel
    by_cases hlt : k < s.size
    · have hlt' : k < (s).size := hlt
      have hst := numR_step hlt' hr
      have hx := digR_bd ((s)[k].toNat : Int)
      have hb := byte_lt (s)[k]
      have l2 := fun w => rdigit_any ((s)[k].toNat : Int) w hb.1 hb.2
      generalize hX : digR ((s)[k].toNat : Int) = x at *
      have L2 := Lib.hid l2
      have HST := Lib.hid hst
      have HX := Lib.hid hX
      clear l2 hst hr hX hb
      obtain ⟨hx0, hx1⟩ := hx
      by_cases hc1 : 10 ≤ x
      · go_wp2_with (go_at_call 54; refine (L2.out _).mono ?_; rintro e w' ⟨rfl, rfl⟩)
        go_ret2
        exact ⟨ret_num (num_no (.inl hc1) HST.out).1 (num_no (.inl hc1) HST.out).2, rfl⟩
      · by_cases hc2 : (18446744073709551615 - x) / 10 < acc
        · go_wp2_with (go_at_call 54; refine (L2.out _).mono ?_; rintro e w' ⟨rfl, rfl⟩)
          go_ret2
          exact ⟨ret_num (num_no (.inr hc2) HST.out).1 (num_no (.inr hc2) HST.out).2, rfl⟩
        · go_wp2_with (go_at_call 54; refine (L2.out _).mono ?_; rintro e w' ⟨rfl, rfl⟩)
          go_round
          case rel => exact ⟨k + 1, 10 * acc + x, by omega, by go_num, rfl, by omega, by omega, num_yes (by omega) (by omega) HST.out⟩
          case measure => simp [intOf]; omega
    · have HR := Lib.hid hr
      have hlt' : ¬ k < (s).size := hlt
      clear hr
      go_wp2
      go_ret2
      exact ⟨ret_num (numR_end hk hlt' HR.out).1 (numR_end hk hlt' HR.out).2, rfl⟩

set_option maxHeartbeats 1000000 in
theorem rnumber_hex (s : ByteArray) (w : World) (hs : s.size ≤ maxLen) (h2 : 2 < s.size) (hp : ((s.extract 0 2).toList == [48, 120]) = true) :
    Calls Tryz.prog 37 #[.string s] w fun e w' => e = .returned (.tuple #[.int .u64 ((numR 16 0 (s.extract 2 s.size).data.toList).getD 0), .bool (numR 16 0 (s.extract 2 s.size).data.toList).isSome]) ∧ w = w' := by
  unfold maxLen at hs
  have hz := Lib.hid (ext_size s (by omega))
  generalize hO : numR 16 0 (s.extract 2 s.size).data.toList = o
  have HO := Lib.hid hO
  clear hO
  go_enter Tryz.func37, Tryz.ntmps37
  go_wp2
  go_loop [5, 6] (fun v i => ∃ (k : Nat) (acc : Int), k ≤ (s.size - 2) ∧ i = .int .i64 k ∧ v = .int .u64 acc ∧ 0 ≤ acc ∧ acc ≤ 18446744073709551615 ∧ numR 16 acc ((s.extract 2 s.size).data.toList.drop k) = o) (fun _ i => (s.size - 2) - (intOf i).toNat)
  case atStart => exact ⟨0, 0, Nat.zero_le _, rfl, rfl, by decide, by decide, by simpa using HO.out⟩
  case round =>
    obtain ⟨k, acc, hk, rfl, rfl, ha0, ha1, hr⟩ := hrel
    by_cases hlt : k < (s.size - 2)
    · have hlt' : k < (s.extract 2 s.size).size := by rw [hz.out]; exact hlt
      have hst := numR_step hlt' hr
      have hx := digR_bd ((s.extract 2 s.size)[k].toNat : Int)
      have hb := byte_lt (s.extract 2 s.size)[k]
      have l2 := fun w => rdigit_any ((s.extract 2 s.size)[k].toNat : Int) w hb.1 hb.2
      generalize hX : digR ((s.extract 2 s.size)[k].toNat : Int) = x at *
      have L2 := Lib.hid l2
      have HST := Lib.hid hst
      have HX := Lib.hid hX
      clear l2 hst hr hX hb
      obtain ⟨hx0, hx1⟩ := hx
      by_cases hc1 : 16 ≤ x
      · go_wp2_with (go_at_call 54; refine (L2.out _).mono ?_; rintro e w' ⟨rfl, rfl⟩)
        go_ret2
        exact ⟨ret_num (num_no (.inl hc1) HST.out).1 (num_no (.inl hc1) HST.out).2, rfl⟩
      · by_cases hc2 : (18446744073709551615 - x) / 16 < acc
        · go_wp2_with (go_at_call 54; refine (L2.out _).mono ?_; rintro e w' ⟨rfl, rfl⟩)
          go_ret2
          exact ⟨ret_num (num_no (.inr hc2) HST.out).1 (num_no (.inr hc2) HST.out).2, rfl⟩
        · go_wp2_with (go_at_call 54; refine (L2.out _).mono ?_; rintro e w' ⟨rfl, rfl⟩)
          go_round
          case rel => exact ⟨k + 1, 16 * acc + x, by omega, by go_num, rfl, by omega, by omega, num_yes (by omega) (by omega) HST.out⟩
          case measure => simp [intOf]; omega
    · have HR := Lib.hid hr
      have hlt' : ¬ k < (s.extract 2 s.size).size := by rw [hz.out]; exact hlt
      clear hr
      go_wp2
      go_ret2
      exact ⟨ret_num (numR_end (by rw [hz.out]; exact hk) hlt' HR.out).1 (numR_end (by rw [hz.out]; exact hk) hlt' HR.out).2, rfl⟩
end Go.Proofs.YtnalgnklgmoepaaGreatDoor
namespace Go.Proofs.YtnalgnklgmoepaaGreatDoor
open Go Go.RowKit

set_option maxHeartbeats 400000 in
theorem rnumber_nil (w : World) : Calls Tryz.prog 37 #[.string ⟨#[]⟩] w fun e w' => e = .returned (.tuple #[.int .u64 0, .bool false]) ∧ w = w' := by
  go_enter Tryz.func37, Tryz.ntmps37
  go_wp2
  go_loop [6] (fun i => i = .int .i64 0) (fun _ => 0)
  case atStart => rfl
  case round =>
    subst hrel
    go_wp2
    go_ret2
    exact ⟨rfl, rfl⟩
set_option maxHeartbeats 400000 in
theorem rnumber_0x (w : World) : Calls Tryz.prog 37 #[.string ⟨#[48, 120]⟩] w fun e w' => e = .returned (.tuple #[.int .u64 0, .bool false]) ∧ w = w' := by
  have e1 : (((⟨#[48, 120]⟩ : ByteArray).extract 0 2).toList == [48, 120]) = true := by rw [Lib.toList_data, Lib.extract_data]; rfl
  have e2 : (⟨#[48, 120]⟩ : ByteArray).size = 2 := rfl
  have e3 : ((⟨#[48, 120]⟩ : ByteArray).extract 2 2).size = 0 := by rw [size_len, Lib.extract_data]; rfl
  generalize (⟨#[48, 120]⟩ : ByteArray) = s at *
  go_enter Tryz.func37, Tryz.ntmps37
  go_wp2
  go_loop [6] (fun i => i = .int .i64 0) (fun _ => 0)
  case atStart => rfl
  case round =>
    subst hrel
    go_wp2
    go_ret2
    exact ⟨rfl, rfl⟩
theorem bs_eq {s : ByteArray} {l : List UInt8} (h : s.data.toList = l) : s = ⟨l.toArray⟩ := by
  obtain ⟨⟨d⟩⟩ := s
  cases h
  rfl
theorem rnumber_any (s : ByteArray) (w : World) (hs : s.size ≤ maxLen) :
    Calls Tryz.prog 37 #[.string s] w fun e w' => e = .returned (.tuple #[.int .u64 ((numL s.data.toList).getD 0), .bool (numL s.data.toList).isSome]) ∧ w = w' := by
  have hx := hex_at s
  have hl := size_len s
  unfold numL
  by_cases h0 : s.size = 0
  · have hn : s.data.toList = [] := List.length_eq_zero_iff.mp (by omega)
    have e := bs_eq hn
    subst e
    exact rnumber_nil w
  by_cases h2 : s.size < 2
  · have hp : Lib.hasPrefix s.data.toList hexP = false := by rw [← hx, decide_eq_false (by omega)]; rfl
    rw [hp, if_neg (by decide), if_neg (fun h => by rw [h] at hl; have h3 : s.size = 0 := hl; omega), ← numR_eq 10 (.inl rfl)]
    exact rnumber_small s w hs h2 (by omega)
  rw [decide_eq_true (by omega), Bool.true_and] at hx
  cases hp : Lib.hasPrefix s.data.toList hexP
  · rw [if_neg (by decide), if_neg (fun h => by rw [h] at hl; have h3 : s.size = 0 := hl; omega), ← numR_eq 10 (.inl rfl)]
    exact rnumber_dec s w hs (by omega) (hx.trans hp)
  · rw [if_pos rfl]
    by_cases h3 : s.size = 2
    · have hd : s.data.toList.drop 2 = [] := List.drop_of_length_le (by omega)
      rw [if_pos hd]
      have ht : s.data.toList = [48, 120] := by
        have h := hx.trans hp
        rw [Lib.toList_data, Lib.extract_data] at h
        simp only [List.drop_zero, Nat.sub_zero, beq_iff_eq] at h
        rw [List.take_of_length_le (by omega)] at h
        exact h
      have e := bs_eq ht
      subst e
      exact rnumber_0x w
    · rw [if_neg (fun h => by have := congrArg List.length h; rw [List.length_drop] at this; simp at this; omega), ← numR_eq 16 (.inr rfl)]
      have := rnumber_hex s w hs (by omega) (hx.trans hp)
      rw [Lib.extract_to_end] at this
      exact this

/-- Whether a text is a keyword. -/
def keyFrom (l : List UInt8) : List (List UInt8) → Bool
  | [] => false
  | g :: r => if g = l then true else keyFrom l r
def keyL (l : List UInt8) : Bool := keyFrom l keysL
theorem key_hit {l : List UInt8} {k : Nat} (h : k < 19) (hp : keysL.getD k [] = l) (hr : keyFrom l (keysL.drop k) = keyL l) : true = keyL l := by
  have hl : k < keysL.length := h
  rw [List.drop_eq_getElem_cons hl, keyFrom] at hr
  rw [List.getD_eq_getElem?_getD, List.getElem?_eq_getElem hl, Option.getD_some] at *
  rw [if_pos hp] at hr
  exact hr
theorem key_miss {l : List UInt8} {k : Nat} (h : k < 19) (hp : ¬ keysL.getD k [] = l) (hr : keyFrom l (keysL.drop k) = keyL l) : keyFrom l (keysL.drop (k + 1)) = keyL l := by
  have hl : k < keysL.length := h
  rw [List.drop_eq_getElem_cons hl, keyFrom] at hr
  rw [List.getD_eq_getElem?_getD, List.getElem?_eq_getElem hl, Option.getD_some] at *
  rw [if_neg hp] at hr
  exact hr
theorem key_end {l : List UInt8} {k : Nat} (h : k ≤ 19) (h' : ¬ k < 19) (hr : keyFrom l (keysL.drop k) = keyL l) : false = keyL l := by
  obtain rfl : k = 19 := by omega
  exact hr
theorem str_beq (a : List UInt8) (s : ByteArray) : ((⟨a.toArray⟩ : ByteArray).toList == s.toList) = decide (a = s.data.toList) := by
  rw [Lib.toList_data, Lib.toList_data, Bool.eq_iff_iff]
  simp
set_option maxHeartbeats 400000 in
theorem key_any (s : ByteArray) (w : World) (ht : Keys w) :
    Calls Tryz.prog 109 #[.string s] w fun e w' => e = .returned (.bool (keyL s.data.toList)) ∧ w = w' := by
  obtain ⟨b, off, cap, ht⟩ := ht
  have g := ht.tg
  go_enter Tryz.func109, Tryz.ntmps109
  go_wp2
  go_loop [7] (fun i => ∃ k : Nat, k ≤ 19 ∧ i = .int .i64 k ∧ keyFrom s.data.toList (keysL.drop k) = keyL s.data.toList) (fun i => 19 - (intOf i).toNat)
  case atStart => exact ⟨0, Nat.zero_le _, rfl, rfl⟩
  case round =>
    obtain ⟨k, hk, rfl, hr⟩ := hrel
    have Hr := Lib.hid hr
    clear hr
    by_cases hlt : k < 19
    · have hc := ht.tn k hlt
      have HT := Lib.hid ht
      have hq := str_beq (keysL.getD k []) s
      generalize hA : (⟨(keysL.getD k []).toArray⟩ : ByteArray) = a at *
      clear ht g hA
      by_cases hp : keysL.getD k [] = s.data.toList
      · rw [decide_eq_true hp] at hq
        have HP := Lib.hid hp
        clear hp
        go_wp2
        go_ret
        exact ⟨ret_bool (key_hit hlt HP.out Hr.out), rfl⟩
      · rw [decide_eq_false hp] at hq
        have HP := Lib.hid hp
        clear hp
        go_wp2
        go_round
        case rel => exact ⟨k + 1, by omega, by go_num, key_miss hlt HP.out Hr.out⟩
        case measure => simp [intOf]; omega
    · clear g ht
      go_wp2
      go_ret
      exact ⟨ret_bool (key_end hk hlt Hr.out), rfl⟩
end Go.Proofs.YtnalgnklgmoepaaGreatDoor
namespace Go.Proofs.YtnalgnklgmoepaaGreatDoor
open Go Go.RowKit

theorem key_of {l g : List UInt8} (h : l = g) (hg : keyFrom g keysL = true) : true = keyL l := by
  subst h
  exact hg.symm
theorem key_no {l : List UInt8} (h0 : ¬ l = [98, 111, 111, 108]) (h1 : ¬ l = [117, 56]) (h2 : ¬ l = [117, 49, 54]) (h3 : ¬ l = [117, 51, 50]) (h4 : ¬ l = [117, 54, 52]) (h5 : ¬ l = [105, 56]) (h6 : ¬ l = [105, 49, 54]) (h7 : ¬ l = [105, 51, 50]) (h8 : ¬ l = [105, 54, 52]) (h9 : ¬ l = [118, 111, 105, 100]) (h10 : ¬ l = [105, 102]) (h11 : ¬ l = [101, 108, 115, 101]) (h12 : ¬ l = [119, 104, 105, 108, 101]) (h13 : ¬ l = [114, 101, 116, 117, 114, 110]) (h14 : ¬ l = [97, 115, 115, 101, 114, 116]) (h15 : ¬ l = [97, 115, 115, 117, 109, 101]) (h16 : ¬ l = [110, 111, 110, 100, 101, 116]) (h17 : ¬ l = [116, 114, 117, 101]) (h18 : ¬ l = [102, 97, 108, 115, 101]) : false = keyL l := by
  unfold keyL keysL
  rw [keyFrom, if_neg (Ne.symm h0), keyFrom, if_neg (Ne.symm h1), keyFrom, if_neg (Ne.symm h2), keyFrom, if_neg (Ne.symm h3), keyFrom, if_neg (Ne.symm h4), keyFrom, if_neg (Ne.symm h5), keyFrom, if_neg (Ne.symm h6), keyFrom, if_neg (Ne.symm h7), keyFrom, if_neg (Ne.symm h8), keyFrom, if_neg (Ne.symm h9), keyFrom, if_neg (Ne.symm h10), keyFrom, if_neg (Ne.symm h11), keyFrom, if_neg (Ne.symm h12), keyFrom, if_neg (Ne.symm h13), keyFrom, if_neg (Ne.symm h14), keyFrom, if_neg (Ne.symm h15), keyFrom, if_neg (Ne.symm h16), keyFrom, if_neg (Ne.symm h17), keyFrom, if_neg (Ne.symm h18), keyFrom]
theorem eq_of_beq' {s : ByteArray} {l : List UInt8} (h : (s.toList == l) = true) : s.data.toList = l := by
  rw [Lib.toList_data] at h
  exact beq_iff_eq.mp h
theorem ne_of_beq' {s : ByteArray} {l : List UInt8} (h : (s.toList == l) = false) : ¬ s.data.toList = l := by
  rw [Lib.toList_data] at h
  exact beq_eq_false_iff_ne.mp h
theorem both {b : Bool} {p : Prop} (h1 : b = true) (h2 : b = false) : p := by rw [h1] at h2; cases h2
set_option maxHeartbeats 1000000 in
theorem rkey_any (s : ByteArray) (w : World) :
    Calls Tryz.prog 86 #[.string s] w fun e w' => e = .returned (.bool (keyL s.data.toList)) ∧ w = w' := by
  go_enter Tryz.func86, Tryz.ntmps86
  go_wp2
  all_goals
    go_ret
    refine ⟨ret_bool ?_, rfl⟩
    first
      | (refine key_of (eq_of_beq' (l := [98, 111, 111, 108]) ?_) (by decide); assumption)
      | (refine key_of (eq_of_beq' (l := [117, 56]) ?_) (by decide); assumption)
      | (refine key_of (eq_of_beq' (l := [117, 49, 54]) ?_) (by decide); assumption)
      | (refine key_of (eq_of_beq' (l := [117, 51, 50]) ?_) (by decide); assumption)
      | (refine key_of (eq_of_beq' (l := [117, 54, 52]) ?_) (by decide); assumption)
      | (refine key_of (eq_of_beq' (l := [105, 56]) ?_) (by decide); assumption)
      | (refine key_of (eq_of_beq' (l := [105, 49, 54]) ?_) (by decide); assumption)
      | (refine key_of (eq_of_beq' (l := [105, 51, 50]) ?_) (by decide); assumption)
      | (refine key_of (eq_of_beq' (l := [105, 54, 52]) ?_) (by decide); assumption)
      | (refine key_of (eq_of_beq' (l := [118, 111, 105, 100]) ?_) (by decide); assumption)
      | (refine key_of (eq_of_beq' (l := [105, 102]) ?_) (by decide); assumption)
      | (refine key_of (eq_of_beq' (l := [101, 108, 115, 101]) ?_) (by decide); assumption)
      | (refine key_of (eq_of_beq' (l := [119, 104, 105, 108, 101]) ?_) (by decide); assumption)
      | (refine key_of (eq_of_beq' (l := [114, 101, 116, 117, 114, 110]) ?_) (by decide); assumption)
      | (refine key_of (eq_of_beq' (l := [97, 115, 115, 101, 114, 116]) ?_) (by decide); assumption)
      | (refine key_of (eq_of_beq' (l := [97, 115, 115, 117, 109, 101]) ?_) (by decide); assumption)
      | (refine key_of (eq_of_beq' (l := [110, 111, 110, 100, 101, 116]) ?_) (by decide); assumption)
      | (refine key_of (eq_of_beq' (l := [116, 114, 117, 101]) ?_) (by decide); assumption)
      | (refine key_of (eq_of_beq' (l := [102, 97, 108, 115, 101]) ?_) (by decide); assumption)
      | (refine both (b := (s.toList == [98, 111, 111, 108])) ?_ ?_ <;> assumption)
      | (refine both (b := (s.toList == [117, 56])) ?_ ?_ <;> assumption)
      | (refine both (b := (s.toList == [117, 49, 54])) ?_ ?_ <;> assumption)
      | (refine both (b := (s.toList == [117, 51, 50])) ?_ ?_ <;> assumption)
      | (refine both (b := (s.toList == [117, 54, 52])) ?_ ?_ <;> assumption)
      | (refine both (b := (s.toList == [105, 56])) ?_ ?_ <;> assumption)
      | (refine both (b := (s.toList == [105, 49, 54])) ?_ ?_ <;> assumption)
      | (refine both (b := (s.toList == [105, 51, 50])) ?_ ?_ <;> assumption)
      | (refine both (b := (s.toList == [105, 54, 52])) ?_ ?_ <;> assumption)
      | (refine both (b := (s.toList == [118, 111, 105, 100])) ?_ ?_ <;> assumption)
      | (refine both (b := (s.toList == [105, 102])) ?_ ?_ <;> assumption)
      | (refine both (b := (s.toList == [101, 108, 115, 101])) ?_ ?_ <;> assumption)
      | (refine both (b := (s.toList == [119, 104, 105, 108, 101])) ?_ ?_ <;> assumption)
      | (refine both (b := (s.toList == [114, 101, 116, 117, 114, 110])) ?_ ?_ <;> assumption)
      | (refine both (b := (s.toList == [97, 115, 115, 101, 114, 116])) ?_ ?_ <;> assumption)
      | (refine both (b := (s.toList == [97, 115, 115, 117, 109, 101])) ?_ ?_ <;> assumption)
      | (refine both (b := (s.toList == [110, 111, 110, 100, 101, 116])) ?_ ?_ <;> assumption)
      | (refine both (b := (s.toList == [116, 114, 117, 101])) ?_ ?_ <;> assumption)
      | (refine both (b := (s.toList == [102, 97, 108, 115, 101])) ?_ ?_ <;> assumption)
      | (refine key_no (ne_of_beq' ?_) (ne_of_beq' ?_) (ne_of_beq' ?_) (ne_of_beq' ?_) (ne_of_beq' ?_) (ne_of_beq' ?_) (ne_of_beq' ?_) (ne_of_beq' ?_) (ne_of_beq' ?_) (ne_of_beq' ?_) (ne_of_beq' ?_) (ne_of_beq' ?_) (ne_of_beq' ?_) (ne_of_beq' ?_) (ne_of_beq' ?_) (ne_of_beq' ?_) (ne_of_beq' ?_) (ne_of_beq' ?_) (ne_of_beq' ?_) <;> assumption)
end Go.Proofs.YtnalgnklgmoepaaGreatDoor
namespace Go.Proofs.YtnalgnklgmoepaaGreatDoor
open Go Go.RowKit

theorem grown_refl (w : World) (r : Option Nat) : w.grownBy w r := ⟨rfl, rfl, rfl, Nat.le_refl _, fun _ _ _ => rfl⟩
theorem grown_trans {a b c : World} {r : Option Nat} (h : a.grownBy b r) (k : b.grownBy c r) : a.grownBy c r :=
  ⟨k.os.trans h.os, k.tape.trans h.tape, k.output.trans h.output, Nat.le_trans h.size k.size, fun i hi hr => (k.block i (Nat.lt_of_lt_of_le hi h.size) hr).trans (h.block i hi hr)⟩
theorem grown_set {a b : World} {B o : Nat} (h : a.grownBy b (some B)) (v : Value) : a.grownBy (b.setCell ⟨B, o, none⟩ v) (some B) := by
  have hb := (Below.refl 0 b).setCell (p := ⟨B, o, none⟩) (Nat.zero_le _) v
  refine grown_trans h ⟨hb.os, hb.tape, hb.output, hb.size, fun k _ hr => Below.heap_setCell b _ v k (fun e => hr (by rw [e]))⟩
theorem grown_alloc {a b : World} {r : Option Nat} (h : a.grownBy b r) (o : Obj) : a.grownBy (b.alloc o) r := grown_trans h (World.grownBy_alloc b o r)
theorem grown_drew {a b : World} {r : Option Nat} (h : a.grownBy b r) : a.grownBy b.drew r := by
  have hb := (Below.refl b.heap.size b).drew
  exact grown_trans h ⟨hb.os, hb.tape, hb.output, hb.size, fun k hk _ => hb.block k hk⟩

/-- The reader lies at block B. -/
structure RdAt (B : Nat) (r : ByteArray) (ln c : Int) (w : World) : Prop where
  c0 : w.cell? ⟨B, 0, none⟩ = some (.string r)
  c1 : w.cell? ⟨B, 1, none⟩ = some (.int .i64 ln)
  c2 : w.cell? ⟨B, 2, none⟩ = some (.int .i64 c)
  f0 : w.frozen? ⟨B, 0, none⟩ = false
  f1 : w.frozen? ⟨B, 1, none⟩ = false
  f2 : w.frozen? ⟨B, 2, none⟩ = false
theorem RdAt.lt {B : Nat} {r : ByteArray} {ln c : Int} {w : World} (h : RdAt B r ln c w) : B < w.heap.size := by
  by_cases hh : B < w.heap.size
  · exact hh
  · exfalso
    have : w.heap[B]? = none := by simp; omega
    have := h.c0
    simp [World.cell?, *] at this
theorem RdAt.kept {B : Nat} {r : ByteArray} {ln c : Int} {w w' : World} {row : Option Nat} (h : RdAt B r ln c w) (hg : w.grownBy w' row) (hne : some B ≠ row) : RdAt B r ln c w' := by
  have hb := hg.block B h.lt hne
  exact ⟨(World.cell?_of_block hb).trans h.c0, (World.cell?_of_block hb).trans h.c1, (World.cell?_of_block hb).trans h.c2, (World.frozen?_of_block hb).trans h.f0, (World.frozen?_of_block hb).trans h.f1, (World.frozen?_of_block hb).trans h.f2⟩
theorem RdAt.set0 {B : Nat} {r : ByteArray} {ln c : Int} {w : World} (h : RdAt B r ln c w) (r' : ByteArray) : RdAt B r' ln c (w.setCell ⟨B, 0, none⟩ (.string r')) := by
  have h0 := h.c0; have h1 := h.c1; have h2 := h.c2; have g0 := h.f0; have g1 := h.f1; have g2 := h.f2
  constructor <;> simp [go_sem, *]
theorem RdAt.set1 {B : Nat} {r : ByteArray} {ln c : Int} {w : World} (h : RdAt B r ln c w) (x : Int) : RdAt B r x c (w.setCell ⟨B, 1, none⟩ (.int .i64 x)) := by
  have h0 := h.c0; have h1 := h.c1; have h2 := h.c2; have g0 := h.f0; have g1 := h.f1; have g2 := h.f2
  constructor <;> simp [go_sem, *]
theorem RdAt.set2 {B : Nat} {r : ByteArray} {ln c : Int} {w : World} (h : RdAt B r ln c w) (x : Int) : RdAt B r ln x (w.setCell ⟨B, 2, none⟩ (.int .i64 x)) := by
  have h0 := h.c0; have h1 := h.c1; have h2 := h.c2; have g0 := h.f0; have g1 := h.f1; have g2 := h.f2
  constructor <;> simp [go_sem, *]
end Go.Proofs.YtnalgnklgmoepaaGreatDoor
namespace Go.Proofs.YtnalgnklgmoepaaGreatDoor
open Go Go.RowKit

theorem ext_head_size (r : ByteArray) (n : Nat) (h : n ≤ r.size) : (r.extract 0 n).size = n := by
  rw [size_len, Lib.extract_data]
  simp
  exact Nat.min_eq_left h
theorem take_at (t : ByteArray) (k : Nat) (h : k < t.size) : t.data.toList.take (k + 1) = t.data.toList.take k ++ [t[k]] := by
  rw [List.take_succ_eq_append_getElem (by simpa using h)]; rfl

set_option maxHeartbeats 1000000 in
theorem take_any (B : Nat) (r : ByteArray) (ln c : Int) (n : Nat) (w : World) (hR : RdAt B r ln c w) (hn : n ≤ r.size) (hs : r.size ≤ 65536) (h1 : 1 ≤ ln) (h2 : 1 ≤ c) (h3 : ln ≤ 1000000) (h4 : c ≤ 1000000) :
    Calls Tryz.prog 43 #[.pointer (some ⟨B, 0, none⟩), .int .i64 n] w fun e w' => e = .returned (.string (r.extract 0 n)) ∧
      RdAt B (r.extract n r.size) (advL (r.data.toList.take n) ln c).1 (advL (r.data.toList.take n) ln c).2 w' ∧ w.grownBy w' (some B) := by
  have ht : (r.extract 0 n).data.toList = r.data.toList.take n := by rw [Lib.extract_data]; simp
  have hz := ext_head_size r n hn
  have c0 := hR.c0
  have HT := Lib.hid ht
  have HZ := Lib.hid hz
  clear ht hz
  go_enter Tryz.func43, Tryz.ntmps43
  go_wp2
  go_loopw [14] (fun i wr => ∃ k : Nat, k ≤ n ∧ i = .int .i64 k ∧ RdAt B r (advL ((r.extract 0 n).data.toList.take k) ln c).1 (advL ((r.extract 0 n).data.toList.take k) ln c).2 wr ∧ w.grownBy wr (some B)) (fun i _ => n - (intOf i).toNat)
  case atStart => exact ⟨0, Nat.zero_le _, rfl, by simpa [advL] using hR, grown_refl _ _⟩
  case round =>
    obtain ⟨k, hk, rfl, hRk, hg⟩ := hrel
    have hbd := adv_bd ((r.extract 0 n).data.toList.take k) ln c h1 h2
    have hlen : ((r.extract 0 n).data.toList.take k).length ≤ k := List.length_take_le _ _
    clear c0 hR
    have c0 := hRk.c0
    have c1 := hRk.c1
    have c2 := hRk.c2
    have f0 := hRk.f0
    have f1 := hRk.f1
    have f2 := hRk.f2
    have HR := Lib.hid hRk
    clear hRk
    by_cases hlt : k < n
    · have hlt' : k < (r.extract 0 n).size := by rw [HZ.out]; exact hlt
      have hst := adv_snoc ((r.extract 0 n).data.toList.take k) (r.extract 0 n)[k] ln c
      rw [← take_at _ k hlt'] at hst
      have HST := Lib.hid hst
      clear hst
      generalize hX : advL ((r.extract 0 n).data.toList.take k) ln c = x at *
      obtain ⟨x1, x2⟩ := x
      simp only at *
      clear hX
      by_cases hb : ((r.extract 0 n)[k].toNat : Int) = 10
      · have hb' : (((r.extract 0 n)[k].toNat : Int) == 10) = true := by simpa using hb
        have HB := Lib.hid hb
        clear hb
        go_wp2
        go_roundw
        case rel =>
          have := HST.out
          rw [if_pos HB.out] at this
          exact ⟨k + 1, by omega, by go_num, by rw [this]; exact ((HR.out.set2 _).set1 _).set2 _, grown_set (grown_set (grown_set hg _) _) _⟩
        case measure => simp [intOf]; omega
      · have hb' : (((r.extract 0 n)[k].toNat : Int) == 10) = false := by simpa using hb
        have HB := Lib.hid hb
        clear hb
        go_wp2
        go_roundw
        case rel =>
          have := HST.out
          rw [if_neg HB.out] at this
          exact ⟨k + 1, by omega, by go_num, by rw [this]; exact HR.out.set2 _, grown_set hg _⟩
        case measure => simp [intOf]; omega
    · obtain rfl : k = n := by omega
      have e : (r.extract 0 k).data.toList.take k = r.data.toList.take k := by rw [HT.out, List.take_take, Nat.min_self]
      go_wp2
      go_ret
      refine ⟨rfl, ?_, grown_set hg _⟩
      rw [← e]
      exact HR.out.set0 _
end Go.Proofs.YtnalgnklgmoepaaGreatDoor
namespace Go.Proofs.YtnalgnklgmoepaaGreatDoor
open Go Go.RowKit

theorem gap_nil : gapL [] = 0 := rfl
theorem skip_fuel (n m : Nat) (l : List UInt8) (ln c : Int) (hn : l.length ≤ n) (hm : l.length ≤ m) : skipF n l ln c = skipF m l ln c := by
  induction n generalizing m l ln c with
  | zero =>
    obtain rfl : l = [] := List.length_eq_zero_iff.mp (by omega)
    cases m with
    | zero => rfl
    | succ m => rw [skipF, skipF, if_pos gap_nil]
  | succ n ih =>
    cases m with
    | zero =>
      obtain rfl : l = [] := List.length_eq_zero_iff.mp (by omega)
      rw [skipF, skipF, if_pos gap_nil]
    | succ m =>
      rw [skipF, skipF]
      by_cases h : gapL l = 0
      · rw [if_pos h, if_pos h]
      · rw [if_neg h, if_neg h]
        exact ih _ _ _ _ (by rw [List.length_drop]; omega) (by rw [List.length_drop]; omega)
def skipL (l : List UInt8) (ln c : Int) : List UInt8 × Int × Int := skipF l.length l ln c
theorem skip_stop {l : List UInt8} {ln c : Int} (h : gapL l = 0) : skipL l ln c = (l, ln, c) := by
  unfold skipL
  cases hl : l.length with
  | zero => rfl
  | succ n => rw [skipF, if_pos h]
theorem skip_go {l : List UInt8} {ln c : Int} (h : ¬ gapL l = 0) :
    skipL l ln c = skipL (l.drop (gapL l)) (advL (l.take (gapL l)) ln c).1 (advL (l.take (gapL l)) ln c).2 := by
  have hg := gap_le l
  conv => lhs; unfold skipL
  cases hl : l.length with
  | zero => omega
  | succ n =>
    rw [skipF, if_neg h]
    exact skip_fuel _ _ _ _ _ (by rw [List.length_drop]; omega) (Nat.le_refl _)

/-- How much is left to read. -/
def restLen (B : Nat) (w : World) : Nat := match w.cell? ⟨B, 0, none⟩ with
  | some (.string r) => r.size
  | _ => 0
theorem RdAt.rest {B : Nat} {r : ByteArray} {ln c : Int} {w : World} (h : RdAt B r ln c w) : restLen B w = r.size := by
  unfold restLen
  rw [h.c0]
/-- The reader, somewhere on its way, within bounds. -/
structure RdIn (B : Nat) (r : ByteArray) (ln c : Int) (w : World) : Prop where
  at_ : RdAt B r ln c w
  hs : r.size ≤ 65536
  l1 : 1 ≤ ln
  c1 : 1 ≤ c
  l2 : ln + r.size ≤ 1000000
  c2 : c + r.size ≤ 1000000
theorem ext_tail_size (r : ByteArray) (n : Nat) : (r.extract n r.size).size = r.size - n := by
  rw [size_len, Lib.extract_to_end, List.length_drop, size_len]
theorem RdIn.take {B n : Nat} {r : ByteArray} {ln c : Int} {w w' : World} (h : RdIn B r ln c w) (hn : n ≤ r.size)
    (h' : RdAt B (r.extract n r.size) (advL (r.data.toList.take n) ln c).1 (advL (r.data.toList.take n) ln c).2 w') :
    RdIn B (r.extract n r.size) (advL (r.data.toList.take n) ln c).1 (advL (r.data.toList.take n) ln c).2 w' := by
  have hb := adv_bd (r.data.toList.take n) ln c h.l1 h.c1
  have hl : (r.data.toList.take n).length ≤ n := List.length_take_le _ _
  have h1 := h.hs; have h2 := h.l2; have h3 := h.c2
  exact ⟨h', by rw [ext_tail_size]; omega, by omega, by omega, by rw [ext_tail_size]; omega, by rw [ext_tail_size]; omega⟩
/-- Behind skip. -/
def Skipped (B : Nat) (r : ByteArray) (ln c : Int) (w : World) (e : Ending) (w' : World) : Prop :=
  e = .returned (.tuple #[]) ∧ ∃ r' ln' c', RdIn B r' ln' c' w' ∧ (r'.data.toList, ln', c') = skipL r.data.toList ln c ∧ r'.size ≤ r.size ∧ w.grownBy w' (some B)
def SkipRel (B : Nat) (r : ByteArray) (ln c : Int) (w : World) (v : Value) (wr : World) : Prop :=
  ∃ r' ln' c', v = .int .i64 (gapL r'.data.toList) ∧ RdIn B r' ln' c' wr ∧ skipL r'.data.toList ln' c' = skipL r.data.toList ln c ∧ r'.size ≤ r.size ∧ w.grownBy wr (some B)
set_option maxHeartbeats 1000000 in
theorem skip_any (B : Nat) (r : ByteArray) (ln c : Int) (w : World) (hR : RdIn B r ln c w) :
    Calls Tryz.prog 26 #[.pointer (some ⟨B, 0, none⟩)] w (Skipped B r ln c w) := by
  have c0 := hR.at_.c0
  have hs := hR.hs
  have hm : r.size ≤ maxLen := by unfold maxLen; omega
  go_enter Tryz.func26, Tryz.ntmps26
  go_wp2_with (go_at_call 42; refine (gap_any _ _ hm).mono ?_; rintro e w' ⟨rfl, rfl⟩)
  go_loopw [2] (fun v wr => SkipRel B r ln c w v wr) (fun _ wr => restLen B wr)
  case atStart => exact ⟨r, ln, c, rfl, hR, rfl, Nat.le_refl _, grown_refl _ _⟩
  case round =>
    obtain ⟨r1, ln1, c1, rfl, hR1, hk, hle, hg⟩ := hrel
    have HR1 := Lib.hid hR1
    have HK := Lib.hid hk
    have hg1 := gap_le r1.data.toList
    have hz1 := Lib.hid (size_len r1)
    have hs1 := hR1.hs
    clear c0 hs hm hR hk hR1
    by_cases h0 : gapL r1.data.toList = 0
    · have H0 := Lib.hid h0
      rw [h0]
      clear h0 hg1
      go_wp2
      go_end0
      exact ⟨rfl, r1, ln1, c1, HR1.out, by rw [← HK.out, skip_stop H0.out], hle, hg⟩
    · have h0' : 0 < gapL r1.data.toList := by omega
      have hgs : gapL r1.data.toList ≤ r1.size := by rw [hz1.out]; exact hg1
      have hms : ∀ n, (r1.extract n r1.size).size ≤ maxLen := fun n => by rw [ext_tail_size]; unfold maxLen; omega
      have HMS := Lib.hid hms
      clear hms
      have HT := Lib.hid (take_any B r1 ln1 c1 (gapL r1.data.toList) wr HR1.out.at_ hgs hs1 HR1.out.l1 HR1.out.c1 (by have := HR1.out.l2; omega) (by have := HR1.out.c2; omega))
      have HIN := Lib.hid (fun w' h => RdIn.take (w' := w') HR1.out hgs h)
      have HGO := Lib.hid (skip_go (ln := ln1) (c := c1) h0)
      have hrest := Lib.hid HR1.out.at_.rest
      generalize hG : gapL r1.data.toList = g at *
      clear hG h0
      go_wp2_with (first
        | (go_at_call 43; refine (HT.out).mono ?_; rintro e w1 ⟨rfl, hA, hgr⟩; have hc0 := hA.c0; have HA := Lib.hid hA; clear hA)
        | (go_at_call 42; refine (gap_any _ _ (HMS.out _)).mono ?_; rintro e w' ⟨rfl, rfl⟩))
      go_roundw
      case rel =>
        refine ⟨_, _, _, by rw [Lib.extract_data], HIN.out _ HA.out, ?_, ?_, grown_trans hg hgr⟩
        · rw [Lib.extract_to_end, ← HK.out, HGO.out]
        · rw [ext_tail_size]; omega
      case measure =>
        rw [HA.out.rest, hrest.out, ext_tail_size]
        omega
end Go.Proofs.YtnalgnklgmoepaaGreatDoor
namespace Go.Proofs.YtnalgnklgmoepaaGreatDoor
open Go Go.RowKit

/-- A token as a value. -/
def tokV (k : Int) (t : ByteArray) (m ln c : Int) : Value := .agg #[.int .i64 k, .string t, .int .u64 m, .int .i64 ln, .int .i64 c]

theorem grown_below {w w' : World} (h : w.grownBy w' none) : Below w.heap.size w w' := ⟨h.os, h.tape, h.output, h.size, fun k hk => h.block k hk (by simp)⟩
theorem signs_kept {w w' : World} (h : Signs w) (hg : w.grownBy w' none) : Signs w' := by
  obtain ⟨b, off, cap, h1⟩ := h
  exact ⟨b, off, cap, h1.below (grown_below hg)⟩

set_option maxHeartbeats 1000000 in
theorem token_end (B : Nat) (ln c : Int) (w : World) (hR : RdAt B ⟨#[]⟩ ln c w) :
    Calls Tryz.prog 27 #[.pointer (some ⟨B, 0, none⟩)] w fun e w' => e = .returned (.tuple #[tokV 3 ⟨#[]⟩ 0 ln c, .int .i64 0]) ∧ RdAt B ⟨#[]⟩ ln c w' ∧ w.grownBy w' (some B) := by
  have c0 := hR.c0
  have c1 := hR.c1
  have c2 := hR.c2
  have hB := hR.lt
  go_enter Tryz.func27, Tryz.ntmps27
  go_wp2
  go_region
  go_wp2
  exact bodyPost_ret (v := .tuple #[tokV 3 ⟨#[]⟩ 0 ln c, .int .i64 0]) (by simp [results, Tryz.results27, go_sem, tokV]) rfl
    ⟨rfl, hR.kept (row := none) (grown_drew (grown_alloc (grown_alloc (grown_refl _ _) _) _)) (by simp), grown_drew (grown_alloc (grown_alloc (grown_refl _ _) _) _)⟩

set_option maxHeartbeats 1000000 in
theorem token_byte (B : Nat) (r : ByteArray) (ln c : Int) (w : World) (hR : RdAt B r ln c w) (ht : Signs w) (h0 : 0 < r.size) (hs : r.size ≤ 65536) (hn : firstN r.data.toList = 0) :
    Calls Tryz.prog 27 #[.pointer (some ⟨B, 0, none⟩)] w fun e w' => e = .returned (.tuple #[tokV 0 ⟨#[]⟩ 0 ln c, .int .i64 20]) ∧ RdAt B r ln c w' ∧ w.grownBy w' (some B) := by
  have c0 := hR.c0
  have c1 := hR.c1
  have c2 := hR.c2
  have hB := hR.lt
  have hE := not_empty h0
  have hm : r.size ≤ maxLen := by unfold maxLen; omega
  have hF := Lib.hid (fun w ht => first_any r w hm h0 ht)
  have HN := Lib.hid hn
  have HT := Lib.hid ht
  have HR := Lib.hid hR
  clear hn ht hR hm
  go_enter Tryz.func27, Tryz.ntmps27
  go_wp2
  go_region
  go_wp2_with (go_at_call 44; refine (hF.out _ (signs_kept HT.out (grown_drew (grown_alloc (grown_alloc (grown_refl _ none) _) _)))).mono ?_; rintro e w' ⟨rfl, rfl⟩; rw [HN.out])
  exact bodyPost_ret (v := .tuple #[tokV 0 ⟨#[]⟩ 0 ln c, .int .i64 20]) (by simp [results, Tryz.results27, go_sem, tokV]) rfl
    ⟨rfl, HR.out.kept (row := none) (grown_drew (grown_alloc (grown_alloc (grown_refl _ _) _) _)) (by simp), grown_drew (grown_alloc (grown_alloc (grown_refl _ _) _) _)⟩
end Go.Proofs.YtnalgnklgmoepaaGreatDoor
namespace Go.Proofs.YtnalgnklgmoepaaGreatDoor
open Go Go.RowKit

theorem kept_cells {W w1 : World} {B b : Nat} (hg : W.grownBy w1 (some B)) (hne : b ≠ B) (hb : b < W.heap.size) :
    (∀ o, w1.cell? ⟨b, o, none⟩ = W.cell? ⟨b, o, none⟩) ∧ (∀ o, w1.frozen? ⟨b, o, none⟩ = W.frozen? ⟨b, o, none⟩) :=
  ⟨fun _ => World.cell?_of_block (hg.block b hb (fun e => hne (Option.some.inj e))), fun _ => World.frozen?_of_block (hg.block b hb (fun e => hne (Option.some.inj e)))⟩

theorem both_set {w w1 : World} {B b o : Nat} {r : ByteArray} {ln c : Int} (hB : B < w.heap.size) (hb : w.heap.size ≤ b) (v : Value) (h : RdAt B r ln c w1 ∧ w.grownBy w1 (some B)) :
    RdAt B r ln c (w1.setCell ⟨b, o, none⟩ v) ∧ w.grownBy (w1.setCell ⟨b, o, none⟩ v) (some B) := by
  refine ⟨h.1.kept (row := some b) (grown_set (grown_refl _ _) v) (fun e => by have := Option.some.inj e; omega), ?_⟩
  have hb' := (Below.refl w.heap.size w1).setCell (p := ⟨b, o, none⟩) hb v
  have hg := h.2
  exact ⟨hb'.os.trans hg.os, hb'.tape.trans hg.tape, hb'.output.trans hg.output, Nat.le_trans hg.size hb'.size, fun k hk hr => (hb'.block k hk).trans (hg.block k hk hr)⟩

set_option maxHeartbeats 2000000 in
theorem token_word (B : Nat) (r : ByteArray) (ln c kd : Int) (n : Nat) (w : World) (hR : RdIn B r ln c w) (ht : Signs w) (h0 : 0 < r.size)
    (hkd : firstK r.data.toList = kd) (hn : firstN r.data.toList = n) (hn0 : 0 < n) (hnr : n ≤ r.size) (hk1 : (kd != 1) = true) :
    Calls Tryz.prog 27 #[.pointer (some ⟨B, 0, none⟩)] w fun e w' => e = .returned (.tuple #[tokV kd (r.extract 0 n) 0 ln c, .int .i64 0]) ∧
      RdAt B (r.extract n r.size) (advL (r.data.toList.take n) ln c).1 (advL (r.data.toList.take n) ln c).2 w' ∧ w.grownBy w' (some B) := by
  have c0 := hR.at_.c0
  have c1 := hR.at_.c1
  have c2 := hR.at_.c2
  have hB := hR.at_.lt
  have hE := not_empty h0
  have hs := hR.hs
  have hl1 := hR.l2
  have hl2 := hR.c2
  have hm : r.size ≤ maxLen := by unfold maxLen; omega
  have hF := Lib.hid (fun w ht => first_any r w hm h0 ht)
  rw [hkd, hn] at hF
  have hTk := Lib.hid (fun w hA => take_any B r ln c n w hA hnr hs hR.l1 hR.c1 (by omega) (by omega))
  have HT := Lib.hid ht
  have HR := Lib.hid hR
  clear hn ht hR hm hkd
  go_enter Tryz.func27, Tryz.ntmps27
  go_wp2
  go_region
  go_wp2_with (first
    | (go_at_call 44; refine (hF.out _ (signs_kept HT.out (grown_drew (grown_alloc (grown_alloc (grown_refl _ none) _) _)))).mono ?_; rintro e w' ⟨rfl, rfl⟩)
    | (go_at_call 43; refine (hTk.out _ (HR.out.at_.kept (row := none) (grown_drew (grown_alloc (grown_alloc (grown_refl _ none) _) _)) (by simp))).mono ?_; rintro e w1 ⟨rfl, hA, hgr⟩
       obtain ⟨e1, g1⟩ := kept_cells (b := w.heap.size) hgr (by omega) (by simp; omega)
       obtain ⟨e2, g2⟩ := kept_cells (b := w.heap.size + 1) hgr (by omega) (by simp)
       have HA := Lib.hid hA
       have HG := Lib.hid hgr
       clear hA hgr))
  go_light
  refine bodyPost_ret (v := .tuple #[tokV kd (r.extract 0 n) 0 ln c, .int .i64 0]) (by simp [results, Tryz.results27, go_sem, tokV, e1]) rfl ⟨rfl, ?_⟩
  repeat refine both_set hB (by omega) _ ?_
  exact ⟨HA.out, grown_trans (grown_drew (grown_alloc (grown_alloc (grown_refl _ _) _) _)) HG.out⟩
end Go.Proofs.YtnalgnklgmoepaaGreatDoor
namespace Go.Proofs.YtnalgnklgmoepaaGreatDoor
open Go Go.RowKit

set_option maxHeartbeats 2000000 in
theorem token_num (B : Nat) (r : ByteArray) (ln c : Int) (n : Nat) (w : World) (hR : RdIn B r ln c w) (ht : Signs w) (h0 : 0 < r.size)
    (hkd : firstK r.data.toList = 1) (hn : firstN r.data.toList = n) (hn0 : 0 < n) (hnr : n ≤ r.size) (m : Int) (hnum : (numL (r.data.toList.take n)).getD 0 = m) (hok : (numL (r.data.toList.take n)).isSome = true) :
    Calls Tryz.prog 27 #[.pointer (some ⟨B, 0, none⟩)] w fun e w' => e = .returned (.tuple #[tokV 1 (r.extract 0 n) m ln c, .int .i64 0]) ∧
      RdAt B (r.extract n r.size) (advL (r.data.toList.take n) ln c).1 (advL (r.data.toList.take n) ln c).2 w' ∧ w.grownBy w' (some B) := by
  have c0 := hR.at_.c0
  have c1 := hR.at_.c1
  have c2 := hR.at_.c2
  have hB := hR.at_.lt
  have hE := not_empty h0
  have hs := hR.hs
  have hl1 := hR.l2
  have hl2 := hR.c2
  have hm : r.size ≤ maxLen := by unfold maxLen; omega
  have hF := Lib.hid (fun w ht => first_any r w hm h0 ht)
  rw [hkd, hn] at hF
  have hTk := Lib.hid (fun w hA => take_any B r ln c n w hA hnr hs hR.l1 hR.c1 (by omega) (by omega))
  have hNu := Lib.hid (fun w => number_any (r.extract 0 n) w (by rw [ext_head_size r n hnr]; unfold maxLen; omega))
  have hte : (r.extract 0 n).data.toList = r.data.toList.take n := by rw [Lib.extract_data]; simp
  rw [hte, hnum, hok] at hNu
  have HT := Lib.hid ht
  have HR := Lib.hid hR
  clear hn ht hR hm hkd hte hnum hok
  go_enter Tryz.func27, Tryz.ntmps27
  go_wp2
  go_region
  go_wp2_with (first
    | (go_at_call 44; refine (hF.out _ (signs_kept HT.out (grown_drew (grown_alloc (grown_alloc (grown_refl _ none) _) _)))).mono ?_; rintro e w' ⟨rfl, rfl⟩)
    | (go_at_call 43; refine (hTk.out _ (HR.out.at_.kept (row := none) (grown_drew (grown_alloc (grown_alloc (grown_refl _ none) _) _)) (by simp))).mono ?_; rintro e w1 ⟨rfl, hA, hgr⟩
       obtain ⟨e1, g1⟩ := kept_cells (b := w.heap.size) hgr (by omega) (by simp; omega)
       obtain ⟨e2, g2⟩ := kept_cells (b := w.heap.size + 1) hgr (by omega) (by simp)
       have HA := Lib.hid hA
       have HG := Lib.hid hgr
       clear hA hgr)
    | (go_at_call 45; refine (hNu.out _).mono ?_; rintro e w' ⟨rfl, rfl⟩))
  go_light
  refine bodyPost_ret (v := .tuple #[tokV 1 (r.extract 0 n) m ln c, .int .i64 0]) (by simp [results, Tryz.results27, go_sem, tokV, e1]) rfl ⟨rfl, ?_⟩
  repeat refine both_set hB (by omega) _ ?_
  exact ⟨HA.out, grown_trans (grown_drew (grown_alloc (grown_alloc (grown_refl _ _) _) _)) HG.out⟩

set_option maxHeartbeats 2000000 in
theorem token_bad (B : Nat) (r : ByteArray) (ln c : Int) (n : Nat) (w : World) (hR : RdIn B r ln c w) (ht : Signs w) (h0 : 0 < r.size)
    (hkd : firstK r.data.toList = 1) (hn : firstN r.data.toList = n) (hn0 : 0 < n) (hnr : n ≤ r.size) (m : Int) (hnum : (numL (r.data.toList.take n)).getD 0 = m) (hok : (numL (r.data.toList.take n)).isSome = false) :
    Calls Tryz.prog 27 #[.pointer (some ⟨B, 0, none⟩)] w fun e w' => e = .returned (.tuple #[tokV 1 (r.extract 0 n) 0 ln c, .int .i64 21]) ∧
      RdAt B (r.extract n r.size) (advL (r.data.toList.take n) ln c).1 (advL (r.data.toList.take n) ln c).2 w' ∧ w.grownBy w' (some B) := by
  have c0 := hR.at_.c0
  have c1 := hR.at_.c1
  have c2 := hR.at_.c2
  have hB := hR.at_.lt
  have hE := not_empty h0
  have hs := hR.hs
  have hl1 := hR.l2
  have hl2 := hR.c2
  have hm : r.size ≤ maxLen := by unfold maxLen; omega
  have hF := Lib.hid (fun w ht => first_any r w hm h0 ht)
  rw [hkd, hn] at hF
  have hTk := Lib.hid (fun w hA => take_any B r ln c n w hA hnr hs hR.l1 hR.c1 (by omega) (by omega))
  have hNu := Lib.hid (fun w => number_any (r.extract 0 n) w (by rw [ext_head_size r n hnr]; unfold maxLen; omega))
  have hte : (r.extract 0 n).data.toList = r.data.toList.take n := by rw [Lib.extract_data]; simp
  rw [hte, hnum, hok] at hNu
  have HT := Lib.hid ht
  have HR := Lib.hid hR
  clear hn ht hR hm hkd hte hnum hok
  go_enter Tryz.func27, Tryz.ntmps27
  go_wp2
  go_region
  go_wp2_with (first
    | (go_at_call 44; refine (hF.out _ (signs_kept HT.out (grown_drew (grown_alloc (grown_alloc (grown_refl _ none) _) _)))).mono ?_; rintro e w' ⟨rfl, rfl⟩)
    | (go_at_call 43; refine (hTk.out _ (HR.out.at_.kept (row := none) (grown_drew (grown_alloc (grown_alloc (grown_refl _ none) _) _)) (by simp))).mono ?_; rintro e w1 ⟨rfl, hA, hgr⟩
       obtain ⟨e1, g1⟩ := kept_cells (b := w.heap.size) hgr (by omega) (by simp; omega)
       obtain ⟨e2, g2⟩ := kept_cells (b := w.heap.size + 1) hgr (by omega) (by simp)
       have HA := Lib.hid hA
       have HG := Lib.hid hgr
       clear hA hgr)
    | (go_at_call 45; refine (hNu.out _).mono ?_; rintro e w' ⟨rfl, rfl⟩))
  go_light
  refine bodyPost_ret (v := .tuple #[tokV 1 (r.extract 0 n) 0 ln c, .int .i64 21]) (by simp [results, Tryz.results27, go_sem, tokV, e1]) rfl ⟨rfl, ?_⟩
  repeat refine both_set hB (by omega) _ ?_
  exact ⟨HA.out, grown_trans (grown_drew (grown_alloc (grown_alloc (grown_refl _ _) _) _)) HG.out⟩
end Go.Proofs.YtnalgnklgmoepaaGreatDoor
