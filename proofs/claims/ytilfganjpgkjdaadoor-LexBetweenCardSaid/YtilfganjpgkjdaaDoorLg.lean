/- The contract of the document's Number. -/
import Derived.Test.YtilfganjpgkjdaaDoorLf
import Derived.Lib.IndexBytes
namespace Go.Proofs.YtilfganjpgkjdaaDoor
open Go Go.RowKit

/-- The document's number: its empty text is told behind the digits. -/
def numR (base acc : Int) : List UInt8 → Option Int
  | [] => some acc
  | b :: r => if base ≤ digR (b.toNat : Int) ∨ (18446744073709551615 - digR (b.toNat : Int)) / base < acc then none else numR base (base * acc + digR (b.toNat : Int)) r
theorem numR_eq (base : Int) (h : base = 10 ∨ base = 16) (l : List UInt8) (acc : Int) : numR base acc l = numFrom base acc l := by
  induction l generalizing acc with
  | nil => rfl
  | cons b r ih =>
    rw [numR, numFrom]
    by_cases hd : digI (b.toNat : Int) = 16
    · have e : digR (b.toNat : Int) = 99 := by
        unfold digI at hd
        unfold digR
        split at hd
        · omega
        · split at hd
          · omega
          · split at hd
            · omega
            · rename_i h1 h2 h3
              rw [if_neg h1, if_neg h2, if_neg h3]
      rw [e, hd, if_pos (.inl (by omega)), if_pos (.inl (by omega))]
    · have e : digR (b.toNat : Int) = digI (b.toNat : Int) := by
        unfold digI at hd ⊢
        unfold digR
        split
        · rfl
        · split
          · rfl
          · split
            · rfl
            · rename_i h1 h2 h3
              rw [if_neg h1, if_neg h2, if_neg h3] at hd
              exact absurd rfl hd
      rw [e, ih, Int.mul_comm]
theorem hex_at (s : ByteArray) : (decide (2 ≤ s.size) && ((s.extract 0 2).toList == [48, 120])) = Lib.hasPrefix s.data.toList hexP := by
  rw [← Lib.hasPrefix_of_take s.data.toList hexP, Lib.toList_data, Lib.extract_data]
  rfl
theorem numR_step {base acc : Int} {d : ByteArray} {k : Nat} {o : Option Int} (h : k < d.size) (hr : numR base acc (d.data.toList.drop k) = o) :
    (if base ≤ digR (d[k].toNat : Int) ∨ (18446744073709551615 - digR (d[k].toNat : Int)) / base < acc then none else numR base (base * acc + digR (d[k].toNat : Int)) (d.data.toList.drop (k + 1))) = o := by
  rw [drop_at d k h, numR] at hr
  exact hr
theorem numR_end {base acc : Int} {d : ByteArray} {k : Nat} {o : Option Int} (h : k ≤ d.size) (h' : ¬ k < d.size) (hr : numR base acc (d.data.toList.drop k) = o) : acc = o.getD 0 ∧ true = o.isSome := by
  obtain rfl : k = d.size := by omega
  rw [List.drop_of_length_le (by simp)] at hr
  subst hr
  exact ⟨rfl, rfl⟩
theorem digR_bd (c : Int) : 0 ≤ digR c ∧ digR c ≤ 99 := by
  unfold digR
  (repeat' split) <;> omega
theorem ext_size (s : ByteArray) (_h : 2 ≤ s.size) : (s.extract 2 s.size).size = s.size - 2 := by
  rw [size_len, Lib.extract_to_end, List.length_drop, size_len]

set_option maxHeartbeats 1000000 in
theorem rnumber_small (s : ByteArray) (w : World) (hs : s.size ≤ maxLen) (h2 : s.size < 2) (h0 : 0 < s.size) :
    Calls Tryd.prog 9 #[.string s] w fun e w' => e = .returned (.tuple #[.int .u64 ((numR 10 0 (s).data.toList).getD 0), .bool (numR 10 0 (s).data.toList).isSome]) ∧ w = w' := by
  unfold maxLen at hs
  have h0' : ¬ ((s.size : Int) = 0) := by omega
  generalize hO : numR 10 0 (s).data.toList = o
  have HO := Lib.hid hO
  clear hO
  go_enter Tryd.func9, Tryd.ntmps9
  go_wp2
  go_loop [5, 6] (fun v i => ∃ (k : Nat) (acc : Int), k ≤ s.size ∧ i = .int .i64 k ∧ v = .int .u64 acc ∧ 0 ≤ acc ∧ acc ≤ 18446744073709551615 ∧ numR 10 acc ((s).data.toList.drop k) = o) (fun _ i => s.size - (intOf i).toNat)
  case atStart => exact ⟨0, 0, Nat.zero_le _, rfl, rfl, by decide, by decide, by simpa using HO.out⟩
  case round =>
    obtain ⟨k, acc, hk, rfl, rfl, ha0, ha1, hr⟩ := hrel
    by_cases hlt : k < s.size
    · have hlt' : k < (s).size := hlt
      have hst := numR_step hlt' hr
      have hx := digR_bd ((s)[k].toNat : Int)
      have hb := byte_lt (s)[k]
      have l2 := fun w => rdigit_any ((s)[k].toNat : Int) w hb.1 hb.2
      generalize hX : digR ((s)[k].toNat : Int) = x at *
      have L2 := Lib.hid l2
      have HST := Lib.hid hst
      have HX := Lib.hid hX
      clear l2 hst hr hX hb
      obtain ⟨hx0, hx1⟩ := hx
      by_cases hc1 : 10 ≤ x
      · go_wp2_with (go_at_call 19; refine (L2.out _).mono ?_; rintro e w' ⟨rfl, rfl⟩)
        go_ret2
        exact ⟨ret_num (num_no (.inl hc1) HST.out).1 (num_no (.inl hc1) HST.out).2, rfl⟩
      · by_cases hc2 : (18446744073709551615 - x) / 10 < acc
        · go_wp2_with (go_at_call 19; refine (L2.out _).mono ?_; rintro e w' ⟨rfl, rfl⟩)
          go_ret2
          exact ⟨ret_num (num_no (.inr hc2) HST.out).1 (num_no (.inr hc2) HST.out).2, rfl⟩
        · go_wp2_with (go_at_call 19; refine (L2.out _).mono ?_; rintro e w' ⟨rfl, rfl⟩)
          go_round
          case rel => exact ⟨k + 1, 10 * acc + x, by omega, by go_num, rfl, by omega, by omega, num_yes (by omega) (by omega) HST.out⟩
          case measure => simp [intOf]; omega
    · have HR := Lib.hid hr
      have hlt' : ¬ k < (s).size := hlt
      clear hr
      go_wp2
      go_ret2
      exact ⟨ret_num (numR_end hk hlt' HR.out).1 (numR_end hk hlt' HR.out).2, rfl⟩

set_option maxHeartbeats 1000000 in
theorem rnumber_dec (s : ByteArray) (w : World) (hs : s.size ≤ maxLen) (h2 : 2 ≤ s.size) (hp : ((s.extract 0 2).toList == [48, 120]) = false) :
    Calls Tryd.prog 9 #[.string s] w fun e w' => e = .returned (.tuple #[.int .u64 ((numR 10 0 (s).data.toList).getD 0), .bool (numR 10 0 (s).data.toList).isSome]) ∧ w = w' := by
  unfold maxLen at hs
  have h0 : 0 < s.size := by omega
  generalize hO : numR 10 0 (s).data.toList = o
  have HO := Lib.hid hO
  clear hO
  go_enter Tryd.func9, Tryd.ntmps9
  go_wp2
  go_loop [5, 6] (fun v i => ∃ (k : Nat) (acc : Int), k ≤ s.size ∧ i = .int .i64 k ∧ v = .int .u64 acc ∧ 0 ≤ acc ∧ acc ≤ 18446744073709551615 ∧ numR 10 acc ((s).data.toList.drop k) = o) (fun _ i => s.size - (intOf i).toNat)
  case atStart => exact ⟨0, 0, Nat.zero_le _, rfl, rfl, by decide, by decide, by simpa using HO.out⟩
  case round =>
    obtain ⟨k, acc, hk, rfl, rfl, ha0, ha1, hr⟩ := hrel
    by_cases hlt : k < s.size
    · have hlt' : k < (s).size := hlt
      have hst := numR_step hlt' hr
      have hx := digR_bd ((s)[k].toNat : Int)
      have hb := byte_lt (s)[k]
      have l2 := fun w => rdigit_any ((s)[k].toNat : Int) w hb.1 hb.2
      generalize hX : digR ((s)[k].toNat : Int) = x at *
      have L2 := Lib.hid l2
      have HST := Lib.hid hst
      have HX := Lib.hid hX
      clear l2 hst hr hX hb
      obtain ⟨hx0, hx1⟩ := hx
      by_cases hc1 : 10 ≤ x
      · go_wp2_with (go_at_call 19; refine (L2.out _).mono ?_; rintro e w' ⟨rfl, rfl⟩)
        go_ret2
        exact ⟨ret_num (num_no (.inl hc1) HST.out).1 (num_no (.inl hc1) HST.out).2, rfl⟩
      · by_cases hc2 : (18446744073709551615 - x) / 10 < acc
        · go_wp2_with (go_at_call 19; refine (L2.out _).mono ?_; rintro e w' ⟨rfl, rfl⟩)
          go_ret2
          exact ⟨ret_num (num_no (.inr hc2) HST.out).1 (num_no (.inr hc2) HST.out).2, rfl⟩
        · go_wp2_with (go_at_call 19; refine (L2.out _).mono ?_; rintro e w' ⟨rfl, rfl⟩)
          go_round
          case rel => exact ⟨k + 1, 10 * acc + x, by omega, by go_num, rfl, by omega, by omega, num_yes (by omega) (by omega) HST.out⟩
          case measure => simp [intOf]; omega
    · have HR := Lib.hid hr
      have hlt' : ¬ k < (s).size := hlt
      clear hr
      go_wp2
      go_ret2
      exact ⟨ret_num (numR_end hk hlt' HR.out).1 (numR_end hk hlt' HR.out).2, rfl⟩

set_option maxHeartbeats 1000000 in
theorem rnumber_hex (s : ByteArray) (w : World) (hs : s.size ≤ maxLen) (h2 : 2 < s.size) (hp : ((s.extract 0 2).toList == [48, 120]) = true) :
    Calls Tryd.prog 9 #[.string s] w fun e w' => e = .returned (.tuple #[.int .u64 ((numR 16 0 (s.extract 2 s.size).data.toList).getD 0), .bool (numR 16 0 (s.extract 2 s.size).data.toList).isSome]) ∧ w = w' := by
  unfold maxLen at hs
  have hz := Lib.hid (ext_size s (by omega))
  generalize hO : numR 16 0 (s.extract 2 s.size).data.toList = o
  have HO := Lib.hid hO
  clear hO
  go_enter Tryd.func9, Tryd.ntmps9
  go_wp2
  go_loop [5, 6] (fun v i => ∃ (k : Nat) (acc : Int), k ≤ (s.size - 2) ∧ i = .int .i64 k ∧ v = .int .u64 acc ∧ 0 ≤ acc ∧ acc ≤ 18446744073709551615 ∧ numR 16 acc ((s.extract 2 s.size).data.toList.drop k) = o) (fun _ i => (s.size - 2) - (intOf i).toNat)
  case atStart => exact ⟨0, 0, Nat.zero_le _, rfl, rfl, by decide, by decide, by simpa using HO.out⟩
  case round =>
    obtain ⟨k, acc, hk, rfl, rfl, ha0, ha1, hr⟩ := hrel
    by_cases hlt : k < (s.size - 2)
    · have hlt' : k < (s.extract 2 s.size).size := by rw [hz.out]; exact hlt
      have hst := numR_step hlt' hr
      have hx := digR_bd ((s.extract 2 s.size)[k].toNat : Int)
      have hb := byte_lt (s.extract 2 s.size)[k]
      have l2 := fun w => rdigit_any ((s.extract 2 s.size)[k].toNat : Int) w hb.1 hb.2
      generalize hX : digR ((s.extract 2 s.size)[k].toNat : Int) = x at *
      have L2 := Lib.hid l2
      have HST := Lib.hid hst
      have HX := Lib.hid hX
      clear l2 hst hr hX hb
      obtain ⟨hx0, hx1⟩ := hx
      by_cases hc1 : 16 ≤ x
      · go_wp2_with (go_at_call 19; refine (L2.out _).mono ?_; rintro e w' ⟨rfl, rfl⟩)
        go_ret2
        exact ⟨ret_num (num_no (.inl hc1) HST.out).1 (num_no (.inl hc1) HST.out).2, rfl⟩
      · by_cases hc2 : (18446744073709551615 - x) / 16 < acc
        · go_wp2_with (go_at_call 19; refine (L2.out _).mono ?_; rintro e w' ⟨rfl, rfl⟩)
          go_ret2
          exact ⟨ret_num (num_no (.inr hc2) HST.out).1 (num_no (.inr hc2) HST.out).2, rfl⟩
        · go_wp2_with (go_at_call 19; refine (L2.out _).mono ?_; rintro e w' ⟨rfl, rfl⟩)
          go_round
          case rel => exact ⟨k + 1, 16 * acc + x, by omega, by go_num, rfl, by omega, by omega, num_yes (by omega) (by omega) HST.out⟩
          case measure => simp [intOf]; omega
    · have HR := Lib.hid hr
      have hlt' : ¬ k < (s.extract 2 s.size).size := by rw [hz.out]; exact hlt
      clear hr
      go_wp2
      go_ret2
      exact ⟨ret_num (numR_end (by rw [hz.out]; exact hk) hlt' HR.out).1 (numR_end (by rw [hz.out]; exact hk) hlt' HR.out).2, rfl⟩
end Go.Proofs.YtilfganjpgkjdaaDoor
