/- What a text's tokens are; what is shown of a text's program, read again (plain). -/
import Derived.Test.YtnalgnklgmoepaaGreatDoorMWh
import Derived.Test.YtnalgnklgmoepaaGreatDoorMWm
import Derived.Test.YtnalgnklgmoepaaGreatDoorMWq
set_option linter.all false
namespace Go.Proofs.YtnalgnklgmoepaaGreatDoor
open Go Go.RowKit

theorem scan_span : ∀ (i : Nat) (l : List UInt8), 0 < i → scanN i (l.take (spanL partB l)) = true
  | _, [], _ => rfl
  | i, b :: r, hi => by
    rw [spanL]
    by_cases h : partB (b.toNat : Int) = true
    · rw [if_pos h, List.take_succ_cons, scanN, scan_span (i + 1) r (by omega), Bool.and_true]
      unfold partB at h
      simp only [Bool.or_eq_true, decide_eq_true_eq] at h
      rcases h with h | h
      · rw [h]; rfl
      · have : digB (b.toNat : Int) = true := by
          unfold digI at h; unfold digB
          simp only [decide_eq_true_eq]
          by_cases h1 : (48 : Int) ≤ b.toNat ∧ (b.toNat : Int) ≤ 57
          · exact h1
          · rw [if_neg h1] at h
            by_cases h2 : (97 : Int) ≤ b.toNat ∧ (b.toNat : Int) ≤ 102
            · rw [if_pos h2] at h; omega
            · rw [if_neg h2] at h
              by_cases h3 : (65 : Int) ≤ b.toNat ∧ (b.toNat : Int) ≤ 70
              · rw [if_pos h3] at h; omega
              · rw [if_neg h3] at h; omega
        rw [this, show (i == 0) = false by simp; omega]
        simp
    · rw [if_neg h]; rfl
theorem num_bound {base : Int} (hb : base = 10 ∨ base = 16) : ∀ (l : List UInt8) (acc v : Int), numFrom base acc l = some v → 0 ≤ acc → acc ≤ 18446744073709551615 →
    0 ≤ v ∧ v ≤ 18446744073709551615 ∧ v < (acc + 1) * ((16 ^ l.length : Nat) : Int)
  | [], acc, v, h, h0, h1 => by
    rw [numFrom] at h
    cases h
    refine ⟨h0, h1, ?_⟩
    show acc < (acc + 1) * ((16 ^ 0 : Nat) : Int)
    simp
    omega
  | b :: r, acc, v, h, h0, h1 => by
    rw [numFrom] at h
    by_cases hc : base ≤ digI (b.toNat : Int) ∨ (18446744073709551615 - digI (b.toNat : Int)) / base < acc
    · rw [if_pos hc] at h; cases h
    · rw [if_neg hc] at h
      rw [not_or] at hc
      have hd := dig_bd (b.toNat : Int)
      generalize digI (b.toNat : Int) = d at *
      have hm : 0 ≤ acc * base + d ∧ acc * base + d ≤ 18446744073709551615 ∧ acc * base + d + 1 ≤ (acc + 1) * 16 := by
        rcases hb with rfl | rfl <;> omega
      obtain ⟨a1, a2, a3⟩ := num_bound hb r _ v h hm.1 hm.2.1
      refine ⟨a1, a2, Int.lt_of_lt_of_le a3 ?_⟩
      rw [List.length_cons, Nat.pow_succ, Nat.mul_comm, Int.natCast_mul, ← Int.mul_assoc]
      exact Int.mul_le_mul_of_nonneg_right hm.2.2 (Int.natCast_nonneg _)
theorem dec_short : ∀ (k u : Nat), u < 10 ^ k → Lib.nDigits u ≤ k + 1 - (if u = 0 then 0 else 1)
  | 0, u, h => by
    have : u = 0 := by simpa using h
    subst this
    rw [Lib.nDigits_small (by omega)]; simp
  | k + 1, u, h => by
    by_cases hu : u < 10
    · rw [Lib.nDigits_small hu]; split <;> omega
    · rw [Lib.nDigits_big hu]
      have := dec_short k (u / 10) (by rw [Nat.pow_succ] at h; omega)
      rw [if_neg (by omega)] at this
      rw [if_neg (by omega)]
      omega
theorem dec_len {u k : Nat} (h : u < 10 ^ k) (hk : 1 ≤ k) : (Lib.decDigits u).length ≤ k := by
  rw [Lib.decDigits_length]
  have := dec_short k u h
  by_cases hu : u = 0
  · subst hu; rw [Lib.nDigits_small (by omega)]; exact hk
  · rw [if_neg hu] at this; omega
theorem pow_16_10 (k : Nat) : 16 ^ k ≤ 10 ^ (2 * k) := by
  rw [Nat.pow_mul]
  exact Nat.pow_le_pow_left (by omega) k
theorem numL_ok {l : List UInt8} {v : Int} (h : numL l = some v) : 0 ≤ v ∧ v < 18446744073709551616 ∧ (Lib.decDigits v.toNat).length ≤ 2 * l.length := by
  have key : ∀ (base : Int) (x : List UInt8), (base = 10 ∨ base = 16) → numFrom base 0 x = some v → x ≠ [] → x.length ≤ l.length → 0 ≤ v ∧ v < 18446744073709551616 ∧ (Lib.decDigits v.toNat).length ≤ 2 * l.length := by
    intro base x hb hx hne hle
    obtain ⟨a1, a2, a3⟩ := num_bound hb x 0 v hx (by omega) (by omega)
    have h4 : v.toNat < 16 ^ x.length := by omega
    have h5 := pow_16_10 x.length
    have hp : 0 < x.length := List.length_pos_iff.2 hne
    have h6 := dec_len (u := v.toNat) (k := 2 * x.length) (by omega) (by omega)
    exact ⟨a1, by omega, by omega⟩
  unfold numL at h
  by_cases hh : Lib.hasPrefix l hexP = true
  · rw [if_pos hh] at h
    by_cases he : l.drop 2 = []
    · rw [if_pos he] at h; cases h
    · rw [if_neg he] at h
      exact key 16 _ (.inr rfl) h he (by rw [List.length_drop]; omega)
  · rw [if_neg hh] at h
    by_cases he : l = []
    · rw [if_pos he] at h; cases h
    · rw [if_neg he] at h
      exact key 10 _ (.inl rfl) h he (Nat.le_refl _)
theorem tok_ok {l : List UInt8} (ln c : Int) (h : tokE l = 0) (hl : l.length ≤ 65536) : TokOk (tokT l ln c) := by
  have hp := tok_pos h
  have hle := first_le l
  have hlen : (l.take (firstN l)).length = firstN l := by rw [List.length_take]; omega
  refine ⟨fun hk => ?_, fun hk => ?_, ?_, fun _ => ?_⟩
  · show scanN 0 (l.take (firstN l)) = true
    cases l with
    | nil => rfl
    | cons b r =>
      have hk' : firstK (b :: r) = 0 := hk
      have hb : letB (b.toNat : Int) = true := by
        cases hb : letB (b.toNat : Int) with
        | true => rfl
        | false =>
          rw [firstK, hb] at hk'
          by_cases hd : digI (b.toNat : Int) < 10 <;> simp [hd] at hk'
      rw [firstN, if_pos hb, spanL, if_pos (by unfold partB; rw [hb]; rfl), List.take_succ_cons, scanN, hb, scan_span 1 r (by omega)]
      rfl
  · have hk' : firstK l = 1 := hk
    unfold tokE at h
    rw [if_neg (by omega), if_pos hk'] at h
    cases hn : numL (l.take (firstN l)) with
    | none => rw [hn] at h; simp at h
    | some v =>
      have e : (tokT l ln c).num = v := by show (if firstK l = 1 then (numL (l.take (firstN l))).getD 0 else 0) = v; rw [if_pos hk', hn]; rfl
      rw [e]
      exact numL_ok hn
  · show (l.take (firstN l)).length ≤ 65536
    omega
  · show l.take (firstN l) ≠ []
    intro e
    rw [e] at hlen
    simp at hlen
    omega
theorem lex_toks (n : Nat) (l : List UInt8) (ln c : Int) (ts : List Tok) (hn : l.length ≤ n) (hs : l.length ≤ 65536) (h : lexG l ln c = .ok ts) : (∀ t ∈ ts, TokOk t) ∧ ch ts ≤ l.length := by
  have hend : ∀ (ln c : Int) (t : Tok), t ∈ [(⟨3, [], 0, ln, c⟩ : Tok)] → TokOk t := fun ln c t ht => by
    obtain rfl : t = ⟨3, [], 0, ln, c⟩ := by simpa using ht
    exact ⟨fun h => absurd (show (3 : Int) = 0 from h) (by decide), fun h => absurd (show (3 : Int) = 1 from h) (by decide), by simp, fun h => absurd rfl h⟩
  induction n generalizing l ln c ts with
  | zero =>
    obtain rfl : l = [] := List.length_eq_zero_iff.mp (by omega)
    have e : lexG [] ln c = .ok [⟨3, [], 0, ln, c⟩] := rfl
    rw [e] at h
    cases h
    exact ⟨hend _ _, by simp [ch]⟩
  | succ n ih =>
    rw [lexG_eq] at h
    have hls : (skipL l ln c).1.length ≤ l.length := skipF_le l.length l ln c
    generalize skipL l ln c = s at *
    by_cases h1 : s.1 = []
    · rw [if_pos h1] at h
      cases h
      exact ⟨hend _ _, by simp [ch]⟩
    · rw [if_neg h1] at h
      by_cases he : tokE s.1 = 0
      · rw [if_pos he] at h
        have hp := tok_pos he
        have hle := first_le s.1
        cases hr : lexG (s.1.drop (firstN s.1)) (advL (s.1.take (firstN s.1)) s.2.1 s.2.2).1 (advL (s.1.take (firstN s.1)) s.2.1 s.2.2).2 with
        | bad a b c => rw [hr] at h; cases h
        | ok ts' =>
          rw [hr] at h
          cases h
          have hd : (s.1.drop (firstN s.1)).length = s.1.length - firstN s.1 := List.length_drop
          obtain ⟨a1, a2⟩ := ih _ _ _ ts' (by omega) (by omega) hr
          refine ⟨fun t ht => ?_, ?_⟩
          · rcases List.mem_cons.1 ht with rfl | ht
            · exact tok_ok _ _ he (by omega)
            · exact a1 t ht
          · have ht : (tokT s.1 s.2.1 s.2.2).text = s.1.take (firstN s.1) := rfl
            rw [ch, ht, List.length_take]
            omega
      · rw [if_neg he] at h
        cases h
end Go.Proofs.YtnalgnklgmoepaaGreatDoor
