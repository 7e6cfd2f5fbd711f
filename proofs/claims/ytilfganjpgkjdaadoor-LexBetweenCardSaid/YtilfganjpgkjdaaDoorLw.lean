/- The law LexBack, walked. -/
import Derived.Test.YtilfganjpgkjdaaDoorBb
import Derived.Test.YtilfganjpgkjdaaDoorBc
namespace Go.Proofs.YtilfganjpgkjdaaDoor
open Go Go.RowKit

/-- How long a text's tokens are. -/
theorem lex_len (n : Nat) (l : List UInt8) (ln c : Int) (ts : List Tok) (hn : l.length ≤ n) (h : lexG l ln c = .ok ts) : 0 < ts.length ∧ ts.length ≤ l.length + 1 ∧ (showR (ts.map Tok.bare)).length ≤ 2 * l.length := by
  induction n generalizing l ln c ts with
  | zero =>
    obtain rfl : l = [] := List.length_eq_zero_iff.mp (by omega)
    have e : lexG [] ln c = .ok [⟨3, [], 0, ln, c⟩] := rfl
    rw [e] at h
    cases h
    exact ⟨by simp, by simp, by simp [showR, Tok.bare]⟩
  | succ n ih =>
    rw [lexG_eq] at h
    have hls : (skipL l ln c).1.length ≤ l.length := skipF_le l.length l ln c
    generalize skipL l ln c = s at *
    by_cases h1 : s.1 = []
    · rw [if_pos h1] at h
      cases h
      exact ⟨by simp, by simp, by simp [showR, Tok.bare]⟩
    · rw [if_neg h1] at h
      by_cases he : tokE s.1 = 0
      · rw [if_pos he] at h
        have hp := tok_pos he
        have hle := first_le s.1
        cases hr : lexG (s.1.drop (firstN s.1)) (advL (s.1.take (firstN s.1)) s.2.1 s.2.2).1 (advL (s.1.take (firstN s.1)) s.2.1 s.2.2).2 with
        | bad a b c => rw [hr] at h; cases h
        | ok ts' =>
          rw [hr] at h
          cases h
          have hd : (s.1.drop (firstN s.1)).length = s.1.length - firstN s.1 := List.length_drop
          obtain ⟨a1, a2, a3⟩ := ih _ _ _ ts' (by omega) hr
          refine ⟨by simp, by simp; omega, ?_⟩
          have hk : (tokT s.1 s.2.1 s.2.2).bare.kind = firstK s.1 := rfl
          have ht : (tokT s.1 s.2.1 s.2.2).bare.text = s.1.take (firstN s.1) := rfl
          rw [List.map_cons, showR, if_neg (by rw [hk]; exact firstK_ne _), ht, List.length_append, List.length_cons, List.length_take]
          omega
      · rw [if_neg he] at h
        cases h
theorem lex_code (n : Nat) (l : List UInt8) (ln c : Int) {a b code : Int} (hn : l.length ≤ n) (h : lexG l ln c = .bad a b code) : code = 20 ∨ code = 21 := by
  induction n generalizing l ln c with
  | zero =>
    obtain rfl : l = [] := List.length_eq_zero_iff.mp (by omega)
    have e : lexG [] ln c = .ok [⟨3, [], 0, ln, c⟩] := rfl
    rw [e] at h
    cases h
  | succ n ih =>
    rw [lexG_eq] at h
    have hls : (skipL l ln c).1.length ≤ l.length := skipF_le l.length l ln c
    generalize skipL l ln c = s at *
    by_cases h1 : s.1 = []
    · rw [if_pos h1] at h
      cases h
    · rw [if_neg h1] at h
      by_cases he : tokE s.1 = 0
      · rw [if_pos he] at h
        have hp := tok_pos he
        have hle := first_le s.1
        have hd : (s.1.drop (firstN s.1)).length = s.1.length - firstN s.1 := List.length_drop
        cases hr : lexG (s.1.drop (firstN s.1)) (advL (s.1.take (firstN s.1)) s.2.1 s.2.2).1 (advL (s.1.take (firstN s.1)) s.2.1 s.2.2).2 with
        | ok ts' => rw [hr] at h; cases h
        | bad a' b' c' =>
          rw [hr] at h
          cases h
          exact ih _ _ _ (by omega) hr
      · rw [if_neg he] at h
        cases h
        exact tokE_ne he
theorem showL_le (l : List Bare) : (showL l).length ≤ (showR l).length := by
  cases l with
  | nil => exact Nat.le_refl _
  | cons t r =>
    rw [showL, showR]
    by_cases h : t.kind = 3
    · rw [if_pos h, if_pos h]; exact Nat.le_refl _
    · rw [if_neg h, if_neg h]; simp
theorem bare_ok {x : Res} {ts : List Bare} (h : x.bare = some ts) : ∃ l, x = .ok l ∧ l.map Tok.bare = ts := by
  cases x with
  | bad a b c => cases h
  | ok l => exact ⟨l, rfl, Option.some.inj h⟩
/-- What is shown of a text's tokens is read as the same ones. -/
theorem back_math {l : List UInt8} {ts : List Tok} (h : lexG l 1 1 = .ok ts) : ∃ us, lexG (shF 0 ts) 1 1 = .ok us ∧ ts.map Tok.bare = us.map Tok.bare := by
  have hb : bareL l = some (ts.map Tok.bare) := by unfold bareL; rw [h]; rfl
  obtain ⟨_, _, h3⟩ := shown _ l (Nat.le_refl _) _ hb
  rw [← shF_L] at h3
  obtain ⟨us, h4, h5⟩ := bare_ok (x := lexG (shF 0 ts) 1 1) h3
  exact ⟨us, h4, h5.symm⟩

set_option maxHeartbeats 4000000 in
theorem back_law (s : ByteArray) (w : World) (_hs : s.size ≤ maxLen) (ht : Tab w) : Calls Tryd.prog 4 #[.string s] w fun e w' => e = .returned (.bool true) ∧ Below w.heap.size w w' := by
  have HT := Lib.hid ht
  by_cases hl : (s.size : Int) ≤ 3000
  · have hs' : s.size ≤ 65536 := by omega
    cases hx : lexG s.data.toList 1 1 with
    | bad ln c code =>
      have HL := Lib.hid (lex_no w hs' ht.2 hx)
      have hcode := lex_code _ _ _ _ (Nat.le_refl _) hx
      have hc : (code != 0) = true := by simp; omega
      clear hcode
      clear hx ht _hs
      go_enter Tryd.func4, Tryd.ntmps4
      go_wp2_with (first
        | (go_at_call 12; refine (HL.out).mono ?_; rintro e w1 ⟨rfl, hb1⟩; have hA := Lib.hid (awake_any w1 (HT.out.below hb1)); clear HL)
        | (go_at_call 7; refine (hA.out).mono ?_; rintro e w2 ⟨rfl, hb2⟩; clear hA; have hA2 := Lib.hid (awake_any w2 ((HT.out.below hb1).below hb2)))
        | (go_at_call 7; refine (hA2.out).mono ?_; rintro e w3 ⟨rfl, hb3⟩))
      go_ret
      exact ⟨rfl, (hb1.trans (hb2.mono hb1.size)).trans (hb3.mono (Nat.le_trans hb1.size hb2.size))⟩
    | ok ts =>
      obtain ⟨us, hu, hbe⟩ := back_math hx
      obtain ⟨n1, n2, n3⟩ := lex_len _ _ _ _ ts (Nat.le_refl _) hx
      have hsl := size_len s
      have hsh : (shF 0 ts).length ≤ 6000 := by rw [shF_L]; have := showL_le (ts.map Tok.bare); omega
      have hu1 : (⟨(shF 0 ts).toArray⟩ : ByteArray).data.toList = shF 0 ts := by simp
      have hun : 0 < us.length := by have := congrArg List.length hbe; simp at this; omega
      have HL := Lib.hid (lex_ok w hs' ht.2 hx)
      have HM := Lib.hid (fun w h => lex_ok (s := ⟨(shF 0 ts).toArray⟩) (l := us) w (by rw [arr_size]; omega) h (by rw [hu1]; exact hu))
      have HBE := Lib.hid hbe
      have n4 : ts.length ≤ 3001 := by omega
      clear n2 n3
      clear hx ht _hs hu hu1 hbe hsl
      go_enter Tryd.func4, Tryd.ntmps4
      go_wp2_with fail
      refine (HL.out).mono ?_
      rintro e w1 ⟨v1, rfl, hown1, hb1⟩
      obtain ⟨g1, cap1, rfl, hg1, hgl1, _, hrow1⟩ := row_parts hown1 n1
      have T1 := Lib.hid (HT.out.below hb1)
      have hA := Lib.hid (awake_any w1 T1.out)
      have R1 := Lib.hid hrow1
      clear hown1 hrow1 HL
      go_wp2_with fail
      refine (hA.out).mono ?_
      rintro e w2 ⟨rfl, hb2⟩
      have T2 := Lib.hid (T1.out.below hb2)
      have z2 := hb2.size
      have R2 := Lib.hid (R1.out.below hb2 hgl1)
      have HSH := Lib.hid (show_any g1 cap1 ts w2 R2.out (by omega) (by omega) (by omega))
      clear hA
      go_wp2_with fail
      refine (HSH.out).mono ?_
      rintro e w3 ⟨rfl, hb3⟩
      have T3 := Lib.hid (T2.out.below hb3)
      have z3 := hb3.size
      have R3 := Lib.hid (R2.out.below hb3 (by omega))
      have HM3 := Lib.hid (HM.out w3 T3.out.2)
      clear HSH HM
      go_wp2_with fail
      refine (HM3.out).mono ?_
      rintro e w4 ⟨v4, rfl, hown4, hb4⟩
      obtain ⟨g4, cap4, rfl, hg4, hgl4, _, hrow4⟩ := row_parts hown4 hun
      have z4 := hb4.size
      have R4 := Lib.hid (R3.out.below hb4 (by omega))
      have HSA := Lib.hid (same_any g1 cap1 g4 cap4 ts us w4 R4.out hrow4 (by omega) hgl4 (by omega) HBE.out)
      have fin := Lib.hid (((hb1.trans (hb2.mono hb1.size)).trans (hb3.mono (by have := hb1.size; omega))).trans (hb4.mono (by have := hb1.size; omega)))
      have z1 := hb1.size
      clear hown4 hrow4 HM3 hb1 hb2 hb3 hb4
      go_wp2_with (go_at_call 14; refine (HSA.out).mono ?_; rintro e w5 ⟨rfl, hb5⟩)
      go_ret
      exact ⟨rfl, fin.out.trans (hb5.mono (by omega))⟩
  · have hA := Lib.hid (awake_any w ht)
    clear ht _hs
    go_enter Tryd.func4, Tryd.ntmps4
    go_wp2_with (go_at_call 7; refine (hA.out).mono ?_; rintro e w1 ⟨rfl, hb⟩)
    go_ret
    exact ⟨rfl, hb⟩
end Go.Proofs.YtilfganjpgkjdaaDoor
