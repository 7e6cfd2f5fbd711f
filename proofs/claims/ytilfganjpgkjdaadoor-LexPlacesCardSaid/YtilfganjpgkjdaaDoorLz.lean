/- The law LexPlaces, walked. -/
import Derived.Test.YtilfganjpgkjdaaDoorLs
import Derived.Test.YtilfganjpgkjdaaDoorLx
import Derived.Test.YtilfganjpgkjdaaDoorLw
import Derived.Deep.QuietTactic
import Derived.BigQuiet
import Derived.IntWalk
namespace Go.Proofs.YtilfganjpgkjdaaDoor
open Go Go.RowKit

def PlRel (s : ByteArray) (ts : List Tok) (w : World) (L C K I : Value) (wr : World) : Prop :=
  ∃ (i k : Nat) (x1 x2 : Int), I = .int .i64 i ∧ K = .int .i64 k ∧ L = .int .i64 x1 ∧ C = .int .i64 x2 ∧ i ≤ s.size + 1 ∧
    ((k = ts.length) ∨ (k < ts.length ∧ i ≤ s.size ∧ at_ s.data.toList i = (x1, x2) ∧ Lies s.data.toList i (ts.drop k))) ∧ Below w.heap.size w wr

theorem at_bd (s : List UInt8) (i : Nat) : (1 ≤ (at_ s i).1 ∧ (at_ s i).1 ≤ 1 + i) ∧ (1 ≤ (at_ s i).2 ∧ (at_ s i).2 ≤ 1 + i) := by
  have h := adv_bd (s.take i) 1 1 (by decide) (by decide)
  have hl : (s.take i).length ≤ i := List.length_take_le _ _
  unfold at_
  omega
theorem next_lt {s : List UInt8} {i k : Nat} {ts : List Tok} (h : Lies s i (ts.drop k)) : k < ts.length := by
  by_cases hk : k < ts.length
  · exact hk
  · exact absurd (List.drop_of_length_le (by omega)) h.pos
theorem below_drawn {B : Nat} {a w : World} (h : Below B a w) (n : Nat) : Below B a (w.drewN n) := h.trans ⟨rfl, rfl, rfl, Nat.le_refl _, fun _ _ => rfl⟩

set_option maxRecDepth 100000 in
set_option maxHeartbeats 8000000 in
theorem places_law (s : ByteArray) (w : World) (_hs : s.size ≤ maxLen) (ht : Tab w) : Calls Tryd.prog 6 #[.string s] w fun e w' => e = .returned (.bool true) ∧ Below w.heap.size w w' := by
  have HT := Lib.hid ht
  by_cases hl : (s.size : Int) ≤ 2000
  · have hs' : s.size ≤ 65536 := by omega
    cases hx : lexG s.data.toList 1 1 with
    | bad ln c code =>
      have HL := Lib.hid (lex_no w hs' ht.2 hx)
      have hcode := lex_code _ _ _ _ (Nat.le_refl _) hx
      have hc : (code != 0) = true := by simp; omega
      clear hcode
      clear hx ht _hs
      go_enter Tryd.func6, Tryd.ntmps6
      go_wp2_with (first
        | (go_at_call 12; refine (HL.out).mono ?_; rintro e w1 ⟨rfl, hb1⟩; have hA := Lib.hid (awake_any w1 (HT.out.below hb1)); clear HL)
        | (go_at_call 7; refine (hA.out).mono ?_; rintro e w2 ⟨rfl, hb2⟩; clear hA; have hA2 := Lib.hid (awake_any w2 ((HT.out.below hb1).below hb2)))
        | (go_at_call 7; refine (hA2.out).mono ?_; rintro e w3 ⟨rfl, hb3⟩))
      go_ret
      exact ⟨rfl, (hb1.trans (hb2.mono hb1.size)).trans (hb3.mono (Nat.le_trans hb1.size hb2.size))⟩
    | ok ts =>
      obtain ⟨n1, n2, _⟩ := lex_len _ _ _ _ ts (Nat.le_refl _) hx
      have hsl := size_len s
      have n4 : ts.length ≤ 2001 := by omega
      have HLI := Lib.hid (lies_of _ s.data.toList 0 ts (Nat.zero_le _) (Nat.le_refl _) (by simpa [at_, advL] using hx))
      have HL := Lib.hid (lex_ok w hs' ht.2 hx)
      have HSL := Lib.hid hsl
      clear hx ht _hs hsl n2
      go_enter Tryd.func6, Tryd.ntmps6
      go_wp2_with fail
      refine (HL.out).mono ?_
      rintro e w1 ⟨v1, rfl, hown1, hb1⟩
      obtain ⟨g, cap, rfl, _, hgl1, _, hrow1⟩ := row_parts hown1 n1
      have hA := Lib.hid (awake_any w1 (HT.out.below hb1))
      have R1 := Lib.hid hrow1
      clear hown1 hrow1 HL
      go_wp2_with fail
      refine (hA.out).mono ?_
      rintro e w2 ⟨rfl, hb2⟩
      have z2 := hb2.size
      have R2 := Lib.hid (R1.out.below hb2 hgl1)
      have b2 := Lib.hid (hb1.trans (hb2.mono hb1.size))
      have hgl2 : g < w2.heap.size := by omega
      clear hA hb1 hb2 R1 hgl1 z2
      go_wp2
      go_loopw [7, 8, 9, 10] (fun L C K I wr => PlRel s ts w2 L C K I wr) (fun _ _ _ i _ => s.size + 1 - (intOf i).toNat)
      case atStart => exact ⟨0, 0, 1, 1, rfl, rfl, rfl, rfl, Nat.zero_le _, .inr ⟨n1, Nat.zero_le _, rfl, by simpa using HLI.out⟩, Below.refl _ _⟩
      case round =>
        obtain ⟨i, k, x1, x2, rfl, rfl, rfl, rfl, hi, hor, hb⟩ := hrel
        have zr := hb.size
        rcases hor with rfl | ⟨hk, hi2, hat, hlie⟩
        · have hc : wr.cell? ⟨g, (ts.length - 1) * 5, none⟩ = some (.int .i64 3) := by
            have := ((R2.out (ts.length - 1) (by omega)).below hb hgl2).fk
            obtain ⟨a, u, e, hk⟩ := HLI.out.last
            have hu : ts[ts.length - 1]'(by omega) = u := by
              subst e
              simp
            rw [hu, hk] at this
            exact this
          by_cases hi3 : i ≤ s.size
          all_goals
            go_wp2
            go_ret
            exact ⟨rfl, b2.out.trans (hb.mono b2.out.size)⟩
        · have ht := (R2.out k hk).below hb hgl2
          obtain ⟨⟨v1, v2⟩, v3, v4⟩ := at_bd s.data.toList i
          rw [hat] at v1 v2 v3 v4
          simp only at v1 v2 v3 v4
          have HDR := Lib.hid (List.drop_eq_getElem_cons hk)
          rw [List.drop_eq_getElem_cons hk] at hlie
          generalize ts[k] = t at *
          have c0 := ht.fk
          have c1 := ht.ft
          have c3 := ht.fl
          have c4 := ht.fc
          clear ht
          by_cases hh : at_ s.data.toList i = (t.line, t.col)
          · obtain ⟨p1, p2, p3⟩ := hlie.hit (by have := HSL.out; omega) hh
            obtain ⟨rfl, rfl⟩ : x1 = t.line ∧ x2 = t.col := by rw [hat] at hh; exact Prod.mk.inj hh
            rcases p3 with ⟨q1, q2, q3, q4⟩ | ⟨q1, q2, q3, q4⟩
            · clear hat hh hlie
              obtain ⟨tk, tt, tn, tl, tc⟩ := t
              simp only at q1 q2 c0 c1 c3 c4
              subst q1 q2
              obtain rfl : i = s.size := by have := HSL.out; omega
              have Q4 := Lib.hid q4
              clear q3 q4 p1 p2
              have e1 : IntKind.i64.wrap ((s.size : Int) + 0) = (s.size : Int) := by rw [Int.add_zero]; exact IntWalk.i64_in _ (by omega)
              have e2 : (s.extract s.size s.size).toList = [] := by rw [Lib.toList_data, Lib.extract_data]; simp
              go_wp2
              go_quiet (fail)
              go_wp2
              go_light
              have hk1 : k + 1 = ts.length := by
                have := congrArg List.length Q4.out
                rw [List.length_drop] at this
                simp at this
                omega
              exact ⟨⟨s.size + 1, k + 1, tl, tc, by go_num, by go_num, rfl, rfl, Nat.le_refl _, .inl hk1, below_drawn hb _⟩, by simp [intOf]⟩
            · have hlt : i < s.size := by have := HSL.out; omega
              have hst := at_step q3
              rw [hat] at hst
              have hat1 : (s.data.toList[i].toNat : Int) = (s[i].toNat : Int) := rfl
              rw [hat1] at hst
              have HST := Lib.hid hst
              have Q4 := Lib.hid q4
              have P1 : i + t.text.length ≤ s.size := by have := HSL.out; omega
              have hext : s.extract i (i + t.text.length) = ⟨t.text.toArray⟩ := by
                rw [Lib.extract_eq, Nat.add_sub_cancel_left, p2]
              clear hat hh hlie hst hat1 q4 p1 p2 q3
              obtain ⟨tk, tt, tn, tl, tc⟩ := t
              simp only at *
              have k3 : (tk == 3) = false := by simpa using q1
              have l0 : ((tt.length : Int) == 0) = false := by rw [beq_eq_false_iff_ne]; omega
              have HEXT := Lib.hid hext
              clear hext
              cases h10 : ((s[i].toNat : Int) == 10)
              · go_wp2
                have e1 : IntKind.i64.wrap ((i : Int) + (tt.length : Int)) = (i : Int) + (tt.length : Int) := IntWalk.i64_in _ (by omega)
                have e2 : ((i : Int) + (tt.length : Int)).toNat = i + tt.length := by omega
                have e3 : (0 : Int) ≤ (i : Int) + (tt.length : Int) := by omega
                have e4 : decide ((s.size : Int) < (i : Int) + (tt.length : Int)) = false := by simp; omega
                have hext := HEXT.out
                go_quiet (fail)
                clear e1 e2 e3 e4 hext
                go_wp2
                go_light
                have hn10 : ¬ (s[i].toNat : Int) = 10 := by simpa using h10
                have h5 := HST.out
                rw [if_neg hn10] at h5
                exact ⟨⟨i + 1, k + 1, tl, tc + 1, by go_num, by go_num, rfl, rfl, by omega, .inr ⟨next_lt Q4.out, by omega, h5, Q4.out⟩, below_drawn hb _⟩, by simp [intOf]; omega⟩
              · go_wp2
                have e1 : IntKind.i64.wrap ((i : Int) + (tt.length : Int)) = (i : Int) + (tt.length : Int) := IntWalk.i64_in _ (by omega)
                have e2 : ((i : Int) + (tt.length : Int)).toNat = i + tt.length := by omega
                have e3 : (0 : Int) ≤ (i : Int) + (tt.length : Int) := by omega
                have e4 : decide ((s.size : Int) < (i : Int) + (tt.length : Int)) = false := by simp; omega
                have hext := HEXT.out
                go_quiet (fail)
                clear e1 e2 e3 e4 hext
                go_wp2
                go_light
                have hn10 : (s[i].toNat : Int) = 10 := by simpa using h10
                have h5 := HST.out
                rw [if_pos hn10] at h5
                exact ⟨⟨i + 1, k + 1, tl + 1, 1, by go_num, by go_num, rfl, rfl, by omega, .inr ⟨next_lt Q4.out, by omega, h5, Q4.out⟩, below_drawn hb _⟩, by simp [intOf]; omega⟩
          · obtain ⟨q3, q4⟩ := hlie.miss (by have := HSL.out; omega) hh
            have hlt : i < s.size := by have := HSL.out; omega
            have hst := at_step q3
            rw [hat] at hst
            have hat1 : (s.data.toList[i].toNat : Int) = (s[i].toNat : Int) := rfl
            rw [hat1] at hst
            rw [← HDR.out] at q4
            have HST := Lib.hid hst
            have Q4 := Lib.hid q4
            have hmiss : ¬ (t.line = x1 ∧ t.col = x2) := fun h => hh (by rw [hat, h.1, h.2])
            clear hat hh hlie hst hat1 q4 q3
            obtain ⟨tk, tt, tn, tl, tc⟩ := t
            simp only at *
            have cl : (tl == x1) = false ∨ ((tl == x1) = true ∧ (tc == x2) = false) := by
              by_cases e1 : tl = x1
              · right
                exact ⟨by simpa using e1, by simpa using fun e2 => hmiss ⟨e1, e2⟩⟩
              · left
                simpa using e1
            clear hmiss
            cases h10 : ((s[i].toNat : Int) == 10)
            · have hn10 : ¬ (s[i].toNat : Int) = 10 := by simpa using h10
              have h5 := HST.out
              rw [if_neg hn10] at h5
              have H5 := Lib.hid h5
              clear hn10 h5
              rcases cl with cl | ⟨cl, cc⟩
              all_goals
                go_wp2
                go_light
                exact ⟨⟨i + 1, k, x1, x2 + 1, by go_num, rfl, rfl, rfl, by omega, .inr ⟨hk, by omega, H5.out, Q4.out⟩, hb⟩, by simp [intOf]; omega⟩
            · have hn10 : (s[i].toNat : Int) = 10 := by simpa using h10
              have h5 := HST.out
              rw [if_pos hn10] at h5
              have H5 := Lib.hid h5
              clear hn10 h5
              rcases cl with cl | ⟨cl, cc⟩
              all_goals
                go_wp2
                go_light
                exact ⟨⟨i + 1, k, x1 + 1, 1, by go_num, rfl, rfl, rfl, by omega, .inr ⟨hk, by omega, H5.out, Q4.out⟩, hb⟩, by simp [intOf]; omega⟩
  · have hA := Lib.hid (awake_any w ht)
    clear ht _hs
    go_enter Tryd.func6, Tryd.ntmps6
    go_wp2_with (go_at_call 7; refine (hA.out).mono ?_; rintro e w1 ⟨rfl, hb⟩)
    go_ret
    exact ⟨rfl, hb⟩
end Go.Proofs.YtilfganjpgkjdaaDoor
