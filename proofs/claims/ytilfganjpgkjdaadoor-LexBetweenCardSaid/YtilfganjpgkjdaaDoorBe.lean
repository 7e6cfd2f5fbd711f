/- The law LexBetween: its plain part, and its walk. -/
import Derived.Test.YtilfganjpgkjdaaDoorBc
import Derived.Test.YtilfganjpgkjdaaDoorBd
import Derived.Test.YtilfganjpgkjdaaDoorLw
namespace Go.Proofs.YtilfganjpgkjdaaDoor
open Go Go.RowKit

theorem noLn_ink (l z : List UInt8) : spanL inkB (noLn l ++ 10 :: z) = (noLn l).length := by
  induction l with
  | nil => rfl
  | cons b r ih =>
    rw [noLn]
    by_cases h : (b.toNat : Int) = 10
    · rw [if_pos h]; exact ih
    · rw [if_neg h, List.cons_append, spanL, if_pos (by unfold inkB; simpa using h), ih, List.length_cons]
/-- What stands between, by the law's byte. -/
def gapOf (k : Int) (l : List UInt8) : List UInt8 := if k = 0 then [32] else if k = 1 then [10] else if k = 2 then [9, 13] else [32, 47, 47, 32] ++ noLn l ++ [10]
theorem between_math (k : Int) (s m : List UInt8) (hc : noCmt s = true) : bareL (s ++ [32] ++ m) = bareL (s ++ [10] ++ gapOf k m ++ m) := by
  have e2 : s ++ [10] ++ gapOf k m ++ m = s ++ 10 :: (gapOf k m ++ m) := by simp
  have e1 : s ++ [32] ++ m = s ++ 32 :: m := by simp
  rw [e1, e2]
  refine between _ s (Nat.le_refl _) hc (by decide) (by decide) ?_
  rw [bare_blank (by decide), bare_blank (by decide)]
  unfold gapOf
  by_cases h0 : k = 0
  · rw [if_pos h0, List.cons_append, bare_blank (by decide)]; rfl
  rw [if_neg h0]
  by_cases h1 : k = 1
  · rw [if_pos h1, List.cons_append, bare_blank (by decide)]; rfl
  rw [if_neg h1]
  by_cases h2 : k = 2
  · rw [if_pos h2, List.cons_append, bare_blank (by decide), List.cons_append, bare_blank (by decide)]; rfl
  rw [if_neg h2]
  have e3 : [32, 47, 47, 32] ++ noLn m ++ [10] ++ m = 32 :: 47 :: 47 :: 32 :: (noLn m ++ 10 :: m) := by simp
  rw [e3, bare_blank (by decide), bare_cmt (l := 47 :: 47 :: 32 :: (noLn m ++ 10 :: m)) rfl]
  have hsp : spanL inkB (47 :: 47 :: 32 :: (noLn m ++ 10 :: m)) = (noLn m).length + 3 := by
    have : spanL inkB (47 :: 47 :: 32 :: (noLn m ++ 10 :: m)) = spanL inkB (noLn m ++ 10 :: m) + 1 + 1 + 1 := rfl
    rw [this, noLn_ink]
  rw [hsp]
  have hd : (47 :: 47 :: 32 :: (noLn m ++ 10 :: m)).drop ((noLn m).length + 3) = 10 :: m := by
    show (noLn m ++ 10 :: m).drop (noLn m).length = 10 :: m
    exact List.drop_left' rfl
  rw [hd, bare_blank (by decide)]
/-- Lex, whatever it answers. -/
def LexSome (w : World) (e : Ending) (w' : World) : Prop := ∃ v a b c, e = .returned (.tuple #[v, .int .i64 a, .int .i64 b, .int .i64 c]) ∧ Below w.heap.size w w'
theorem lex_some (s : ByteArray) (w : World) (hs : s.size ≤ 65536) (ht : Signs w) : Calls Tryd.prog 12 #[.string s] w (LexSome w) :=
  (lex_any s w hs ht).mono fun e w' h => by
    unfold LexPost at h
    split at h
    · exact ⟨_, _, _, _, h.1, h.2⟩
    · obtain ⟨v, h1, _, h3⟩ := h
      exact ⟨_, _, _, _, h1, h3⟩
/-- Both texts are wrong, or both have the same tokens. -/
theorem both_of {x y : Res} (h : x.bare = y.bare) : (∃ a b c a' b' c', x = .bad a b c ∧ y = .bad a' b' c') ∨ ∃ l m, x = .ok l ∧ y = .ok m ∧ l.map Tok.bare = m.map Tok.bare := by
  cases x with
  | bad a b c =>
    cases y with
    | bad a' b' c' => exact .inl ⟨a, b, c, a', b', c', rfl, rfl⟩
    | ok m => cases h
  | ok l =>
    cases y with
    | bad a' b' c' => cases h
    | ok m => exact .inr ⟨l, m, rfl, rfl, Option.some.inj h⟩

theorem app_data (a b : ByteArray) : (a ++ b).data.toList = a.data.toList ++ b.data.toList := by simp
theorem app_size (a b : ByteArray) : (a ++ b).size = a.size + b.size := by rw [size_len, app_data, List.length_append]; rfl

set_option maxHeartbeats 8000000 in
theorem between_0 (s m : ByteArray) (k : Int) (w : World) (ht : Tab w) (hl : (s.size : Int) ≤ 2000) (hm : (m.size : Int) ≤ 500) (hk0 : 0 ≤ k) (hk1 : k < 256) (hk : k % 4 = 0) :
    Calls Tryd.prog 5 #[.string s, .string m, .int .u8 k] w fun e w' => e = .returned (.bool true) ∧ Below w.heap.size w w' := by
  have hnl : (noLn m.data.toList).length ≤ 500 := by have := noLn_le m.data.toList; have := size_len m; omega
  have e1 : (s ++ ⟨#[32]⟩ ++ m).data.toList = s.data.toList ++ [32] ++ m.data.toList := by rw [app_data, app_data]
  have e2 : (s ++ ⟨#[10]⟩ ++ ⟨#[32]⟩ ++ m).data.toList = s.data.toList ++ [10] ++ gapOf 0 m.data.toList ++ m.data.toList := by simp [gapOf]
  have z1 : (s ++ ⟨#[32]⟩ ++ m).size ≤ 65536 := by
    have : (⟨#[32]⟩ : ByteArray).size = 1 := rfl
    rw [app_size, app_size]; omega
  have z2 : (s ++ ⟨#[10]⟩ ++ ⟨#[32]⟩ ++ m).size ≤ 65536 := by
    have h1 : (⟨#[10]⟩ : ByteArray).size = 1 := rfl
    have h2 : (⟨#[32]⟩ : ByteArray).size = 1 := rfl
    simp only [app_size]; omega
  have HT := Lib.hid ht
  have HN := Lib.hid (noline_any m w (by omega))
  have HC := Lib.hid (fun w => comment_any s w (by omega))
  have hmath := between_math 0 s.data.toList m.data.toList
  rw [← e1, ← e2] at hmath
  have HMATH := Lib.hid hmath
  have Z1 := Lib.hid z1
  have Z2 := Lib.hid z2
  clear ht e1 e2 hmath z1 z2
  cases hc : noCmt s.data.toList
  · rw [hc] at HC
    clear HMATH hc
    go_enter Tryd.func5, Tryd.ntmps5
    go_wp2_with fail
    refine (HN.out).mono ?_
    rintro e w1 ⟨rfl, hb1⟩
    have b1 := hb1.alloc (o := .cells #[.string ⟨#[32]⟩, .string ⟨#[10]⟩, .string ⟨#[9, 13]⟩, .string (⟨#[32, 47, 47, 32]⟩ ++ ⟨(noLn m.data.toList).toArray⟩ ++ ⟨#[10]⟩)] 9) hb1.size
    have hs1 := hb1.size
    have HL1 := Lib.hid (lex_some _ _ Z1.out (HT.out.below b1).2)
    clear HN hb1
    go_wp2_with fail
    refine (HL1.out).mono ?_
    rintro e w2 ⟨v2, a2, c2, d2, rfl, hb2⟩
    simp only [World.size_alloc] at hb2
    have b2 := b1.trans (hb2.mono (by omega))
    have HL2 := Lib.hid (lex_some _ w2 Z2.out (HT.out.below b2).2)
    clear HL1 b1 hb2
    go_wp2_with fail
    refine (HL2.out).mono ?_
    rintro e w3 ⟨v3, a3, c3, d3, rfl, hb3⟩
    have b3 := b2.trans (hb3.mono b2.size)
    have hA := Lib.hid (awake_any w3 (HT.out.below b3))
    clear HL2 b2 hb3
    go_wp2_with fail
    refine (hA.out).mono ?_
    rintro e w4 ⟨rfl, hb4⟩
    have b4 := b3.trans (hb4.mono b3.size)
    have hA2 := Lib.hid (awake_any w4 (HT.out.below b4))
    clear hA b3 hb4
    go_wp2_with (first
      | (go_at_call 16; refine (HC.out _).mono ?_; rintro e w' ⟨rfl, rfl⟩)
      | (go_at_call 7; refine (hA2.out).mono ?_; rintro e w5 ⟨rfl, hb5⟩))
    go_ret
    exact ⟨rfl, b4.trans (hb5.mono b4.size)⟩
  · rw [hc] at HC
    rcases both_of (HMATH.out hc) with ⟨a, b, c, a', b', c', hx, hy⟩ | ⟨l, l', hx, hy, hbe⟩
    · have hc1 := lex_code _ _ _ _ (Nat.le_refl _) hx
      have hc2 := lex_code _ _ _ _ (Nat.le_refl _) hy
      have q1 : (c == 0) = false := by simp; omega
      have q2 : (c' == 0) = false := by simp; omega
      have HX := Lib.hid hx
      have HY := Lib.hid hy
      clear HMATH hc hx hy hc1 hc2
      go_enter Tryd.func5, Tryd.ntmps5
      go_wp2_with fail
      refine (HN.out).mono ?_
      rintro e w1 ⟨rfl, hb1⟩
      have b1 := hb1.alloc (o := .cells #[.string ⟨#[32]⟩, .string ⟨#[10]⟩, .string ⟨#[9, 13]⟩, .string (⟨#[32, 47, 47, 32]⟩ ++ ⟨(noLn m.data.toList).toArray⟩ ++ ⟨#[10]⟩)] 9) hb1.size
      have hs1 := hb1.size
      have HL1 := Lib.hid (lex_no _ Z1.out (HT.out.below b1).2 HX.out)
      clear HN hb1
      go_wp2_with fail
      refine (HL1.out).mono ?_
      rintro e w2 ⟨rfl, hb2⟩
      simp only [World.size_alloc] at hb2
      have b2 := b1.trans (hb2.mono (by omega))
      have HL2 := Lib.hid (lex_no w2 Z2.out (HT.out.below b2).2 HY.out)
      clear HL1 b1 hb2
      go_wp2_with fail
      refine (HL2.out).mono ?_
      rintro e w3 ⟨rfl, hb3⟩
      have b3 := b2.trans (hb3.mono b2.size)
      have hA := Lib.hid (awake_any w3 (HT.out.below b3))
      clear HL2 b2 hb3
      go_wp2_with fail
      refine (hA.out).mono ?_
      rintro e w4 ⟨rfl, hb4⟩
      have b4 := b3.trans (hb4.mono b3.size)
      have hS := Lib.hid (same_nil w4)
      clear hA b3 hb4
      go_wp2_with (first
        | (go_at_call 16; refine (HC.out _).mono ?_; rintro e w' ⟨rfl, rfl⟩)
        | (go_at_call 14; refine (hS.out).mono ?_; rintro e w5 ⟨rfl, hb5⟩))
      go_ret
      exact ⟨rfl, b4.trans (hb5.mono b4.size)⟩
    · obtain ⟨n1, n2, _⟩ := lex_len _ _ _ _ _ (Nat.le_refl _) hx
      obtain ⟨m1, _, _⟩ := lex_len _ _ _ _ _ (Nat.le_refl _) hy
      have n3 : l.length ≤ 65537 := by have := Z1.out; rw [size_len] at this; omega
      have HX := Lib.hid hx
      have HY := Lib.hid hy
      have HBE := Lib.hid hbe
      clear HMATH hc hx hy hbe n2
      go_enter Tryd.func5, Tryd.ntmps5
      go_wp2_with fail
      refine (HN.out).mono ?_
      rintro e w1 ⟨rfl, hb1⟩
      have b1 := hb1.alloc (o := .cells #[.string ⟨#[32]⟩, .string ⟨#[10]⟩, .string ⟨#[9, 13]⟩, .string (⟨#[32, 47, 47, 32]⟩ ++ ⟨(noLn m.data.toList).toArray⟩ ++ ⟨#[10]⟩)] 9) hb1.size
      have hs1 := hb1.size
      have HL1 := Lib.hid (lex_ok _ Z1.out (HT.out.below b1).2 HX.out)
      clear HN hb1
      go_wp2_with fail
      refine (HL1.out).mono ?_
      rintro e w2 ⟨v2, rfl, hown2, hb2⟩
      obtain ⟨g2, cap2, rfl, _, hgl2, _, hrow2⟩ := row_parts hown2 n1
      simp only [World.size_alloc] at hb2
      have b2 := b1.trans (hb2.mono (by omega))
      have R2 := Lib.hid hrow2
      have HL2 := Lib.hid (lex_ok w2 Z2.out (HT.out.below b2).2 HY.out)
      clear HL1 b1 hb2 hown2 hrow2
      go_wp2_with fail
      refine (HL2.out).mono ?_
      rintro e w3 ⟨v3, rfl, hown3, hb3⟩
      obtain ⟨g3, cap3, rfl, _, hgl3, _, hrow3⟩ := row_parts hown3 m1
      have b3 := b2.trans (hb3.mono b2.size)
      have R3 := Lib.hid hrow3
      have R23 := Lib.hid (R2.out.below hb3 hgl2)
      have s3 := hb3.size
      have hA := Lib.hid (awake_any w3 (HT.out.below b3))
      clear HL2 b2 hb3 hown3 hrow3
      go_wp2_with fail
      refine (hA.out).mono ?_
      rintro e w4 ⟨rfl, hb4⟩
      have b4 := b3.trans (hb4.mono b3.size)
      have s4 := hb4.size
      have hS := Lib.hid (same_any g2 cap2 g3 cap3 l l' w4 (R23.out.below hb4 (by omega)) (R3.out.below hb4 hgl3) (by omega) (by omega) (by omega) HBE.out)
      clear hA b3 hb4
      go_wp2_with (first
        | (go_at_call 16; refine (HC.out _).mono ?_; rintro e w' ⟨rfl, rfl⟩)
        | (go_at_call 14; refine (hS.out).mono ?_; rintro e w5 ⟨rfl, hb5⟩))
      go_ret
      exact ⟨rfl, b4.trans (hb5.mono b4.size)⟩

set_option maxHeartbeats 8000000 in
theorem between_1 (s m : ByteArray) (k : Int) (w : World) (ht : Tab w) (hl : (s.size : Int) ≤ 2000) (hm : (m.size : Int) ≤ 500) (hk0 : 0 ≤ k) (hk1 : k < 256) (hk : k % 4 = 1) :
    Calls Tryd.prog 5 #[.string s, .string m, .int .u8 k] w fun e w' => e = .returned (.bool true) ∧ Below w.heap.size w w' := by
  have hnl : (noLn m.data.toList).length ≤ 500 := by have := noLn_le m.data.toList; have := size_len m; omega
  have e1 : (s ++ ⟨#[32]⟩ ++ m).data.toList = s.data.toList ++ [32] ++ m.data.toList := by rw [app_data, app_data]
  have e2 : (s ++ ⟨#[10]⟩ ++ ⟨#[10]⟩ ++ m).data.toList = s.data.toList ++ [10] ++ gapOf 1 m.data.toList ++ m.data.toList := by simp [gapOf]
  have z1 : (s ++ ⟨#[32]⟩ ++ m).size ≤ 65536 := by
    have : (⟨#[32]⟩ : ByteArray).size = 1 := rfl
    rw [app_size, app_size]; omega
  have z2 : (s ++ ⟨#[10]⟩ ++ ⟨#[10]⟩ ++ m).size ≤ 65536 := by
    have h1 : (⟨#[10]⟩ : ByteArray).size = 1 := rfl
    simp only [app_size]; omega
  have HT := Lib.hid ht
  have HN := Lib.hid (noline_any m w (by omega))
  have HC := Lib.hid (fun w => comment_any s w (by omega))
  have hmath := between_math 1 s.data.toList m.data.toList
  rw [← e1, ← e2] at hmath
  have HMATH := Lib.hid hmath
  have Z1 := Lib.hid z1
  have Z2 := Lib.hid z2
  clear ht e1 e2 hmath z1 z2
  cases hc : noCmt s.data.toList
  · rw [hc] at HC
    clear HMATH hc
    go_enter Tryd.func5, Tryd.ntmps5
    go_wp2_with fail
    refine (HN.out).mono ?_
    rintro e w1 ⟨rfl, hb1⟩
    have b1 := hb1.alloc (o := .cells #[.string ⟨#[32]⟩, .string ⟨#[10]⟩, .string ⟨#[9, 13]⟩, .string (⟨#[32, 47, 47, 32]⟩ ++ ⟨(noLn m.data.toList).toArray⟩ ++ ⟨#[10]⟩)] 9) hb1.size
    have hs1 := hb1.size
    have HL1 := Lib.hid (lex_some _ _ Z1.out (HT.out.below b1).2)
    clear HN hb1
    go_wp2_with fail
    refine (HL1.out).mono ?_
    rintro e w2 ⟨v2, a2, c2, d2, rfl, hb2⟩
    simp only [World.size_alloc] at hb2
    have b2 := b1.trans (hb2.mono (by omega))
    have HL2 := Lib.hid (lex_some _ w2 Z2.out (HT.out.below b2).2)
    clear HL1 b1 hb2
    go_wp2_with fail
    refine (HL2.out).mono ?_
    rintro e w3 ⟨v3, a3, c3, d3, rfl, hb3⟩
    have b3 := b2.trans (hb3.mono b2.size)
    have hA := Lib.hid (awake_any w3 (HT.out.below b3))
    clear HL2 b2 hb3
    go_wp2_with fail
    refine (hA.out).mono ?_
    rintro e w4 ⟨rfl, hb4⟩
    have b4 := b3.trans (hb4.mono b3.size)
    have hA2 := Lib.hid (awake_any w4 (HT.out.below b4))
    clear hA b3 hb4
    go_wp2_with (first
      | (go_at_call 16; refine (HC.out _).mono ?_; rintro e w' ⟨rfl, rfl⟩)
      | (go_at_call 7; refine (hA2.out).mono ?_; rintro e w5 ⟨rfl, hb5⟩))
    go_ret
    exact ⟨rfl, b4.trans (hb5.mono b4.size)⟩
  · rw [hc] at HC
    rcases both_of (HMATH.out hc) with ⟨a, b, c, a', b', c', hx, hy⟩ | ⟨l, l', hx, hy, hbe⟩
    · have hc1 := lex_code _ _ _ _ (Nat.le_refl _) hx
      have hc2 := lex_code _ _ _ _ (Nat.le_refl _) hy
      have q1 : (c == 0) = false := by simp; omega
      have q2 : (c' == 0) = false := by simp; omega
      have HX := Lib.hid hx
      have HY := Lib.hid hy
      clear HMATH hc hx hy hc1 hc2
      go_enter Tryd.func5, Tryd.ntmps5
      go_wp2_with fail
      refine (HN.out).mono ?_
      rintro e w1 ⟨rfl, hb1⟩
      have b1 := hb1.alloc (o := .cells #[.string ⟨#[32]⟩, .string ⟨#[10]⟩, .string ⟨#[9, 13]⟩, .string (⟨#[32, 47, 47, 32]⟩ ++ ⟨(noLn m.data.toList).toArray⟩ ++ ⟨#[10]⟩)] 9) hb1.size
      have hs1 := hb1.size
      have HL1 := Lib.hid (lex_no _ Z1.out (HT.out.below b1).2 HX.out)
      clear HN hb1
      go_wp2_with fail
      refine (HL1.out).mono ?_
      rintro e w2 ⟨rfl, hb2⟩
      simp only [World.size_alloc] at hb2
      have b2 := b1.trans (hb2.mono (by omega))
      have HL2 := Lib.hid (lex_no w2 Z2.out (HT.out.below b2).2 HY.out)
      clear HL1 b1 hb2
      go_wp2_with fail
      refine (HL2.out).mono ?_
      rintro e w3 ⟨rfl, hb3⟩
      have b3 := b2.trans (hb3.mono b2.size)
      have hA := Lib.hid (awake_any w3 (HT.out.below b3))
      clear HL2 b2 hb3
      go_wp2_with fail
      refine (hA.out).mono ?_
      rintro e w4 ⟨rfl, hb4⟩
      have b4 := b3.trans (hb4.mono b3.size)
      have hS := Lib.hid (same_nil w4)
      clear hA b3 hb4
      go_wp2_with (first
        | (go_at_call 16; refine (HC.out _).mono ?_; rintro e w' ⟨rfl, rfl⟩)
        | (go_at_call 14; refine (hS.out).mono ?_; rintro e w5 ⟨rfl, hb5⟩))
      go_ret
      exact ⟨rfl, b4.trans (hb5.mono b4.size)⟩
    · obtain ⟨n1, n2, _⟩ := lex_len _ _ _ _ _ (Nat.le_refl _) hx
      obtain ⟨m1, _, _⟩ := lex_len _ _ _ _ _ (Nat.le_refl _) hy
      have n3 : l.length ≤ 65537 := by have := Z1.out; rw [size_len] at this; omega
      have HX := Lib.hid hx
      have HY := Lib.hid hy
      have HBE := Lib.hid hbe
      clear HMATH hc hx hy hbe n2
      go_enter Tryd.func5, Tryd.ntmps5
      go_wp2_with fail
      refine (HN.out).mono ?_
      rintro e w1 ⟨rfl, hb1⟩
      have b1 := hb1.alloc (o := .cells #[.string ⟨#[32]⟩, .string ⟨#[10]⟩, .string ⟨#[9, 13]⟩, .string (⟨#[32, 47, 47, 32]⟩ ++ ⟨(noLn m.data.toList).toArray⟩ ++ ⟨#[10]⟩)] 9) hb1.size
      have hs1 := hb1.size
      have HL1 := Lib.hid (lex_ok _ Z1.out (HT.out.below b1).2 HX.out)
      clear HN hb1
      go_wp2_with fail
      refine (HL1.out).mono ?_
      rintro e w2 ⟨v2, rfl, hown2, hb2⟩
      obtain ⟨g2, cap2, rfl, _, hgl2, _, hrow2⟩ := row_parts hown2 n1
      simp only [World.size_alloc] at hb2
      have b2 := b1.trans (hb2.mono (by omega))
      have R2 := Lib.hid hrow2
      have HL2 := Lib.hid (lex_ok w2 Z2.out (HT.out.below b2).2 HY.out)
      clear HL1 b1 hb2 hown2 hrow2
      go_wp2_with fail
      refine (HL2.out).mono ?_
      rintro e w3 ⟨v3, rfl, hown3, hb3⟩
      obtain ⟨g3, cap3, rfl, _, hgl3, _, hrow3⟩ := row_parts hown3 m1
      have b3 := b2.trans (hb3.mono b2.size)
      have R3 := Lib.hid hrow3
      have R23 := Lib.hid (R2.out.below hb3 hgl2)
      have s3 := hb3.size
      have hA := Lib.hid (awake_any w3 (HT.out.below b3))
      clear HL2 b2 hb3 hown3 hrow3
      go_wp2_with fail
      refine (hA.out).mono ?_
      rintro e w4 ⟨rfl, hb4⟩
      have b4 := b3.trans (hb4.mono b3.size)
      have s4 := hb4.size
      have hS := Lib.hid (same_any g2 cap2 g3 cap3 l l' w4 (R23.out.below hb4 (by omega)) (R3.out.below hb4 hgl3) (by omega) (by omega) (by omega) HBE.out)
      clear hA b3 hb4
      go_wp2_with (first
        | (go_at_call 16; refine (HC.out _).mono ?_; rintro e w' ⟨rfl, rfl⟩)
        | (go_at_call 14; refine (hS.out).mono ?_; rintro e w5 ⟨rfl, hb5⟩))
      go_ret
      exact ⟨rfl, b4.trans (hb5.mono b4.size)⟩

set_option maxHeartbeats 8000000 in
theorem between_2 (s m : ByteArray) (k : Int) (w : World) (ht : Tab w) (hl : (s.size : Int) ≤ 2000) (hm : (m.size : Int) ≤ 500) (hk0 : 0 ≤ k) (hk1 : k < 256) (hk : k % 4 = 2) :
    Calls Tryd.prog 5 #[.string s, .string m, .int .u8 k] w fun e w' => e = .returned (.bool true) ∧ Below w.heap.size w w' := by
  have hnl : (noLn m.data.toList).length ≤ 500 := by have := noLn_le m.data.toList; have := size_len m; omega
  have e1 : (s ++ ⟨#[32]⟩ ++ m).data.toList = s.data.toList ++ [32] ++ m.data.toList := by rw [app_data, app_data]
  have e2 : (s ++ ⟨#[10]⟩ ++ ⟨#[9, 13]⟩ ++ m).data.toList = s.data.toList ++ [10] ++ gapOf 2 m.data.toList ++ m.data.toList := by simp [gapOf]
  have z1 : (s ++ ⟨#[32]⟩ ++ m).size ≤ 65536 := by
    have : (⟨#[32]⟩ : ByteArray).size = 1 := rfl
    rw [app_size, app_size]; omega
  have z2 : (s ++ ⟨#[10]⟩ ++ ⟨#[9, 13]⟩ ++ m).size ≤ 65536 := by
    have h1 : (⟨#[10]⟩ : ByteArray).size = 1 := rfl
    have h2 : (⟨#[9, 13]⟩ : ByteArray).size = 2 := rfl
    simp only [app_size]; omega
  have HT := Lib.hid ht
  have HN := Lib.hid (noline_any m w (by omega))
  have HC := Lib.hid (fun w => comment_any s w (by omega))
  have hmath := between_math 2 s.data.toList m.data.toList
  rw [← e1, ← e2] at hmath
  have HMATH := Lib.hid hmath
  have Z1 := Lib.hid z1
  have Z2 := Lib.hid z2
  clear ht e1 e2 hmath z1 z2
  cases hc : noCmt s.data.toList
  · rw [hc] at HC
    clear HMATH hc
    go_enter Tryd.func5, Tryd.ntmps5
    go_wp2_with fail
    refine (HN.out).mono ?_
    rintro e w1 ⟨rfl, hb1⟩
    have b1 := hb1.alloc (o := .cells #[.string ⟨#[32]⟩, .string ⟨#[10]⟩, .string ⟨#[9, 13]⟩, .string (⟨#[32, 47, 47, 32]⟩ ++ ⟨(noLn m.data.toList).toArray⟩ ++ ⟨#[10]⟩)] 9) hb1.size
    have hs1 := hb1.size
    have HL1 := Lib.hid (lex_some _ _ Z1.out (HT.out.below b1).2)
    clear HN hb1
    go_wp2_with fail
    refine (HL1.out).mono ?_
    rintro e w2 ⟨v2, a2, c2, d2, rfl, hb2⟩
    simp only [World.size_alloc] at hb2
    have b2 := b1.trans (hb2.mono (by omega))
    have HL2 := Lib.hid (lex_some _ w2 Z2.out (HT.out.below b2).2)
    clear HL1 b1 hb2
    go_wp2_with fail
    refine (HL2.out).mono ?_
    rintro e w3 ⟨v3, a3, c3, d3, rfl, hb3⟩
    have b3 := b2.trans (hb3.mono b2.size)
    have hA := Lib.hid (awake_any w3 (HT.out.below b3))
    clear HL2 b2 hb3
    go_wp2_with fail
    refine (hA.out).mono ?_
    rintro e w4 ⟨rfl, hb4⟩
    have b4 := b3.trans (hb4.mono b3.size)
    have hA2 := Lib.hid (awake_any w4 (HT.out.below b4))
    clear hA b3 hb4
    go_wp2_with (first
      | (go_at_call 16; refine (HC.out _).mono ?_; rintro e w' ⟨rfl, rfl⟩)
      | (go_at_call 7; refine (hA2.out).mono ?_; rintro e w5 ⟨rfl, hb5⟩))
    go_ret
    exact ⟨rfl, b4.trans (hb5.mono b4.size)⟩
  · rw [hc] at HC
    rcases both_of (HMATH.out hc) with ⟨a, b, c, a', b', c', hx, hy⟩ | ⟨l, l', hx, hy, hbe⟩
    · have hc1 := lex_code _ _ _ _ (Nat.le_refl _) hx
      have hc2 := lex_code _ _ _ _ (Nat.le_refl _) hy
      have q1 : (c == 0) = false := by simp; omega
      have q2 : (c' == 0) = false := by simp; omega
      have HX := Lib.hid hx
      have HY := Lib.hid hy
      clear HMATH hc hx hy hc1 hc2
      go_enter Tryd.func5, Tryd.ntmps5
      go_wp2_with fail
      refine (HN.out).mono ?_
      rintro e w1 ⟨rfl, hb1⟩
      have b1 := hb1.alloc (o := .cells #[.string ⟨#[32]⟩, .string ⟨#[10]⟩, .string ⟨#[9, 13]⟩, .string (⟨#[32, 47, 47, 32]⟩ ++ ⟨(noLn m.data.toList).toArray⟩ ++ ⟨#[10]⟩)] 9) hb1.size
      have hs1 := hb1.size
      have HL1 := Lib.hid (lex_no _ Z1.out (HT.out.below b1).2 HX.out)
      clear HN hb1
      go_wp2_with fail
      refine (HL1.out).mono ?_
      rintro e w2 ⟨rfl, hb2⟩
      simp only [World.size_alloc] at hb2
      have b2 := b1.trans (hb2.mono (by omega))
      have HL2 := Lib.hid (lex_no w2 Z2.out (HT.out.below b2).2 HY.out)
      clear HL1 b1 hb2
      go_wp2_with fail
      refine (HL2.out).mono ?_
      rintro e w3 ⟨rfl, hb3⟩
      have b3 := b2.trans (hb3.mono b2.size)
      have hA := Lib.hid (awake_any w3 (HT.out.below b3))
      clear HL2 b2 hb3
      go_wp2_with fail
      refine (hA.out).mono ?_
      rintro e w4 ⟨rfl, hb4⟩
      have b4 := b3.trans (hb4.mono b3.size)
      have hS := Lib.hid (same_nil w4)
      clear hA b3 hb4
      go_wp2_with (first
        | (go_at_call 16; refine (HC.out _).mono ?_; rintro e w' ⟨rfl, rfl⟩)
        | (go_at_call 14; refine (hS.out).mono ?_; rintro e w5 ⟨rfl, hb5⟩))
      go_ret
      exact ⟨rfl, b4.trans (hb5.mono b4.size)⟩
    · obtain ⟨n1, n2, _⟩ := lex_len _ _ _ _ _ (Nat.le_refl _) hx
      obtain ⟨m1, _, _⟩ := lex_len _ _ _ _ _ (Nat.le_refl _) hy
      have n3 : l.length ≤ 65537 := by have := Z1.out; rw [size_len] at this; omega
      have HX := Lib.hid hx
      have HY := Lib.hid hy
      have HBE := Lib.hid hbe
      clear HMATH hc hx hy hbe n2
      go_enter Tryd.func5, Tryd.ntmps5
      go_wp2_with fail
      refine (HN.out).mono ?_
      rintro e w1 ⟨rfl, hb1⟩
      have b1 := hb1.alloc (o := .cells #[.string ⟨#[32]⟩, .string ⟨#[10]⟩, .string ⟨#[9, 13]⟩, .string (⟨#[32, 47, 47, 32]⟩ ++ ⟨(noLn m.data.toList).toArray⟩ ++ ⟨#[10]⟩)] 9) hb1.size
      have hs1 := hb1.size
      have HL1 := Lib.hid (lex_ok _ Z1.out (HT.out.below b1).2 HX.out)
      clear HN hb1
      go_wp2_with fail
      refine (HL1.out).mono ?_
      rintro e w2 ⟨v2, rfl, hown2, hb2⟩
      obtain ⟨g2, cap2, rfl, _, hgl2, _, hrow2⟩ := row_parts hown2 n1
      simp only [World.size_alloc] at hb2
      have b2 := b1.trans (hb2.mono (by omega))
      have R2 := Lib.hid hrow2
      have HL2 := Lib.hid (lex_ok w2 Z2.out (HT.out.below b2).2 HY.out)
      clear HL1 b1 hb2 hown2 hrow2
      go_wp2_with fail
      refine (HL2.out).mono ?_
      rintro e w3 ⟨v3, rfl, hown3, hb3⟩
      obtain ⟨g3, cap3, rfl, _, hgl3, _, hrow3⟩ := row_parts hown3 m1
      have b3 := b2.trans (hb3.mono b2.size)
      have R3 := Lib.hid hrow3
      have R23 := Lib.hid (R2.out.below hb3 hgl2)
      have s3 := hb3.size
      have hA := Lib.hid (awake_any w3 (HT.out.below b3))
      clear HL2 b2 hb3 hown3 hrow3
      go_wp2_with fail
      refine (hA.out).mono ?_
      rintro e w4 ⟨rfl, hb4⟩
      have b4 := b3.trans (hb4.mono b3.size)
      have s4 := hb4.size
      have hS := Lib.hid (same_any g2 cap2 g3 cap3 l l' w4 (R23.out.below hb4 (by omega)) (R3.out.below hb4 hgl3) (by omega) (by omega) (by omega) HBE.out)
      clear hA b3 hb4
      go_wp2_with (first
        | (go_at_call 16; refine (HC.out _).mono ?_; rintro e w' ⟨rfl, rfl⟩)
        | (go_at_call 14; refine (hS.out).mono ?_; rintro e w5 ⟨rfl, hb5⟩))
      go_ret
      exact ⟨rfl, b4.trans (hb5.mono b4.size)⟩

set_option maxHeartbeats 8000000 in
theorem between_3 (s m : ByteArray) (k : Int) (w : World) (ht : Tab w) (hl : (s.size : Int) ≤ 2000) (hm : (m.size : Int) ≤ 500) (hk0 : 0 ≤ k) (hk1 : k < 256) (hk : k % 4 = 3) :
    Calls Tryd.prog 5 #[.string s, .string m, .int .u8 k] w fun e w' => e = .returned (.bool true) ∧ Below w.heap.size w w' := by
  have hnl : (noLn m.data.toList).length ≤ 500 := by have := noLn_le m.data.toList; have := size_len m; omega
  have e1 : (s ++ ⟨#[32]⟩ ++ m).data.toList = s.data.toList ++ [32] ++ m.data.toList := by rw [app_data, app_data]
  have e2 : (s ++ ⟨#[10]⟩ ++ (⟨#[32, 47, 47, 32]⟩ ++ ⟨(noLn m.data.toList).toArray⟩ ++ ⟨#[10]⟩) ++ m).data.toList = s.data.toList ++ [10] ++ gapOf 3 m.data.toList ++ m.data.toList := by simp [gapOf]
  have z1 : (s ++ ⟨#[32]⟩ ++ m).size ≤ 65536 := by
    have : (⟨#[32]⟩ : ByteArray).size = 1 := rfl
    rw [app_size, app_size]; omega
  have z2 : (s ++ ⟨#[10]⟩ ++ (⟨#[32, 47, 47, 32]⟩ ++ ⟨(noLn m.data.toList).toArray⟩ ++ ⟨#[10]⟩) ++ m).size ≤ 65536 := by
    have h1 : (⟨#[10]⟩ : ByteArray).size = 1 := rfl
    have h2 : (⟨#[32, 47, 47, 32]⟩ : ByteArray).size = 4 := rfl
    have h3 := arr_size (noLn m.data.toList)
    simp only [app_size]; omega
  have HT := Lib.hid ht
  have HN := Lib.hid (noline_any m w (by omega))
  have HC := Lib.hid (fun w => comment_any s w (by omega))
  have hmath := between_math 3 s.data.toList m.data.toList
  rw [← e1, ← e2] at hmath
  have HMATH := Lib.hid hmath
  have Z1 := Lib.hid z1
  have Z2 := Lib.hid z2
  clear ht e1 e2 hmath z1 z2
  cases hc : noCmt s.data.toList
  · rw [hc] at HC
    clear HMATH hc
    go_enter Tryd.func5, Tryd.ntmps5
    go_wp2_with fail
    refine (HN.out).mono ?_
    rintro e w1 ⟨rfl, hb1⟩
    have b1 := hb1.alloc (o := .cells #[.string ⟨#[32]⟩, .string ⟨#[10]⟩, .string ⟨#[9, 13]⟩, .string (⟨#[32, 47, 47, 32]⟩ ++ ⟨(noLn m.data.toList).toArray⟩ ++ ⟨#[10]⟩)] 9) hb1.size
    have hs1 := hb1.size
    have HL1 := Lib.hid (lex_some _ _ Z1.out (HT.out.below b1).2)
    clear HN hb1
    go_wp2_with fail
    refine (HL1.out).mono ?_
    rintro e w2 ⟨v2, a2, c2, d2, rfl, hb2⟩
    simp only [World.size_alloc] at hb2
    have b2 := b1.trans (hb2.mono (by omega))
    have HL2 := Lib.hid (lex_some _ w2 Z2.out (HT.out.below b2).2)
    clear HL1 b1 hb2
    go_wp2_with fail
    refine (HL2.out).mono ?_
    rintro e w3 ⟨v3, a3, c3, d3, rfl, hb3⟩
    have b3 := b2.trans (hb3.mono b2.size)
    have hA := Lib.hid (awake_any w3 (HT.out.below b3))
    clear HL2 b2 hb3
    go_wp2_with fail
    refine (hA.out).mono ?_
    rintro e w4 ⟨rfl, hb4⟩
    have b4 := b3.trans (hb4.mono b3.size)
    have hA2 := Lib.hid (awake_any w4 (HT.out.below b4))
    clear hA b3 hb4
    go_wp2_with (first
      | (go_at_call 16; refine (HC.out _).mono ?_; rintro e w' ⟨rfl, rfl⟩)
      | (go_at_call 7; refine (hA2.out).mono ?_; rintro e w5 ⟨rfl, hb5⟩))
    go_ret
    exact ⟨rfl, b4.trans (hb5.mono b4.size)⟩
  · rw [hc] at HC
    rcases both_of (HMATH.out hc) with ⟨a, b, c, a', b', c', hx, hy⟩ | ⟨l, l', hx, hy, hbe⟩
    · have hc1 := lex_code _ _ _ _ (Nat.le_refl _) hx
      have hc2 := lex_code _ _ _ _ (Nat.le_refl _) hy
      have q1 : (c == 0) = false := by simp; omega
      have q2 : (c' == 0) = false := by simp; omega
      have HX := Lib.hid hx
      have HY := Lib.hid hy
      clear HMATH hc hx hy hc1 hc2
      go_enter Tryd.func5, Tryd.ntmps5
      go_wp2_with fail
      refine (HN.out).mono ?_
      rintro e w1 ⟨rfl, hb1⟩
      have b1 := hb1.alloc (o := .cells #[.string ⟨#[32]⟩, .string ⟨#[10]⟩, .string ⟨#[9, 13]⟩, .string (⟨#[32, 47, 47, 32]⟩ ++ ⟨(noLn m.data.toList).toArray⟩ ++ ⟨#[10]⟩)] 9) hb1.size
      have hs1 := hb1.size
      have HL1 := Lib.hid (lex_no _ Z1.out (HT.out.below b1).2 HX.out)
      clear HN hb1
      go_wp2_with fail
      refine (HL1.out).mono ?_
      rintro e w2 ⟨rfl, hb2⟩
      simp only [World.size_alloc] at hb2
      have b2 := b1.trans (hb2.mono (by omega))
      have HL2 := Lib.hid (lex_no w2 Z2.out (HT.out.below b2).2 HY.out)
      clear HL1 b1 hb2
      go_wp2_with fail
      refine (HL2.out).mono ?_
      rintro e w3 ⟨rfl, hb3⟩
      have b3 := b2.trans (hb3.mono b2.size)
      have hA := Lib.hid (awake_any w3 (HT.out.below b3))
      clear HL2 b2 hb3
      go_wp2_with fail
      refine (hA.out).mono ?_
      rintro e w4 ⟨rfl, hb4⟩
      have b4 := b3.trans (hb4.mono b3.size)
      have hS := Lib.hid (same_nil w4)
      clear hA b3 hb4
      go_wp2_with (first
        | (go_at_call 16; refine (HC.out _).mono ?_; rintro e w' ⟨rfl, rfl⟩)
        | (go_at_call 14; refine (hS.out).mono ?_; rintro e w5 ⟨rfl, hb5⟩))
      go_ret
      exact ⟨rfl, b4.trans (hb5.mono b4.size)⟩
    · obtain ⟨n1, n2, _⟩ := lex_len _ _ _ _ _ (Nat.le_refl _) hx
      obtain ⟨m1, _, _⟩ := lex_len _ _ _ _ _ (Nat.le_refl _) hy
      have n3 : l.length ≤ 65537 := by have := Z1.out; rw [size_len] at this; omega
      have HX := Lib.hid hx
      have HY := Lib.hid hy
      have HBE := Lib.hid hbe
      clear HMATH hc hx hy hbe n2
      go_enter Tryd.func5, Tryd.ntmps5
      go_wp2_with fail
      refine (HN.out).mono ?_
      rintro e w1 ⟨rfl, hb1⟩
      have b1 := hb1.alloc (o := .cells #[.string ⟨#[32]⟩, .string ⟨#[10]⟩, .string ⟨#[9, 13]⟩, .string (⟨#[32, 47, 47, 32]⟩ ++ ⟨(noLn m.data.toList).toArray⟩ ++ ⟨#[10]⟩)] 9) hb1.size
      have hs1 := hb1.size
      have HL1 := Lib.hid (lex_ok _ Z1.out (HT.out.below b1).2 HX.out)
      clear HN hb1
      go_wp2_with fail
      refine (HL1.out).mono ?_
      rintro e w2 ⟨v2, rfl, hown2, hb2⟩
      obtain ⟨g2, cap2, rfl, _, hgl2, _, hrow2⟩ := row_parts hown2 n1
      simp only [World.size_alloc] at hb2
      have b2 := b1.trans (hb2.mono (by omega))
      have R2 := Lib.hid hrow2
      have HL2 := Lib.hid (lex_ok w2 Z2.out (HT.out.below b2).2 HY.out)
      clear HL1 b1 hb2 hown2 hrow2
      go_wp2_with fail
      refine (HL2.out).mono ?_
      rintro e w3 ⟨v3, rfl, hown3, hb3⟩
      obtain ⟨g3, cap3, rfl, _, hgl3, _, hrow3⟩ := row_parts hown3 m1
      have b3 := b2.trans (hb3.mono b2.size)
      have R3 := Lib.hid hrow3
      have R23 := Lib.hid (R2.out.below hb3 hgl2)
      have s3 := hb3.size
      have hA := Lib.hid (awake_any w3 (HT.out.below b3))
      clear HL2 b2 hb3 hown3 hrow3
      go_wp2_with fail
      refine (hA.out).mono ?_
      rintro e w4 ⟨rfl, hb4⟩
      have b4 := b3.trans (hb4.mono b3.size)
      have s4 := hb4.size
      have hS := Lib.hid (same_any g2 cap2 g3 cap3 l l' w4 (R23.out.below hb4 (by omega)) (R3.out.below hb4 hgl3) (by omega) (by omega) (by omega) HBE.out)
      clear hA b3 hb4
      go_wp2_with (first
        | (go_at_call 16; refine (HC.out _).mono ?_; rintro e w' ⟨rfl, rfl⟩)
        | (go_at_call 14; refine (hS.out).mono ?_; rintro e w5 ⟨rfl, hb5⟩))
      go_ret
      exact ⟨rfl, b4.trans (hb5.mono b4.size)⟩
end Go.Proofs.YtilfganjpgkjdaaDoor
