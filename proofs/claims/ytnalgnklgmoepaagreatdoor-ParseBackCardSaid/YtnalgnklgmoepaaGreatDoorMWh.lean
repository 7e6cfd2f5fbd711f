/- The law ParseBlanks. -/
import Derived.Test.YtnalgnklgmoepaaGreatDoorMbar
import Derived.Test.YtnalgnklgmoepaaGreatDoorMWg
import Derived.Test.YtnalgnklgmoepaaGreatDoorMBb
set_option linter.all false
namespace Go.Proofs.YtnalgnklgmoepaaGreatDoor
open Go Go.RowKit

/-- How long a text's tokens are. -/
theorem lex_len (n : Nat) (l : List UInt8) (ln c : Int) (ts : List Tok) (hn : l.length ≤ n) (h : lexG l ln c = .ok ts) : 0 < ts.length ∧ ts.length ≤ l.length + 1 ∧ (showR (ts.map Tok.bare)).length ≤ 2 * l.length := by
  induction n generalizing l ln c ts with
  | zero =>
    obtain rfl : l = [] := List.length_eq_zero_iff.mp (by omega)
    have e : lexG [] ln c = .ok [⟨3, [], 0, ln, c⟩] := rfl
    rw [e] at h
    cases h
    exact ⟨by simp, by simp, by simp [showR, Tok.bare]⟩
  | succ n ih =>
    rw [lexG_eq] at h
    have hls : (skipL l ln c).1.length ≤ l.length := skipF_le l.length l ln c
    generalize skipL l ln c = s at *
    by_cases h1 : s.1 = []
    · rw [if_pos h1] at h
      cases h
      exact ⟨by simp, by simp, by simp [showR, Tok.bare]⟩
    · rw [if_neg h1] at h
      by_cases he : tokE s.1 = 0
      · rw [if_pos he] at h
        have hp := tok_pos he
        have hle := first_le s.1
        cases hr : lexG (s.1.drop (firstN s.1)) (advL (s.1.take (firstN s.1)) s.2.1 s.2.2).1 (advL (s.1.take (firstN s.1)) s.2.1 s.2.2).2 with
        | bad a b c => rw [hr] at h; cases h
        | ok ts' =>
          rw [hr] at h
          cases h
          have hd : (s.1.drop (firstN s.1)).length = s.1.length - firstN s.1 := List.length_drop
          obtain ⟨a1, a2, a3⟩ := ih _ _ _ ts' (by omega) hr
          refine ⟨by simp, by simp; omega, ?_⟩
          have hk : (tokT s.1 s.2.1 s.2.2).bare.kind = firstK s.1 := rfl
          have ht : (tokT s.1 s.2.1 s.2.2).bare.text = s.1.take (firstN s.1) := rfl
          rw [List.map_cons, showR, if_neg (by rw [hk]; exact firstK_ne _), ht, List.length_append, List.length_cons, List.length_take]
          omega
      · rw [if_neg he] at h
        cases h
theorem lex_code (n : Nat) (l : List UInt8) (ln c : Int) {a b code : Int} (hn : l.length ≤ n) (h : lexG l ln c = .bad a b code) : code = 20 ∨ code = 21 := by
  induction n generalizing l ln c with
  | zero =>
    obtain rfl : l = [] := List.length_eq_zero_iff.mp (by omega)
    have e : lexG [] ln c = .ok [⟨3, [], 0, ln, c⟩] := rfl
    rw [e] at h
    cases h
  | succ n ih =>
    rw [lexG_eq] at h
    have hls : (skipL l ln c).1.length ≤ l.length := skipF_le l.length l ln c
    generalize skipL l ln c = s at *
    by_cases h1 : s.1 = []
    · rw [if_pos h1] at h
      cases h
    · rw [if_neg h1] at h
      by_cases he : tokE s.1 = 0
      · rw [if_pos he] at h
        have hp := tok_pos he
        have hle := first_le s.1
        have hd : (s.1.drop (firstN s.1)).length = s.1.length - firstN s.1 := List.length_drop
        cases hr : lexG (s.1.drop (firstN s.1)) (advL (s.1.take (firstN s.1)) s.2.1 s.2.2).1 (advL (s.1.take (firstN s.1)) s.2.1 s.2.2).2 with
        | ok ts' => rw [hr] at h; cases h
        | bad a' b' c' =>
          rw [hr] at h
          cases h
          exact ih _ _ _ (by omega) hr
      · rw [if_neg he] at h
        cases h
        exact tokE_ne he
theorem showL_le (l : List Bare) : (showL l).length ≤ (showR l).length := by
  cases l with
  | nil => exact Nat.le_refl _
  | cons t r =>
    rw [showL, showR]
    by_cases h : t.kind = 3
    · rw [if_pos h, if_pos h]; exact Nat.le_refl _
    · rw [if_neg h, if_neg h]; simp
theorem bare_ok {x : Res} {ts : List Bare} (h : x.bare = some ts) : ∃ l, x = .ok l ∧ l.map Tok.bare = ts := by
  cases x with
  | bad a b c => cases h
  | ok l => exact ⟨l, rfl, Option.some.inj h⟩
/-- What is shown of a text's tokens is read as the same ones. -/
theorem back_math {l : List UInt8} {ts : List Tok} (h : lexG l 1 1 = .ok ts) : ∃ us, lexG (shF 0 ts) 1 1 = .ok us ∧ ts.map Tok.bare = us.map Tok.bare := by
  have hb : bareL l = some (ts.map Tok.bare) := by unfold bareL; rw [h]; rfl
  obtain ⟨_, _, h3⟩ := shown _ l (Nat.le_refl _) _ hb
  rw [← shF_L] at h3
  obtain ⟨us, h4, h5⟩ := bare_ok (x := lexG (shF 0 ts) 1 1) h3
  exact ⟨us, h4, h5.symm⟩

def zeroT : Tree := .mk [] [] 0 0 0 []
def treeOf : PR Tree → Tree
  | .ok t _ => t
  | _ => zeroT
def codeOf : PR Tree → Int
  | .bad _ _ c => c
  | _ => 0
theorem ParsePost.all {w : World} {p : PR Tree} {e : Ending} {w' : World} (h : ParsePost w p e w') (ho : p ≠ .out) :
    ∃ (v : Value) (p1 p2 : Int), e = .returned (.tuple #[nodeV (treeOf p) v, .int .i64 p1, .int .i64 p2, .int .i64 (codeOf p)]) ∧ Lies w' (· < w'.heap.size) (treeOf p) v ∧ Below w.heap.size w w' := by
  cases p with
  | ok t l =>
    obtain ⟨v, rfl, hb, hB⟩ := h
    exact ⟨v, 0, 0, rfl, Lies.move (fun g hg _ => ⟨hg, rfl⟩) t v hb.lies, hB⟩
  | bad ln c code =>
    obtain ⟨rfl, hB⟩ := h
    exact ⟨.slice none 0 0, ln, c, rfl, Lies.move (fun g hg _ => ⟨hg, rfl⟩) zeroT _ (Build.nil w' w'.heap.size).lies, hB⟩
  | out => exact absurd rfl ho
theorem RelP.all {p p' : PR Tree} (h : RelP TreeE p p') (ho : p ≠ .out) : sameT (treeOf p) (treeOf p') = true ∧ codeOf p = codeOf p' := by
  cases p with
  | ok t l =>
    cases p' with
    | ok t' l' => exact ⟨h.1, rfl⟩
    | bad _ _ _ => exact h.elim
    | out => exact h.elim
  | bad x y c =>
    cases p' with
    | ok b l' => exact h.elim
    | bad _ _ _ => exact ⟨by simp [treeOf, zeroT, sameT, sameL, Tree.kind, Tree.text, Tree.num, Tree.kids], h⟩
    | out => exact h.elim
  | out => exact absurd rfl ho
theorem readL_ok {s : List UInt8} {ts : List Tok} (h : lexG s 1 1 = .ok ts) (hs : s.length ≤ 65536) : readL s = programP 200000 ts := by rw [readL, if_pos hs, readP, h]

set_option maxHeartbeats 8000000 in
set_option maxRecDepth 100000 in
theorem blanks_law (s : ByteArray) (w : World) (h4 : Tab4 w) : Calls Tryz.prog 5 #[.string s] w fun e w' => e = .returned (.bool true) ∧ Below w.heap.size w w' := by
  have H4 := Lib.hid h4
  by_cases hl : (s.size : Int) ≤ 2000
  · have hs' : s.size ≤ 65536 := by omega
    cases hx : lexG s.data.toList 1 1 with
    | bad ln c code =>
      have HL := Lib.hid (lex_no w hs' h4.1.2 hx)
      have hcode := lex_code _ _ _ _ (Nat.le_refl _) hx
      have hc : (code != 0) = true := by simp; omega
      clear hcode hx h4
      go_enter Tryz.func5, Tryz.ntmps5
      go_wp2_with fail
      refine (HL.out).mono ?_
      rintro e w1 ⟨rfl, hb1⟩
      have HB1 := Lib.hid hb1
      have HA := Lib.hid (awake_any w1 (H4.out.below hb1))
      clear hb1 HL
      go_wp2_with fail
      refine (HA.out).mono ?_
      rintro e w2 ⟨rfl, hb2⟩
      have HB2 := Lib.hid (HB1.out.trans (hb2.mono HB1.out.size))
      have HA2 := Lib.hid (awake_any w2 (H4.out.below HB2.out))
      clear hb2 HA
      go_wp2_with fail
      refine (HA2.out).mono ?_
      rintro e w3 ⟨rfl, hb3⟩
      go_wp2
      go_ret
      exact ⟨rfl, HB2.out.trans (hb3.mono HB2.out.size)⟩
    | ok ts =>
      obtain ⟨us, hu, hbe⟩ := back_math hx
      obtain ⟨n1, n2, n3⟩ := lex_len _ _ _ _ ts (Nat.le_refl _) hx
      have hsl := size_len s
      have hsh : (shF 0 ts).length ≤ 6000 := by rw [shF_L]; have := showL_le (ts.map Tok.bare); omega
      have hu1 : (⟨(shF 0 ts).toArray⟩ : ByteArray).data.toList = shF 0 ts := by simp
      have hr1 := readL_ok hx (by omega)
      have hr2 := readL_ok hu (by omega)
      have hrel := (rel_program 200000 hbe).all (by rw [← hr1]; exact readL_out _)
      rw [← hr1, ← hr2] at hrel
      have HREL := Lib.hid hrel
      have HL := Lib.hid (lex_ok w hs' h4.1.2 hx)
      have HM := Lib.hid (fun (W : World) (h : Tab3 W) => by have := read_all ⟨(shF 0 ts).toArray⟩ W h; rw [hu1] at this; exact this)
      have n4 : ts.length ≤ 3001 := by omega
      clear n2 n3 hx h4 hu hu1 hbe hsl hr1 hr2 hrel
      generalize hp1 : readL s.data.toList = P1 at *
      generalize hp2 : readL (shF 0 ts) = P2 at *
      have ho1 : P1 ≠ .out := by rw [← hp1]; exact readL_out _
      have ho2 : P2 ≠ .out := by rw [← hp2]; exact readL_out _
      have HRD := Lib.hid (fun (W : World) (h : Tab3 W) => by have := read_all s W h; rw [hp1] at this; exact this)
      have HO1 := Lib.hid ho1
      have HO2 := Lib.hid ho2
      clear hp1 hp2 ho1 ho2
      go_enter Tryz.func5, Tryz.ntmps5
      go_wp2_with fail
      refine (HL.out).mono ?_
      rintro e w1 ⟨v1, rfl, hown1, hb1⟩
      obtain ⟨g1, cap1, rfl, hg1, hgl1, _, hrow1⟩ := row_parts hown1 n1
      have HB1 := Lib.hid hb1
      have HA := Lib.hid (awake_any w1 (H4.out.below hb1))
      have R1 := Lib.hid hrow1
      clear hown1 hrow1 HL hb1
      go_wp2_with fail
      refine (HA.out).mono ?_
      rintro e w2 ⟨rfl, hb2⟩
      have HB2 := Lib.hid (HB1.out.trans (hb2.mono HB1.out.size))
      have R2 := Lib.hid (R1.out.below hb2 hgl1)
      have hgl2 : g1 < w2.heap.size := by have := hb2.size; omega
      have HR := Lib.hid (HRD.out w2 (H4.out.below HB2.out).1)
      clear HA hb2 R1 HRD HB1
      go_wp2_with fail
      refine (HR.out).mono ?_
      intro e w3 hq
      obtain ⟨va, pa1, pa2, rfl, hLa, hb3⟩ := hq.all HO1.out
      obtain ⟨qa, ca, rfl, _, _⟩ := hLa.shape
      have ha3 : Below w3.heap.size w3 (w3.alloc (.cells (nodeC (treeOf P1) (.slice qa (treeOf P1).kids.length ca)).toArray 26)) := (Below.refl _ _).alloc (Nat.le_refl _) _
      have HB3 := Lib.hid (HB2.out.trans ((hb3.trans (ha3.mono hb3.size)).mono HB2.out.size))
      have R3 := Lib.hid ((R2.out.below hb3 hgl2).below ha3 (by have := hb3.size; omega))
      have hgl3 : g1 < w3.heap.size + 1 := by have := hb3.size; omega
      have N3 := Lib.hid (Hn.new (treeOf P1) (.slice qa (treeOf P1).kids.length ca) w3)
      have LA := Lib.hid hLa
      have HA3 := Lib.hid ha3
      have HSH := Lib.hid (lshow_any g1 cap1 ts _ R3.out (by rw [World.size_alloc]; exact hgl3) (by omega) (by omega))
      clear hq hLa hb3 ha3 R2 HR hgl2
      simp only [nodeC, nodeV] at *
      go_wp2_with fail
      refine (HSH.out).mono ?_
      rintro e w4 ⟨rfl, hb4⟩
      have HB4 := Lib.hid (HB3.out.trans (hb4.mono HB3.out.size))
      have N4 := Lib.hid (N3.out.below hb4)
      have LA4 := Lib.hid (LA.out.keep (HA3.out.trans (hb4.mono HA3.out.size)))
      have hs4 : w3.heap.size ≤ w4.heap.size := by have := hb4.size; simp at this; omega
      have HR := Lib.hid (HM.out w4 (H4.out.below HB4.out).1)
      clear HSH hb4 N3 LA HA3 HM R3 HB3
      go_wp2_with fail
      refine (HR.out).mono ?_
      intro e w5 hq
      obtain ⟨vb, pb1, pb2, rfl, hLb, hb5⟩ := hq.all HO2.out
      obtain ⟨qb, cb, rfl, _, _⟩ := hLb.shape
      have ha5 : Below w5.heap.size w5 (w5.alloc (.cells (nodeC (treeOf P2) (.slice qb (treeOf P2).kids.length cb)).toArray 26)) := (Below.refl _ _).alloc (Nat.le_refl _) _
      have hb56 := hb5.trans (ha5.mono hb5.size)
      have HB5 := Lib.hid (HB4.out.trans (hb56.mono HB4.out.size))
      have N5 := Lib.hid (N4.out.below hb56)
      have M5 := Lib.hid (Hn.new (treeOf P2) (.slice qb (treeOf P2).kids.length cb) w5)
      have hs5 : w3.heap.size ≤ w5.heap.size := by have := hb5.size; omega
      have LA5 := Lies.move (ok' := (· < w5.heap.size)) (fun g hg hok => ⟨Nat.lt_of_lt_of_le hok hs5, rfl⟩) _ _ (LA4.out.keep (hb56.mono hs4))
      have LB5 := hLb.keep ha5
      have HC := Lib.hid (rsame_any w5.heap.size (SizeOf.sizeOf (treeOf P1) + 1) (treeOf P1) (Nat.lt_succ_self _) (treeOf P2) _ _ _ ha5.size LA5 LB5)
      have hsm := HREL.out.1
      have hcd := HREL.out.2
      rw [hsm] at HC
      obtain ⟨c0, c1, c2, c3, c4, c5⟩ := N5.out.cells
      obtain ⟨d0, d1, d2, d3, d4, d5⟩ := M5.out.cells
      have hl5 := N5.out.lt
      rw [hcd]
      clear hq hLb hb5 ha5 hb56 N4 LA4 LA5 LB5 HR HB4 HREL hsm hcd
      simp only [nodeC, nodeV] at *
      go_wp2_with fail
      refine (HC.out).mono ?_
      rintro e w6 ⟨rfl, hb6⟩
      have HB6 := Lib.hid (HB5.out.trans (hb6.mono HB5.out.size))
      clear hb6
      go_wp2
      go_ret
      exact ⟨rfl, HB6.out⟩
  · have HA := Lib.hid (awake_any w h4)
    clear h4
    go_enter Tryz.func5, Tryz.ntmps5
    go_wp2_with fail
    refine (HA.out).mono ?_
    rintro e w1 ⟨rfl, hb⟩
    go_wp2
    go_ret
    exact ⟨rfl, hb⟩
end Go.Proofs.YtnalgnklgmoepaaGreatDoor
