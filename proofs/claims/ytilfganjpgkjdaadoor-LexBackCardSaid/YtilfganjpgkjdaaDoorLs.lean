/- A row of tokens, cell by cell; Lex at the chapter's examples. -/
import Derived.Test.YtilfganjpgkjdaaDoorLr
namespace Go.Proofs.YtilfganjpgkjdaaDoor
open Go Go.RowKit

theorem tokCs_at (l : List Tok) (i k : Nat) (hk : k < 5) (hi : i < l.length) : (tokCs l)[i * 5 + k]? = (tokC l[i])[k]? := by
  induction l generalizing i with
  | nil => simp at hi
  | cons t r ih =>
    have hc : tokCs (t :: r) = tokC t ++ tokCs r := rfl
    have hlen : (tokC t).length = 5 := rfl
    rw [hc]
    cases i with
    | zero =>
      rw [List.getElem?_append_left (by omega)]
      simp
    | succ i =>
      rw [List.getElem?_append_right (by omega), hlen]
      have := ih i (by simpa using hi)
      have e : (i + 1) * 5 + k - 5 = i * 5 + k := by omega
      rw [e, this]
      simp
/-- Where a row's token lies. -/
structure TokAt (g i : Nat) (t : Tok) (w : World) : Prop where
  fk : w.cell? ⟨g, i * 5, none⟩ = some (.int .i64 t.kind)
  ft : w.cell? ⟨g, i * 5 + 1, none⟩ = some (.string ⟨t.text.toArray⟩)
  fm : w.cell? ⟨g, i * 5 + 2, none⟩ = some (.int .u64 t.num)
  fl : w.cell? ⟨g, i * 5 + 3, none⟩ = some (.int .i64 t.line)
  fc : w.cell? ⟨g, i * 5 + 4, none⟩ = some (.int .i64 t.col)
def RowAt (g : Nat) (l : List Tok) (w : World) : Prop := ∀ i (h : i < l.length), TokAt g i l[i] w
theorem row_parts {w : World} {N : Nat} {v : Value} {l : List Tok} (h : w.ownsRow N 37 5 v l.length (tokCs l)) (hl : 0 < l.length) :
    ∃ g cap, v = .slice (some ⟨g, 0, none⟩) l.length cap ∧ N ≤ g ∧ g < w.heap.size ∧ l.length ≤ cap ∧ RowAt g l w := by
  have h' := h
  rcases h.2 with ⟨_, h0⟩ | ⟨g, cap, cur, rfl, hg, hb, hnc, _⟩
  · omega
  · have hlt : g < w.heap.size := by
      by_cases hh : g < w.heap.size
      · exact hh
      · rw [Array.getElem?_eq_none (by omega)] at hb
        cases hb
    refine ⟨g, cap, rfl, hg, hlt, hnc, fun i hi => ?_⟩
    have hj : ∀ k, k < 5 → w.cell? ⟨g, i * 5 + k, none⟩ = (tokC l[i])[k]? := fun k hk => by
      rw [h'.cellAt (i * 5 + k) (by omega)]
      exact tokCs_at l i k hk hi
    exact ⟨hj 0 (by omega), hj 1 (by omega), hj 2 (by omega), hj 3 (by omega), hj 4 (by omega)⟩
theorem TokAt.below {g i : Nat} {t : Tok} {w w' : World} {N : Nat} (h : TokAt g i t w) (hb : Below N w w') (hg : g < N) : TokAt g i t w' :=
  ⟨(hb.cell hg).trans h.fk, (hb.cell hg).trans h.ft, (hb.cell hg).trans h.fm, (hb.cell hg).trans h.fl, (hb.cell hg).trans h.fc⟩
theorem RowAt.below {g : Nat} {l : List Tok} {w w' : World} {N : Nat} (h : RowAt g l w) (hb : Below N w w') (hg : g < N) : RowAt g l w' := fun i hi => (h i hi).below hb hg

def ex1 : ByteArray := ⟨#[120, 32, 61, 32, 48, 120, 49, 70, 59, 32, 47, 47, 32, 121]⟩
def ex2 : ByteArray := ⟨#[97, 32, 36]⟩
def ex3 : ByteArray := ⟨#[49, 50, 122]⟩
def exL : List Tok := [⟨0, [120], 0, 1, 1⟩, ⟨2, [61], 0, 1, 3⟩, ⟨1, [48, 120, 49, 70], 31, 1, 5⟩, ⟨2, [59], 0, 1, 9⟩, ⟨3, [], 0, 1, 15⟩]
theorem lex_ex1 : lexG ex1.data.toList 1 1 = .ok exL := by kernel_rfl
theorem lex_ex2 : lexG ex2.data.toList 1 1 = .bad 1 3 20 := by kernel_rfl
theorem lex_ex3 : lexG ex3.data.toList 1 1 = .bad 1 1 21 := by kernel_rfl
def LexOk (l : List Tok) (w : World) (e : Ending) (w' : World) : Prop :=
  ∃ v, e = .returned (.tuple #[v, .int .i64 0, .int .i64 0, .int .i64 0]) ∧ w'.ownsRow w.heap.size 37 5 v l.length (tokCs l) ∧ Below w.heap.size w w'
theorem lex_ok {s : ByteArray} {l : List Tok} (w : World) (hs : s.size ≤ 65536) (ht : Signs w) (h : lexG s.data.toList 1 1 = .ok l) : Calls Tryd.prog 12 #[.string s] w (LexOk l w) :=
  (lex_any s w hs ht).mono fun e w' hp => by unfold LexPost at hp; rw [h] at hp; exact hp
theorem lex_no {s : ByteArray} {ln c code : Int} (w : World) (hs : s.size ≤ 65536) (ht : Signs w) (h : lexG s.data.toList 1 1 = .bad ln c code) :
    Calls Tryd.prog 12 #[.string s] w fun e w' => e = .returned (.tuple #[.slice none 0 0, .int .i64 ln, .int .i64 c, .int .i64 code]) ∧ Below w.heap.size w w' :=
  (lex_any s w hs ht).mono fun e w' hp => by unfold LexPost at hp; rw [h] at hp; exact hp

set_option maxHeartbeats 4000000 in
theorem awake_any (w : World) (ht : Tab w) : Calls Tryd.prog 7 #[] w fun e w' => e = .returned (.bool true) ∧ Below w.heap.size w w' := by
  have HT := Lib.hid ht
  clear ht
  go_enter Tryd.func7, Tryd.ntmps7
  go_wp2_with fail
  refine (lex_ok (s := ex1) _ (by decide) HT.out.2 lex_ex1).mono ?_
  rintro e w1 ⟨v, rfl, hown, hb1⟩
  obtain ⟨g, cap, rfl, hg, hgl, hcap, hrow⟩ := row_parts hown (by decide)
  have H1 := Lib.hid (HT.out.below hb1)
  go_wp2_with fail
  refine (lex_no (s := ex2) _ (by decide) H1.out.2 lex_ex2).mono ?_
  rintro e w2 ⟨rfl, hb2⟩
  have H2 := Lib.hid (H1.out.below hb2)
  go_wp2_with fail
  refine (lex_no (s := ex3) _ (by decide) H2.out.2 lex_ex3).mono ?_
  rintro e w3 ⟨rfl, hb3⟩
  have H3 := Lib.hid (H2.out.below hb3)
  have hr3 := (hrow.below hb2 hgl).below hb3 (Nat.lt_of_lt_of_le hgl hb2.size)
  have t2 := hr3 2 (by decide)
  have t4 := hr3 4 (by decide)
  have hb := Lib.hid ((hb1.trans (hb2.mono hb1.size)).trans (hb3.mono (Nat.le_trans hb1.size hb2.size)))
  clear hr3 hrow hb1 hb2 hb3 hown
  have a0 : w3.cell? ⟨g, 10, none⟩ = some (.int .i64 1) := t2.fk
  have a1 : w3.cell? ⟨g, 11, none⟩ = some (.string ⟨#[48, 120, 49, 70]⟩) := t2.ft
  have a2 : w3.cell? ⟨g, 12, none⟩ = some (.int .u64 31) := t2.fm
  have a3 : w3.cell? ⟨g, 13, none⟩ = some (.int .i64 1) := t2.fl
  have a4 : w3.cell? ⟨g, 14, none⟩ = some (.int .i64 5) := t2.fc
  have b0 : w3.cell? ⟨g, 20, none⟩ = some (.int .i64 3) := t4.fk
  have b1 : w3.cell? ⟨g, 21, none⟩ = some (.string ⟨#[]⟩) := t4.ft
  have b2 : w3.cell? ⟨g, 22, none⟩ = some (.int .u64 0) := t4.fm
  have b3 : w3.cell? ⟨g, 23, none⟩ = some (.int .i64 1) := t4.fl
  have b4 : w3.cell? ⟨g, 24, none⟩ = some (.int .i64 15) := t4.fc
  have hk := Lib.hid (key_any ⟨#[119, 104, 105, 108, 101]⟩ w3 H3.out.1)
  have hkl : keyL (⟨#[119, 104, 105, 108, 101]⟩ : ByteArray).data.toList = true := by decide
  rw [hkl] at hk
  have hlen : exL.length = 5 := rfl
  rw [hlen] at *
  clear hlen hkl t2 t4
  go_wp2_with (go_at_call 10; refine (hk.out).mono ?_; rintro e w' ⟨rfl, rfl⟩)
  go_ret
  exact ⟨rfl, hb.out⟩
end Go.Proofs.YtilfganjpgkjdaaDoor
