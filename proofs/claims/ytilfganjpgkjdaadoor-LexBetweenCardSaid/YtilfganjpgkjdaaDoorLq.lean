/- What Lex hands back; the parts of its walk. -/
import Derived.Test.YtilfganjpgkjdaaDoorLp
import Derived.OwnWalk
import Derived.Laws.OwnMore
namespace Go.Proofs.YtilfganjpgkjdaaDoor
open Go Go.RowKit

theorem clone_any (s : ByteArray) (w : World) (hs : s.size ≤ 65536) :
    Calls Tryd.prog 20 #[.string s] w fun e w' => e = .returned (.string s) ∧ Below w.heap.size w w' := by
  have H := Lib.hid (Tryd.stringslite_Clone s w (by omega))
  go_enter Tryd.func20, Tryd.ntmps20
  go_wp2_with (go_at_call 27; refine (H.out).mono ?_; rintro e w' ⟨rfl, hb⟩)
  go_ret
  exact ⟨rfl, hb⟩
def tokC (t : Tok) : List Value := [.int .i64 t.kind, .string ⟨t.text.toArray⟩, .int .u64 t.num, .int .i64 t.line, .int .i64 t.col]
def tokCs (l : List Tok) : List Value := l.flatMap tokC
def LexPost (s : ByteArray) (w : World) (e : Ending) (w' : World) : Prop :=
  match lexG s.data.toList 1 1 with
  | .bad ln c code => e = .returned (.tuple #[.slice none 0 0, .int .i64 ln, .int .i64 c, .int .i64 code]) ∧ Below w.heap.size w w'
  | .ok l => ∃ v, e = .returned (.tuple #[v, .int .i64 0, .int .i64 0, .int .i64 0]) ∧ w'.ownsRow w.heap.size 37 5 v l.length (tokCs l) ∧ Below w.heap.size w w'
def LexRel (s : ByteArray) (w : World) (B : Nat) (v : Value) (wr : World) : Prop :=
  ∃ r ln c acc, RdIn B r ln c wr ∧ Res.pre acc (lexG r.data.toList ln c) = lexG s.data.toList 1 1 ∧ wr.ownsRow (B + 1) 37 5 v acc.length (tokCs acc) ∧ acc.length + r.size ≤ s.size ∧ Below w.heap.size w wr
theorem Tryd.info37 : (Tryd.prog.info? 37).map (fun i => (i.zero, i.size, i.bytes)) = some (some (.agg #[.int .i64 0, .string ⟨#[]⟩, .int .u64 0, .int .i64 0, .int .i64 0]), 5, 48) := by kernel_rfl

theorem cell_five_new (w : World) (a b c d e : Value) (t : TypeId) : ∀ (j : Nat) (u : Value), [a, b, c, d, e][j]? = some u → (w.alloc (.cells #[a, b, c, d, e] t)).cell? ((⟨w.heap.size, 0, none⟩ : Addr).add j) = some u := by
  intro j u hj
  match j, hj with
  | 0, h => cases h; simp [Addr.add, go_sem]
  | 1, h => cases h; simp [Addr.add, go_sem]
  | 2, h => cases h; simp [Addr.add, go_sem]
  | 3, h => cases h; simp [Addr.add, go_sem]
  | 4, h => cases h; simp [Addr.add, go_sem]
theorem tokC_new (w : World) (b : Nat) (t : Tok) (hb : b = w.heap.size) (T : TypeId) :
    ∀ (j : Nat) (u : Value), (tokC t)[j]? = some u → (w.alloc (.cells #[.int .i64 t.kind, .string ⟨t.text.toArray⟩, .int .u64 t.num, .int .i64 t.line, .int .i64 t.col] T)).cell? ((⟨b, 0, none⟩ : Addr).add j) = some u := by
  subst hb
  exact cell_five_new _ _ _ _ _ _ _
theorem tokC_one (t : Tok) : ∀ u ∈ tokC t, u.oneCell' = true := by
  intro u hu
  simp [tokC] at hu
  rcases hu with rfl | rfl | rfl | rfl | rfl <;> rfl
theorem owns_mono {w : World} {b b' : Nat} {e : TypeId} {size : Nat} {v : Value} {n : Nat} {xs : List Value} (h : w.ownsRow b e size v n xs) (hb : b' ≤ b) : w.ownsRow b' e size v n xs := by
  obtain ⟨h1, h2 | ⟨g, cap, cur, h3, h4, h5⟩⟩ := h
  · exact ⟨h1, .inl h2⟩
  · exact ⟨h1, .inr ⟨g, cap, cur, h3, Nat.le_trans hb h4, h5⟩⟩
theorem tokCs_snoc (l : List Tok) (t : Tok) : tokCs (l ++ [t]) = tokCs l ++ tokC t := by simp [tokCs]
theorem pre_cons (acc : List Tok) (t : Tok) (x : Res) : Res.pre acc (x.cons t) = Res.pre (acc ++ [t]) x := by
  cases x <;> simp [Res.pre, Res.cons]
theorem Signs.below {w w' : World} (h : Signs w) (hb : Below w.heap.size w w') : Signs w' := by
  obtain ⟨b, off, cap, h1⟩ := h
  exact ⟨b, off, cap, h1.below hb⟩
/-- What the row, old memory and the tables are behind a call that writes the reader's block alone. -/
theorem kept_all {w wr w2 : World} {B n : Nat} {v : Value} {xs : List Value} (hB : w.heap.size ≤ B) (hlt : B < wr.heap.size) (hown : wr.ownsRow (B + 1) 37 5 v n xs) (hbl : Below w.heap.size w wr) (hg : wr.grownBy w2 (some B)) :
    w2.ownsRow (B + 1) 37 5 v n xs ∧ Below w.heap.size w w2 :=
  ⟨hown.kept hg (.inr (fun e => by have := (hown.lt _ e).1; omega)), hbl.grown hg (by omega) (fun k e => by cases e; exact hB)⟩
/-- What is there behind the append of a token. -/
theorem grown_all {w w3 w4 : World} {B n : Nat} {v : Value} {xs : List Value} {o1 o2 : Obj} (hB : w.heap.size ≤ B) (hlt : B < w3.heap.size) (hown : w3.ownsRow (B + 1) 37 5 v n xs) (hbl : Below w.heap.size w w3)
    (hg : ((w3.alloc o1).alloc o2).grownBy w4 v.ownBlock) :
    Below w.heap.size w w4 ∧ (∀ r ln c, RdAt B r ln c w3 → RdAt B r ln c w4) ∧ (∀ o, w4.cell? ⟨w3.heap.size, o, none⟩ = ((w3.alloc o1).alloc o2).cell? ⟨w3.heap.size, o, none⟩) := by
  have hne : ∀ k, (k = B ∨ k = w3.heap.size) → some k ≠ v.ownBlock := fun k hk e => by
    have := hown.lt k e.symm
    omega
  refine ⟨((hbl.alloc (by omega) o1).alloc (by simp; omega) o2).grown hg (by simp; omega) (fun k e => by have := (hown.lt k e).1; omega), fun r ln c h => ?_, fun o => ?_⟩
  · exact (h.kept (row := none) (grown_alloc (grown_alloc (grown_refl _ _) _) _) (by simp)).kept hg (hne B (.inl rfl))
  · exact World.cell?_of_block (hg.block w3.heap.size (by simp; omega) (hne _ (.inr rfl)))
theorem post_end {s : ByteArray} {w w' : World} {e : Ending} {B : Nat} {acc : List Tok} {t : Tok} {v : Value} (hB : w.heap.size ≤ B) (hx : lexG s.data.toList 1 1 = .ok (acc ++ [t]))
    (he : e = .returned (.tuple #[v, .int .i64 0, .int .i64 0, .int .i64 0])) (hown : w'.ownsRow (B + 1) 37 5 v (acc.length + 1) (tokCs acc ++ tokC t)) (hb : Below w.heap.size w w') : LexPost s w e w' := by
  unfold LexPost
  rw [hx]
  refine ⟨v, he, ?_, hb⟩
  rw [tokCs_snoc, List.length_append]
  exact owns_mono hown (by omega)
theorem post_bad {s : ByteArray} {w w' : World} {e : Ending} {ln c code : Int} (hx : lexG s.data.toList 1 1 = .bad ln c code)
    (he : e = .returned (.tuple #[.slice none 0 0, .int .i64 ln, .int .i64 c, .int .i64 code])) (hb : Below w.heap.size w w') : LexPost s w e w' := by
  unfold LexPost
  rw [hx]
  exact ⟨he, hb⟩
theorem nil_of {r : ByteArray} (h : r.size = 0) : r = ⟨#[]⟩ := bs_eq (List.length_eq_zero_iff.mp h)
end Go.Proofs.YtilfganjpgkjdaaDoor
