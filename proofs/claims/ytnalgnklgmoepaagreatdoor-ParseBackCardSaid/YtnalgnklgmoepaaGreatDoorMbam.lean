/- So much fuel is enough (plain). Read at every text. The chapter's examples of Read. The writer's small calls: need, texted, bare, isName, named. The contract of isName. The shelf's contracts of the calls that tell a number's digits, laid at this program (by the kit's own lay-shelf and lay-plain). The contract of strconv.FormatUint at base 10. The writer as a plain function on trees: the words that a tree is shown by, if it is a program's. -/
import Derived.Shelf.Strconv.Itoa0
import Derived.Shelf.Strconv.Itoa1
import Derived.Lib.Walk
import Derived.Lib.ItoaMem
import Derived.WalkKit
import Derived.BigCall
import Derived.BigGuard
import Derived.Below
import Derived.Lib.Hide
import Derived.Test.YtnalgnklgmoepaaGreatDoorMbal
set_option linter.all false
namespace Go.Proofs.YtnalgnklgmoepaaGreatDoor
open Go Go.RowKit

/-- It doesn't run out, and what is left is shorter than m. -/
def Fine {α : Type} (m : Nat) (p : PR α) : Prop := p ≠ .out ∧ ∀ a l, p = .ok a l → l.length < m
theorem Fine.ok {α : Type} {m : Nat} (a : α) {l : List Tok} (h : l.length < m) : Fine m (.ok a l) := ⟨by simp, fun a' l' e => by injection e with _ e; subst e; exact h⟩
theorem Fine.bad {α : Type} (m : Nat) (ln c code : Int) : Fine m (.bad ln c code : PR α) := ⟨by simp, fun a' l' e => by cases e⟩
theorem Fine.bind {α β : Type} {m m' : Nat} {p : PR α} {f : α → List Tok → PR β} (h : Fine m p) (hf : ∀ a l, l.length < m → Fine m' (f a l)) : Fine m' (p.bind f) := by
  cases p with
  | ok a l => exact hf a l (h.2 a l rfl)
  | bad ln c code => exact Fine.bad _ _ _ _
  | out => exact absurd rfl h.1
theorem Fine.mono {α : Type} {m m' : Nat} {p : PR α} (h : Fine m p) (hm : m ≤ m') : Fine m' p := ⟨h.1, fun a l e => Nat.lt_of_lt_of_le (h.2 a l e) hm⟩
theorem fine_take (may : Bool) (l : List Tok) : Fine l.length (takeP may l) := by
  cases l with
  | nil => exact Fine.bad _ _ _ _
  | cons t r =>
    rw [takeP]
    split
    · exact Fine.ok _ (by simp)
    · exact Fine.bad _ _ _ _
theorem fine_pass0 : ∀ (xs : List (List UInt8)) (l : List Tok), Fine (l.length + 1) (passP xs l)
  | [], l => Fine.ok _ (by simp)
  | x :: xs, l => (fine_take _ l).bind fun _ l' h => (fine_pass0 xs l').mono (by omega)
theorem fine_pass (x : List UInt8) (xs : List (List UInt8)) (l : List Tok) : Fine l.length (passP (x :: xs) l) := (fine_take _ l).bind fun _ l' h => (fine_pass0 xs l').mono (by omega)
theorem fine_fail (m : Nat) (code : Int) (l : List Tok) : Fine m (failP code l : PR Tree) := Fine.bad _ _ _ _
theorem fine_deeper {m : Nat} {d : Int} {p : Int → List Tok → PR Tree} {l : List Tok} (h : Fine m (p (d + 1) l)) : Fine m (deeperP d p l) := by
  unfold deeperP
  split
  · exact fine_fail _ _ _
  · exact h
theorem fine_many {stop : Tok → Bool} {p : List Tok → PR Tree} : ∀ (n : Nat) (acc : List Tree) (l : List Tok), l.length < n → (∀ l', l'.length ≤ l.length → Fine l'.length (p l')) → Fine (l.length + 1) (manyP stop p n acc l)
  | 0, _, _, h, _ => by omega
  | n + 1, acc, l, h, hp => by
    rw [manyP]
    split
    · exact Fine.ok _ (by omega)
    · exact (hp l (Nat.le_refl _)).bind fun t l' hl => (fine_many n (acc ++ [t]) l' (by omega) (fun l'' h'' => hp l'' (by omega))).mono (by omega)
theorem fine_declared (kind : List UInt8) (void : Bool) (l : List Tok) : Fine l.length (declaredP kind void l) :=
  (fine_take _ l).bind fun t l' h => (fine_take _ l').bind fun u l'' h' => Fine.ok _ (by omega)
theorem fine_number (l : List Tok) : Fine l.length (numberP l) := (fine_take _ l).bind fun t l' h => Fine.ok _ h
theorem fine_commas {n : Nat} {p : List Tok → PR Tree} {l : List Tok} (hn : l.length ≤ n) (hp : ∀ l', l'.length < l.length → Fine l'.length (p l')) : Fine l.length (commasP n p l) := by
  unfold commasP
  refine (fine_pass [40] [] l).bind fun _ l1 h1 => ?_
  split
  · exact (fine_pass [41] [] l1).bind fun _ l2 h2 => Fine.ok _ (by omega)
  · refine (hp l1 h1).bind fun t l2 h2 => ?_
    refine (fine_many n [t] l2 (by omega) (fun l' h' => (fine_pass [44] [] l').bind fun _ l3 h3 => (hp l3 (by omega)).mono (by omega))).bind fun ts l3 h3 => ?_
    exact (fine_pass [41] [] l3).bind fun _ l4 h4 => Fine.ok _ (by omega)
section
variable {rec : NT → Int → List Tok → PR Tree} {n L : Nat}
/-- What the calls below may be asked at tokens shorter than L. -/
structure RecOk (rec : NT → Int → List Tok → PR Tree) (L : Nat) : Prop where
  block : ∀ d l, l.length < L → Fine l.length (rec .block d l)
  binary : ∀ k d l, l.length < L → Fine l.length (rec (.binary k) d l)
  operand : ∀ d l, l.length < L → Fine l.length (rec .operand d l)
theorem fine_target (H : RecOk rec L) (d : Int) (l : List Tok) (hl : l.length ≤ L) : Fine l.length (targetP rec d l) := by
  unfold targetP
  refine (fine_take _ l).bind fun t l1 h1 => ?_
  split
  · refine (fine_pass [91] [] l1).bind fun _ l2 h2 => ?_
    refine (fine_deeper (H.binary 0 (d + 1) l2 (by omega))).bind fun e l3 h3 => ?_
    exact (fine_pass [93] [] l3).bind fun _ l4 h4 => Fine.ok _ (by omega)
  · exact Fine.ok _ h1
theorem fine_paren (H : RecOk rec L) (d : Int) (l : List Tok) (hl : l.length ≤ L) : Fine l.length (parenP rec d l) := by
  unfold parenP
  refine (fine_take _ l).bind fun t l1 h1 => ?_
  split
  · refine (fine_take _ l1).bind fun u l2 h2 => ?_
    refine (fine_pass [41] [] l2).bind fun _ l3 h3 => ?_
    exact (fine_deeper (H.operand (d + 1) l3 (by omega))).bind fun e l4 h4 => Fine.ok _ (by omega)
  · refine (fine_deeper (H.binary 0 (d + 1) l1 (by omega))).bind fun e l3 h3 => ?_
    exact (fine_pass [41] [] l3).bind fun _ l4 h4 => Fine.ok _ (by omega)
theorem fine_operand (H : RecOk rec L) (d : Int) (l : List Tok) (hl : l.length ≤ L) : Fine l.length (operandP rec d l) := by
  unfold operandP
  split
  · exact fine_number l
  split
  · exact (fine_take _ l).bind fun u l1 h1 => Fine.ok _ h1
  split
  · refine (fine_take _ l).bind fun u l1 h1 => ?_
    exact (fine_deeper (H.operand (d + 1) l1 (by omega))).bind fun e l2 h2 => Fine.ok _ (by omega)
  split
  · exact fine_paren H d l hl
  · exact fine_target H d l hl
theorem fine_binLoop (H : RecOk rec L) (k d : Int) : ∀ (m : Nat) (left : Tree) (l : List Tok), l.length < m → l.length ≤ L → Fine (l.length + 1) (binLoop rec k d m left l)
  | 0, _, _, h, _ => by omega
  | m + 1, left, l, h, hl => by
    rw [binLoop]
    split
    · exact Fine.ok _ (by omega)
    · refine (fine_take _ l).bind fun t l1 h1 => ?_
      refine (H.binary _ d l1 (by omega)).bind fun r l2 h2 => ?_
      exact (fine_binLoop H k d m _ l2 (by omega) (by omega)).mono (by omega)
theorem fine_binary (H : RecOk rec L) (k d : Int) (l : List Tok) (hl : l.length ≤ L) (hn : l.length ≤ n) (ho : Fine l.length (rec .operand d l)) : Fine l.length (binaryP rec n k d l) := by
  unfold binaryP
  exact ho.bind fun e l1 h1 => (fine_binLoop H k d n e l1 (by omega) (by omega)).mono (by omega)
theorem fine_expr (H : RecOk rec L) (d : Int) (l : List Tok) (hl : l.length < L) : Fine l.length (exprP rec d l) := H.binary 0 d l hl
theorem fine_call (H : RecOk rec L) (d : Int) (l : List Tok) (hl : l.length ≤ L) (hn : l.length ≤ n) : Fine l.length (callP rec n d l) := by
  unfold callP
  refine (fine_take _ l).bind fun t l1 h1 => ?_
  exact (fine_commas (by omega) (fun l' h' => fine_deeper (H.binary 0 (d + 1) l' (by omega)))).bind fun ts l2 h2 => Fine.ok _ (by omega)
theorem fine_action (H : RecOk rec L) (d : Int) (l : List Tok) (hl : l.length ≤ L) (hn : l.length ≤ n) : Fine l.length (actionP rec n d l) := by
  unfold actionP
  split
  · exact (fine_call H d l hl hn).bind fun t l1 h1 => (fine_pass [59] [] l1).bind fun _ l2 h2 => Fine.ok _ (by omega)
  · refine (fine_target H d l hl).bind fun x l1 h1 => (fine_pass [61] [] l1).bind fun _ l2 h2 => ?_
    split
    · exact (fine_pass kNondet [[40], [41]] l2).bind fun _ l3 h3 => (fine_pass [59] [] l3).bind fun _ l4 h4 => Fine.ok _ (by omega)
    split
    · exact (fine_call H d l2 (by omega) (by omega)).bind fun y l3 h3 => (fine_pass [59] [] l3).bind fun _ l4 h4 => Fine.ok _ (by omega)
    · exact (fine_expr H d l2 (by omega)).bind fun y l3 h3 => (fine_pass [59] [] l3).bind fun _ l4 h4 => Fine.ok _ (by omega)
theorem fine_claim (H : RecOk rec L) (d : Int) (l : List Tok) (hl : l.length ≤ L) : Fine l.length (claimP rec d l) := by
  unfold claimP
  exact (fine_take _ l).bind fun t l1 h1 => (fine_pass [40] [] l1).bind fun _ l2 h2 => (fine_expr H d l2 (by omega)).bind fun e l3 h3 => (fine_pass [41] [[59]] l3).bind fun _ l4 h4 => Fine.ok _ (by omega)
theorem fine_leave (H : RecOk rec L) (d : Int) (l : List Tok) (hl : l.length ≤ L) : Fine l.length (leaveP rec d l) := by
  unfold leaveP
  refine (fine_pass kReturn [] l).bind fun _ l1 h1 => ?_
  split
  · exact (fine_pass [59] [] l1).bind fun _ l2 h2 => Fine.ok _ (by omega)
  · exact (fine_expr H d l1 (by omega)).bind fun e l2 h2 => (fine_pass [59] [] l2).bind fun _ l3 h3 => Fine.ok _ (by omega)
theorem fine_guarded (H : RecOk rec L) (word : List UInt8) (d : Int) (l : List Tok) (hl : l.length ≤ L) : Fine l.length (guardedP rec word d l) := by
  unfold guardedP
  exact (fine_pass word [[40]] l).bind fun _ l1 h1 => (fine_expr H d l1 (by omega)).bind fun e l2 h2 => (fine_pass [41] [] l2).bind fun _ l3 h3 => (fine_deeper (H.block (d + 1) l3 (by omega))).bind fun b l4 h4 => Fine.ok _ (by omega)
theorem fine_choice (H : RecOk rec L) (d : Int) (l : List Tok) (hl : l.length ≤ L) : Fine l.length (choiceP rec d l) := by
  unfold choiceP
  refine (fine_guarded H kIf d l hl).bind fun t l1 h1 => ?_
  split
  · exact (fine_pass kElse [] l1).bind fun _ l2 h2 => (fine_deeper (H.block (d + 1) l2 (by omega))).bind fun b l3 h3 => Fine.ok _ (by omega)
  · exact Fine.ok _ h1
theorem fine_local (l : List Tok) : Fine l.length (localP l) := (fine_declared _ _ l).bind fun t l1 h1 => (fine_pass [59] [] l1).bind fun _ l2 h2 => Fine.ok _ (by omega)
theorem fine_stmt (H : RecOk rec L) (d : Int) (l : List Tok) (hl : l.length ≤ L) (hn : l.length ≤ n) : Fine l.length (stmtP rec n d l) := by
  unfold stmtP
  split
  · exact fine_choice H d l hl
  split
  · exact fine_guarded H _ d l hl
  split
  · exact fine_leave H d l hl
  split
  · exact fine_claim H d l hl
  split
  · exact fine_local l
  · exact fine_action H d l hl hn
theorem fine_block (H : RecOk rec L) (d : Int) (l : List Tok) (hl : l.length ≤ L) (hn : l.length ≤ n) : Fine l.length (blockP rec n d l) := by
  unfold blockP
  refine (fine_pass [123] [] l).bind fun _ l1 h1 => ?_
  exact (fine_many n [] l1 (by omega) (fun l' h' => fine_stmt H d l' (by omega) (by omega))).bind fun ts l2 h2 => (fine_pass [125] [] l2).bind fun _ l3 h3 => Fine.ok _ (by omega)
end
theorem fine_run : ∀ (n : Nat), (∀ d l, 2 * l.length + 2 ≤ n → Fine l.length (runP n .block d l)) ∧ (∀ k d l, 2 * l.length + 2 ≤ n → Fine l.length (runP n (.binary k) d l)) ∧ ∀ d l, 2 * l.length + 1 ≤ n → Fine l.length (runP n .operand d l) := by
  intro n
  induction n with
  | zero => exact ⟨fun d l h => by omega, fun k d l h => by omega, fun d l h => by omega⟩
  | succ n ih =>
    have hR : ∀ L, 2 * L ≤ n → RecOk (runP n) L := fun L hL => ⟨fun d l hl => ih.1 d l (by omega), fun k d l hl => ih.2.1 k d l (by omega), fun d l hl => ih.2.2 d l (by omega)⟩
    refine ⟨fun d l h => ?_, fun k d l h => ?_, fun d l h => ?_⟩
    · exact fine_block (hR l.length (by omega)) d l (Nat.le_refl _) (by omega)
    · exact fine_binary (hR l.length (by omega)) k d l (Nat.le_refl _) (by omega) (ih.2.2 d l (by omega))
    · exact fine_operand (hR l.length (by omega)) d l (Nat.le_refl _)
theorem fine_item (n : Nat) (l : List Tok) (h : 2 * l.length + 2 ≤ n) : Fine l.length (itemP n l) := by
  unfold itemP
  refine (fine_declared _ _ l).bind fun t l1 h1 => ?_
  split
  · refine (fine_commas (by omega) (fun l' h' => fine_declared _ _ l')).bind fun ps l2 h2 => ?_
    exact (fine_deeper ((fine_run n).1 (0 + 1) l2 (by omega))).bind fun b l3 h3 => Fine.ok _ (by omega)
  split
  · exact (fine_pass [91] [] l1).bind fun _ l2 h2 => (fine_number l2).bind fun m l3 h3 => (fine_pass [93] [] l3).bind fun _ l4 h4 => (fine_pass [59] [] l4).bind fun _ l5 h5 => Fine.ok _ (by omega)
  · exact (fine_pass [59] [] l1).bind fun _ l2 h2 => Fine.ok _ (by omega)
theorem program_out (n : Nat) (l : List Tok) (h : 2 * l.length + 2 ≤ n) : programP n l ≠ .out := by
  have := (fine_many (stop := fun u => u.kind == 3) n [] l (by omega) (fun l' h' => fine_item n l' (by omega))).bind (m' := l.length + 1) (f := fun ts l' => PR.ok (Tree.mk kProgram [] 0 (hdT l).line (hdT l).col ts) l') fun ts l' h' => Fine.ok _ h'
  exact this.1
end Go.Proofs.YtnalgnklgmoepaaGreatDoor
namespace Go.Proofs.YtnalgnklgmoepaaGreatDoor
open Go Go.RowKit

set_option maxHeartbeats 2000000 in
set_option maxRecDepth 100000 in
theorem lex_long (s : ByteArray) (w : World) (hs : 65536 < s.size) :
    Calls Tryz.prog 16 #[.string s] w fun e w' => e = .returned (.tuple #[.slice none 0 0, .int .i64 0, .int .i64 0, .int .i64 22]) ∧ Below w.heap.size w w' := by
  have hs' : (65536 : Int) < (s.size : Int) := by omega
  go_enter Tryz.func16, Tryz.ntmps16
  go_wp2
  exact bodyPost_ret (v := .tuple #[.slice none 0 0, .int .i64 0, .int .i64 0, .int .i64 22]) (by simp [results, Tryz.results16, go_sem]) rfl ⟨rfl, Below.refl _ _⟩
/-- Read, with as much fuel as it takes. -/
def readL (s : List UInt8) : PR Tree := if s.length ≤ 65536 then readP 200000 s else .bad 0 0 22
theorem read_out (s : List UInt8) (h : s.length ≤ 65536) : readP 200000 s ≠ .out := by
  unfold readP
  cases hr : lexG s 1 1 with
  | bad a b c => simp
  | ok l =>
    have := (lexG_ends hr).2.1
    exact program_out _ _ (by omega)
set_option maxHeartbeats 2000000 in
set_option maxRecDepth 100000 in
theorem read_long (s : ByteArray) (w : World) (hs : 65536 < s.size) : Calls Tryz.prog 8 #[.string s] w (ParsePost w (.bad 0 0 22)) := by
  have ha := (Below.refl w.heap.size w).alloc (Nat.le_refl _) zero6
  have H := Lib.hid (lex_long s (w.alloc zero6) hs)
  have HA := Lib.hid ha
  have HR := Lib.hid (LNode.new [] [] 0 0 0 (.slice none 0 0) w)
  clear ha
  unfold zero6 at *
  go_enter Tryz.func8, Tryz.ntmps8
  go_wp2_with fail
  refine (H.out).mono ?_
  rintro e w1 ⟨rfl, hB⟩
  have hR := HR.out.below hB
  have HG := Lib.hid hB
  have r0 := hR.c0; have r1 := hR.c1; have r2 := hR.c2; have r3 := hR.c3; have r4 := hR.c4; have r5 := hR.c5
  have g0 := hR.f 0 (by omega); have g1 := hR.f 1 (by omega); have g2 := hR.f 2 (by omega); have g3 := hR.f 3 (by omega); have g4 := hR.f 4 (by omega); have g5 := hR.f 5 (by omega)
  have hsz := hR.lt
  clear hR hB H HR
  go_wp2
  refine bodyPost_ret (v := .tuple #[zeroN, .int .i64 0, .int .i64 0, .int .i64 22]) (by simp [results, Tryz.results8, go_sem, zeroN, *]) rfl ?_
  exact ⟨rfl, grown_none (grown_six (below_grown (HA.out.trans (HG.out.mono HA.out.size)) none) (Nat.le_refl _) _ _ _ _ _ _)⟩
/-- READ, FOR EVERY TEXT: as the plain function says. -/
theorem read_all (s : ByteArray) (w : World) (ht : Tab3 w) : Calls Tryz.prog 8 #[.string s] w (ParsePost w (readL s.data.toList)) := by
  have hl : s.data.toList.length = s.size := (size_len s).symm
  unfold readL
  by_cases h : s.data.toList.length ≤ 65536
  · rw [if_pos h]
    exact read_any 200000 (program_any 200000 (by omega)) s w (by omega) ht (read_out _ h)
  · rw [if_neg h]
    exact read_long s w (by omega)
theorem readL_out (s : List UInt8) : readL s ≠ .out := by
  unfold readL
  split
  · rename_i h; exact read_out s h
  · simp
end Go.Proofs.YtnalgnklgmoepaaGreatDoor
namespace Go.Proofs.YtnalgnklgmoepaaGreatDoor
open Go Go.RowKit

def exR1 : List UInt8 := [117, 56, 32, 120, 59, 32, 118, 111, 105, 100, 32, 102, 40, 41, 32, 123, 32, 120, 32, 61, 32, 120, 32, 43, 32, 49, 32, 42, 32, 50, 59, 32, 125]
def exR2 : List UInt8 := [117, 56, 32, 120]
def isOk : PR Tree → Bool
  | .ok _ _ => true
  | _ => false
theorem readP_more : True := trivial
theorem ex_read2 : readP 200 exR2 = .bad 1 5 30 := by kernel_rfl
theorem ex_read1 : isOk (readP 200 exR1) = true := by kernel_rfl
end Go.Proofs.YtnalgnklgmoepaaGreatDoor
namespace Go.Proofs.YtnalgnklgmoepaaGreatDoor
open Go Go.RowKit

def aggN (k x : List UInt8) (m ln c : Int) (q : Option Addr) (vn vc : Nat) : Value := .agg #[.string ⟨k.toArray⟩, .string ⟨x.toArray⟩, .int .u64 m, .int .i64 ln, .int .i64 c, .slice q vn vc]
theorem need_yes (w : World) : Calls Tryz.prog 49 #[.bool true] w fun e w' => e = .returned (.tuple #[]) ∧ w = w' := by
  go_enter Tryz.func49, Tryz.ntmps49
  go_wp2
  go_end0
  exact ⟨rfl, rfl⟩
theorem need_no (w : World) : Calls Tryz.prog 49 #[.bool false] w fun e w' => e = .panicked [{ v := faultV 0 0 32, recovered := false }] ∧ w = w' := by
  go_enter Tryz.func49, Tryz.ntmps49
  go_wp2
  exact ⟨rfl, rfl, rfl⟩
def textedB (m : Int) (vn : Nat) (lo hi : Int) : Bool := m == 0 && decide (lo ≤ vn) && decide ((vn : Int) ≤ hi)
set_option maxHeartbeats 1000000 in
set_option maxRecDepth 100000 in
theorem texted_any (k x : List UInt8) (m ln c : Int) (q : Option Addr) (vn vc : Nat) (lo hi : Int) (w : World) :
    Calls Tryz.prog 76 #[aggN k x m ln c q vn vc, .int .i64 lo, .int .i64 hi] w fun e w' => e = .returned (.bool (textedB m vn lo hi)) ∧ Below w.heap.size w w' := by
  unfold aggN textedB
  cases h1 : (m == 0) <;> cases h2 : decide (lo ≤ (vn : Int)) <;> cases h3 : decide ((vn : Int) ≤ hi) <;>
  · go_enter Tryz.func76, Tryz.ntmps76
    go_wp2
    go_ret
    exact ⟨rfl, (Below.refl _ _).alloc (Nat.le_refl _) _⟩
def bareB (x : List UInt8) (m : Int) (vn : Nat) (lo hi : Int) : Bool := x == [] && textedB m vn lo hi
set_option maxHeartbeats 1000000 in
set_option maxRecDepth 100000 in
theorem bare_any (k x : List UInt8) (m ln c : Int) (q : Option Addr) (vn vc : Nat) (lo hi : Int) (w : World) :
    Calls Tryz.prog 50 #[aggN k x m ln c q vn vc, .int .i64 lo, .int .i64 hi] w fun e w' => e = .returned (.bool (bareB x m vn lo hi)) ∧ Below w.heap.size w w' := by
  have H := Lib.hid (texted_any k x m ln c q vn vc lo hi (w.alloc (.cells #[.string ⟨k.toArray⟩, .string ⟨x.toArray⟩, .int .u64 m, .int .i64 ln, .int .i64 c, .slice q vn vc] 26)))
  unfold aggN at *
  unfold bareB
  have hb := (Below.refl w.heap.size w).alloc (Nat.le_refl _) (.cells #[.string ⟨k.toArray⟩, .string ⟨x.toArray⟩, .int .u64 m, .int .i64 ln, .int .i64 c, .slice q vn vc] 26)
  generalize textedB m vn lo hi = tb at *
  cases h1 : (x == [])
  · go_enter Tryz.func50, Tryz.ntmps50
    go_wp2_with fail
    go_ret
    exact ⟨rfl, hb⟩
  · go_enter Tryz.func50, Tryz.ntmps50
    go_wp2_with fail
    refine (H.out).mono ?_
    rintro e w1 ⟨rfl, hb1⟩
    go_wp2
    go_ret
    exact ⟨rfl, hb.trans (hb1.mono hb.size)⟩
end Go.Proofs.YtnalgnklgmoepaaGreatDoor
namespace Go.Proofs.YtnalgnklgmoepaaGreatDoor
open Go Go.RowKit

def digB (c : Int) : Bool := decide (48 ≤ c ∧ c ≤ 57)
def scanN : Nat → List UInt8 → Bool
  | _, [] => true
  | i, b :: r => (letB b.toNat || (digB b.toNat && !(i == 0))) && scanN (i + 1) r
def isNameL (l : List UInt8) : Bool := scanN 0 l && (!(l == []) && !keyL l)
theorem scan_hit {l : List UInt8} {k : Nat} {b : UInt8} (h : l[k]? = some b) (hb : (letB b.toNat || (digB b.toNat && !(k == 0))) = true) : scanN k (l.drop k) = scanN (k + 1) (l.drop (k + 1)) := by
  obtain ⟨hk, rfl⟩ := List.getElem?_eq_some_iff.1 h
  rw [List.drop_eq_getElem_cons hk, scanN, hb, Bool.true_and]
theorem scan_miss {l : List UInt8} {k : Nat} {b : UInt8} (h : l[k]? = some b) (hb : (letB b.toNat || (digB b.toNat && !(k == 0))) = false) : scanN k (l.drop k) = false := by
  obtain ⟨hk, rfl⟩ := List.getElem?_eq_some_iff.1 h
  rw [List.drop_eq_getElem_cons hk, scanN, hb, Bool.false_and]
theorem byte_cls (b : Int) (h0 : 0 ≤ b) (h1 : b ≤ 255) : (0 ≤ b ∧ b ≤ 47) ∨ (48 ≤ b ∧ b ≤ 57) ∨ (58 ≤ b ∧ b ≤ 64) ∨ (65 ≤ b ∧ b ≤ 90) ∨ (91 ≤ b ∧ b ≤ 94) ∨ (95 ≤ b ∧ b ≤ 95) ∨ (96 ≤ b ∧ b ≤ 96) ∨ (97 ≤ b ∧ b ≤ 122) ∨ (123 ≤ b ∧ b ≤ 255) := by omega
theorem byte_at (s : ByteArray) (k : Nat) (h : k < s.size) : s.data.toList[k]? = some s[k] := by
  rw [List.getElem?_eq_getElem (by rw [← size_len]; exact h)]
  cases s; rfl

set_option maxHeartbeats 8000000 in
set_option maxRecDepth 100000 in
theorem isName_any (s : ByteArray) (w : World) (hk : Keys w) (hs : s.size ≤ 1000000) :
    Calls Tryz.prog 99 #[.string s] w fun e w' => e = .returned (.bool (isNameL s.data.toList)) ∧ w = w' := by
  have HK := Lib.hid (key_any s w hk)
  have HL := Lib.hid (size_len s)
  have HS := Lib.hid (str_beq [] s)
  clear hk
  go_enter Tryz.func99, Tryz.ntmps99
  go_wp2_with fail
  go_loop [9] (fun i => ∃ k : Nat, k ≤ s.size ∧ i = .int .i64 k ∧ scanN k (s.data.toList.drop k) = scanN 0 s.data.toList) (fun i => s.size - (intOf i).toNat)
  case atStart => exact ⟨0, Nat.zero_le _, rfl, rfl⟩
  case round =>
    obtain ⟨k, hkn, rfl, hr⟩ := hrel
    have HR := Lib.hid hr
    clear hr
    by_cases hlt : k < s.size
    · have hh := Lib.hid (scan_hit (byte_at s k hlt))
      have hm := Lib.hid (scan_miss (byte_at s k hlt))
      have hb0 : (0 : Int) ≤ (s[k].toNat : Int) := by omega
      have hb1 : (s[k].toNat : Int) ≤ 255 := by have := s[k].toNat_lt; omega
      have hc := byte_cls _ hb0 hb1
      have hlet : letB (s[k].toNat : Int) = (decide (97 ≤ (s[k].toNat : Int)) && decide ((s[k].toNat : Int) ≤ 122) || (decide (65 ≤ (s[k].toNat : Int)) && decide ((s[k].toNat : Int) ≤ 90)) || ((s[k].toNat : Int) == 95)) := by
        unfold letB
        rw [Bool.eq_iff_iff]
        simp
        omega
      have hdig : digB (s[k].toNat : Int) = (decide (48 ≤ (s[k].toNat : Int)) && decide ((s[k].toNat : Int) ≤ 57)) := by
        unfold digB
        rw [Bool.eq_iff_iff]
        simp
      rw [hlet, hdig] at hh hm
      clear hlet hdig
      generalize hB : (s[k].toNat : Int) = b at *
      by_cases hk0 : k = 0
      · have hkb : ((k : Int) == 0) = true := by simp [hk0]
        have hkn' : (k == 0) = true := by simp [hk0]
        rcases hc with hc | hc | hc | hc | hc | hc | hc | hc | hc
        · have c1 : decide (97 ≤ b) = false := by simp; omega
          have c2 : decide (b ≤ 122) = true := by simp; omega
          have c3 : decide (65 ≤ b) = false := by simp; omega
          have c4 : decide (b ≤ 90) = true := by simp; omega
          have c5 : (b == 95) = false := by simp; omega
          have c6 : decide (48 ≤ b) = false := by simp; omega
          have c7 : decide (b ≤ 57) = true := by simp; omega
          have hst := Lib.hid (hm.out (by rw [c1, c2, c3, c4, c5, c6, c7, hkn']; rfl))
          clear hh hm hc hk0 hb0 hb1
          go_wp2_with fail
          go_ret
          refine ⟨?_, rfl⟩
          unfold isNameL
          rw [← HR.out, hst.out]
          rfl
        · have c1 : decide (97 ≤ b) = false := by simp; omega
          have c2 : decide (b ≤ 122) = true := by simp; omega
          have c3 : decide (65 ≤ b) = false := by simp; omega
          have c4 : decide (b ≤ 90) = true := by simp; omega
          have c5 : (b == 95) = false := by simp; omega
          have c6 : decide (48 ≤ b) = true := by simp; omega
          have c7 : decide (b ≤ 57) = true := by simp; omega
          have hst := Lib.hid (hm.out (by rw [c1, c2, c3, c4, c5, c6, c7, hkn']; rfl))
          clear hh hm hc hk0 hb0 hb1
          go_wp2_with fail
          go_ret
          refine ⟨?_, rfl⟩
          unfold isNameL
          rw [← HR.out, hst.out]
          rfl
        · have c1 : decide (97 ≤ b) = false := by simp; omega
          have c2 : decide (b ≤ 122) = true := by simp; omega
          have c3 : decide (65 ≤ b) = false := by simp; omega
          have c4 : decide (b ≤ 90) = true := by simp; omega
          have c5 : (b == 95) = false := by simp; omega
          have c6 : decide (48 ≤ b) = true := by simp; omega
          have c7 : decide (b ≤ 57) = false := by simp; omega
          have hst := Lib.hid (hm.out (by rw [c1, c2, c3, c4, c5, c6, c7, hkn']; rfl))
          clear hh hm hc hk0 hb0 hb1
          go_wp2_with fail
          go_ret
          refine ⟨?_, rfl⟩
          unfold isNameL
          rw [← HR.out, hst.out]
          rfl
        · have c1 : decide (97 ≤ b) = false := by simp; omega
          have c2 : decide (b ≤ 122) = true := by simp; omega
          have c3 : decide (65 ≤ b) = true := by simp; omega
          have c4 : decide (b ≤ 90) = true := by simp; omega
          have c5 : (b == 95) = false := by simp; omega
          have c6 : decide (48 ≤ b) = true := by simp; omega
          have c7 : decide (b ≤ 57) = false := by simp; omega
          have hst := Lib.hid (hh.out (by rw [c1, c2, c3, c4, c5, c6, c7, hkn']; rfl))
          clear hh hm hc hk0 hb0 hb1
          go_wp2_with fail
          go_round
          case rel => exact ⟨k + 1, by omega, by go_num, by rw [← hst.out]; exact HR.out⟩
          case measure => simp [intOf]; omega
        · have c1 : decide (97 ≤ b) = false := by simp; omega
          have c2 : decide (b ≤ 122) = true := by simp; omega
          have c3 : decide (65 ≤ b) = true := by simp; omega
          have c4 : decide (b ≤ 90) = false := by simp; omega
          have c5 : (b == 95) = false := by simp; omega
          have c6 : decide (48 ≤ b) = true := by simp; omega
          have c7 : decide (b ≤ 57) = false := by simp; omega
          have hst := Lib.hid (hm.out (by rw [c1, c2, c3, c4, c5, c6, c7, hkn']; rfl))
          clear hh hm hc hk0 hb0 hb1
          go_wp2_with fail
          go_ret
          refine ⟨?_, rfl⟩
          unfold isNameL
          rw [← HR.out, hst.out]
          rfl
        · have c1 : decide (97 ≤ b) = false := by simp; omega
          have c2 : decide (b ≤ 122) = true := by simp; omega
          have c3 : decide (65 ≤ b) = true := by simp; omega
          have c4 : decide (b ≤ 90) = false := by simp; omega
          have c5 : (b == 95) = true := by simp; omega
          have c6 : decide (48 ≤ b) = true := by simp; omega
          have c7 : decide (b ≤ 57) = false := by simp; omega
          have hst := Lib.hid (hh.out (by rw [c1, c2, c3, c4, c5, c6, c7, hkn']; rfl))
          clear hh hm hc hk0 hb0 hb1
          go_wp2_with fail
          go_round
          case rel => exact ⟨k + 1, by omega, by go_num, by rw [← hst.out]; exact HR.out⟩
          case measure => simp [intOf]; omega
        · have c1 : decide (97 ≤ b) = false := by simp; omega
          have c2 : decide (b ≤ 122) = true := by simp; omega
          have c3 : decide (65 ≤ b) = true := by simp; omega
          have c4 : decide (b ≤ 90) = false := by simp; omega
          have c5 : (b == 95) = false := by simp; omega
          have c6 : decide (48 ≤ b) = true := by simp; omega
          have c7 : decide (b ≤ 57) = false := by simp; omega
          have hst := Lib.hid (hm.out (by rw [c1, c2, c3, c4, c5, c6, c7, hkn']; rfl))
          clear hh hm hc hk0 hb0 hb1
          go_wp2_with fail
          go_ret
          refine ⟨?_, rfl⟩
          unfold isNameL
          rw [← HR.out, hst.out]
          rfl
        · have c1 : decide (97 ≤ b) = true := by simp; omega
          have c2 : decide (b ≤ 122) = true := by simp; omega
          have c3 : decide (65 ≤ b) = true := by simp; omega
          have c4 : decide (b ≤ 90) = false := by simp; omega
          have c5 : (b == 95) = false := by simp; omega
          have c6 : decide (48 ≤ b) = true := by simp; omega
          have c7 : decide (b ≤ 57) = false := by simp; omega
          have hst := Lib.hid (hh.out (by rw [c1, c2, c3, c4, c5, c6, c7, hkn']; rfl))
          clear hh hm hc hk0 hb0 hb1
          go_wp2_with fail
          go_round
          case rel => exact ⟨k + 1, by omega, by go_num, by rw [← hst.out]; exact HR.out⟩
          case measure => simp [intOf]; omega
        · have c1 : decide (97 ≤ b) = true := by simp; omega
          have c2 : decide (b ≤ 122) = false := by simp; omega
          have c3 : decide (65 ≤ b) = true := by simp; omega
          have c4 : decide (b ≤ 90) = false := by simp; omega
          have c5 : (b == 95) = false := by simp; omega
          have c6 : decide (48 ≤ b) = true := by simp; omega
          have c7 : decide (b ≤ 57) = false := by simp; omega
          have hst := Lib.hid (hm.out (by rw [c1, c2, c3, c4, c5, c6, c7, hkn']; rfl))
          clear hh hm hc hk0 hb0 hb1
          go_wp2_with fail
          go_ret
          refine ⟨?_, rfl⟩
          unfold isNameL
          rw [← HR.out, hst.out]
          rfl
      · have hkb : ((k : Int) == 0) = false := by simp; omega
        have hkn' : (k == 0) = false := by simpa using hk0
        rcases hc with hc | hc | hc | hc | hc | hc | hc | hc | hc
        · have c1 : decide (97 ≤ b) = false := by simp; omega
          have c2 : decide (b ≤ 122) = true := by simp; omega
          have c3 : decide (65 ≤ b) = false := by simp; omega
          have c4 : decide (b ≤ 90) = true := by simp; omega
          have c5 : (b == 95) = false := by simp; omega
          have c6 : decide (48 ≤ b) = false := by simp; omega
          have c7 : decide (b ≤ 57) = true := by simp; omega
          have hst := Lib.hid (hm.out (by rw [c1, c2, c3, c4, c5, c6, c7, hkn']; rfl))
          clear hh hm hc hk0 hb0 hb1
          go_wp2_with fail
          go_ret
          refine ⟨?_, rfl⟩
          unfold isNameL
          rw [← HR.out, hst.out]
          rfl
        · have c1 : decide (97 ≤ b) = false := by simp; omega
          have c2 : decide (b ≤ 122) = true := by simp; omega
          have c3 : decide (65 ≤ b) = false := by simp; omega
          have c4 : decide (b ≤ 90) = true := by simp; omega
          have c5 : (b == 95) = false := by simp; omega
          have c6 : decide (48 ≤ b) = true := by simp; omega
          have c7 : decide (b ≤ 57) = true := by simp; omega
          have hst := Lib.hid (hh.out (by rw [c1, c2, c3, c4, c5, c6, c7, hkn']; rfl))
          clear hh hm hc hk0 hb0 hb1
          go_wp2_with fail
          go_round
          case rel => exact ⟨k + 1, by omega, by go_num, by rw [← hst.out]; exact HR.out⟩
          case measure => simp [intOf]; omega
        · have c1 : decide (97 ≤ b) = false := by simp; omega
          have c2 : decide (b ≤ 122) = true := by simp; omega
          have c3 : decide (65 ≤ b) = false := by simp; omega
          have c4 : decide (b ≤ 90) = true := by simp; omega
          have c5 : (b == 95) = false := by simp; omega
          have c6 : decide (48 ≤ b) = true := by simp; omega
          have c7 : decide (b ≤ 57) = false := by simp; omega
          have hst := Lib.hid (hm.out (by rw [c1, c2, c3, c4, c5, c6, c7, hkn']; rfl))
          clear hh hm hc hk0 hb0 hb1
          go_wp2_with fail
          go_ret
          refine ⟨?_, rfl⟩
          unfold isNameL
          rw [← HR.out, hst.out]
          rfl
        · have c1 : decide (97 ≤ b) = false := by simp; omega
          have c2 : decide (b ≤ 122) = true := by simp; omega
          have c3 : decide (65 ≤ b) = true := by simp; omega
          have c4 : decide (b ≤ 90) = true := by simp; omega
          have c5 : (b == 95) = false := by simp; omega
          have c6 : decide (48 ≤ b) = true := by simp; omega
          have c7 : decide (b ≤ 57) = false := by simp; omega
          have hst := Lib.hid (hh.out (by rw [c1, c2, c3, c4, c5, c6, c7, hkn']; rfl))
          clear hh hm hc hk0 hb0 hb1
          go_wp2_with fail
          go_round
          case rel => exact ⟨k + 1, by omega, by go_num, by rw [← hst.out]; exact HR.out⟩
          case measure => simp [intOf]; omega
        · have c1 : decide (97 ≤ b) = false := by simp; omega
          have c2 : decide (b ≤ 122) = true := by simp; omega
          have c3 : decide (65 ≤ b) = true := by simp; omega
          have c4 : decide (b ≤ 90) = false := by simp; omega
          have c5 : (b == 95) = false := by simp; omega
          have c6 : decide (48 ≤ b) = true := by simp; omega
          have c7 : decide (b ≤ 57) = false := by simp; omega
          have hst := Lib.hid (hm.out (by rw [c1, c2, c3, c4, c5, c6, c7, hkn']; rfl))
          clear hh hm hc hk0 hb0 hb1
          go_wp2_with fail
          go_ret
          refine ⟨?_, rfl⟩
          unfold isNameL
          rw [← HR.out, hst.out]
          rfl
        · have c1 : decide (97 ≤ b) = false := by simp; omega
          have c2 : decide (b ≤ 122) = true := by simp; omega
          have c3 : decide (65 ≤ b) = true := by simp; omega
          have c4 : decide (b ≤ 90) = false := by simp; omega
          have c5 : (b == 95) = true := by simp; omega
          have c6 : decide (48 ≤ b) = true := by simp; omega
          have c7 : decide (b ≤ 57) = false := by simp; omega
          have hst := Lib.hid (hh.out (by rw [c1, c2, c3, c4, c5, c6, c7, hkn']; rfl))
          clear hh hm hc hk0 hb0 hb1
          go_wp2_with fail
          go_round
          case rel => exact ⟨k + 1, by omega, by go_num, by rw [← hst.out]; exact HR.out⟩
          case measure => simp [intOf]; omega
        · have c1 : decide (97 ≤ b) = false := by simp; omega
          have c2 : decide (b ≤ 122) = true := by simp; omega
          have c3 : decide (65 ≤ b) = true := by simp; omega
          have c4 : decide (b ≤ 90) = false := by simp; omega
          have c5 : (b == 95) = false := by simp; omega
          have c6 : decide (48 ≤ b) = true := by simp; omega
          have c7 : decide (b ≤ 57) = false := by simp; omega
          have hst := Lib.hid (hm.out (by rw [c1, c2, c3, c4, c5, c6, c7, hkn']; rfl))
          clear hh hm hc hk0 hb0 hb1
          go_wp2_with fail
          go_ret
          refine ⟨?_, rfl⟩
          unfold isNameL
          rw [← HR.out, hst.out]
          rfl
        · have c1 : decide (97 ≤ b) = true := by simp; omega
          have c2 : decide (b ≤ 122) = true := by simp; omega
          have c3 : decide (65 ≤ b) = true := by simp; omega
          have c4 : decide (b ≤ 90) = false := by simp; omega
          have c5 : (b == 95) = false := by simp; omega
          have c6 : decide (48 ≤ b) = true := by simp; omega
          have c7 : decide (b ≤ 57) = false := by simp; omega
          have hst := Lib.hid (hh.out (by rw [c1, c2, c3, c4, c5, c6, c7, hkn']; rfl))
          clear hh hm hc hk0 hb0 hb1
          go_wp2_with fail
          go_round
          case rel => exact ⟨k + 1, by omega, by go_num, by rw [← hst.out]; exact HR.out⟩
          case measure => simp [intOf]; omega
        · have c1 : decide (97 ≤ b) = true := by simp; omega
          have c2 : decide (b ≤ 122) = false := by simp; omega
          have c3 : decide (65 ≤ b) = true := by simp; omega
          have c4 : decide (b ≤ 90) = false := by simp; omega
          have c5 : (b == 95) = false := by simp; omega
          have c6 : decide (48 ≤ b) = true := by simp; omega
          have c7 : decide (b ≤ 57) = false := by simp; omega
          have hst := Lib.hid (hm.out (by rw [c1, c2, c3, c4, c5, c6, c7, hkn']; rfl))
          clear hh hm hc hk0 hb0 hb1
          go_wp2_with fail
          go_ret
          refine ⟨?_, rfl⟩
          unfold isNameL
          rw [← HR.out, hst.out]
          rfl
    · have hend : scanN 0 s.data.toList = true := by
        rw [← HR.out, List.drop_eq_nil_of_le (by rw [← HL.out]; omega), scanN]
      have HE := Lib.hid hend
      clear hend
      have HTS := Lib.hid (Lib.toList_data s)
      by_cases hse : s.data = #[]
      · have hie : s.toList.isEmpty = true := by rw [HTS.out, hse]; rfl
        have hne : isNameL s.data.toList = false := by unfold isNameL; rw [hse]; rfl
        have HN := Lib.hid hne
        clear hse hne
        go_wp2_with fail
        go_ret
        refine ⟨?_, rfl⟩
        rw [HN.out]
        rfl
      · have hie : s.toList.isEmpty = false := by
          rw [HTS.out]
          cases h : s.data.toList with
          | nil => exact absurd (by simpa using h) hse
          | cons a r => rfl
        have hne : isNameL s.data.toList = !keyL s.data.toList := by
          unfold isNameL
          rw [HE.out]
          have : (s.data.toList == []) = false := by simpa using hse
          rw [this]
          rfl
        have HN := Lib.hid hne
        clear hse hne
        go_wp2_with fail
        refine (HK.out).mono ?_
        rintro e w' ⟨rfl, rfl⟩
        go_wp2
        go_ret
        refine ⟨?_, rfl⟩
        rw [HN.out]
        rfl
end Go.Proofs.YtnalgnklgmoepaaGreatDoor
namespace Go.Proofs
open Go.Shelf
def Tryz.lays129_ren : Go.Shelf.Ren := ⟨fun | 129 => 141 | n => n, fun | 53 => 23 | 3 => 3 | 4 => 4 | 46 => 140 | 5 => 5 | 9 => 9 | n => n, fun | n => n⟩
theorem Tryz.lays129 : Go.Proofs.Lays.n129 Tryz.prog Tryz.lays129_ren := {
  mixed := by kernel_rfl
  f129 := Tryz.func141.trans (congrArg some (by kernel_rfl))
  t3 := Tryz.underlying3
  a3 := Tryz.isAgg3
  z3 := Tryz.sizeOf3
  v3 := Tryz.zeroValue3
  t4 := Tryz.underlying4
  a4 := Tryz.isAgg4
  z4 := Tryz.sizeOf4
  v4 := Tryz.zeroValue4
  t5 := Tryz.underlying5
  a5 := Tryz.isAgg5
  z5 := Tryz.sizeOf5
  v5 := Tryz.zeroValue5
  t9 := Tryz.underlying9
  a9 := Tryz.isAgg9
  z9 := Tryz.sizeOf9
  v9 := Tryz.zeroValue9
  t46 := Tryz.underlying140
  a46 := Tryz.isAgg140
  z46 := Tryz.sizeOf140
  v46 := Tryz.zeroValue140
  t53 := Tryz.underlying23
  a53 := Tryz.isAgg23
  z53 := Tryz.sizeOf23
  v53 := Tryz.zeroValue23 }
/-- bits.Len64: "Len64 returns the minimum number of bits required to represent x; the result is 0 for x == 0.": IT RETURNS 'Lib.bitLen x'; the world is as it was. ('h0', 'h1': x is a uint64.) (LAID: no walk: one application.) -/
theorem Tryz.bits_Len64 (x : Int) (w : World) (h0 : 0 ≤ x) (h1 : x ≤ 18446744073709551615) :
    Calls Tryz.prog 141 #[.int .u64 x] w fun e w' => e = .returned (.int .i64 (Lib.bitLen x.toNat)) ∧ w' = w := Any.bits_Len64 Tryz.lays129 x w h0 h1
def Tryz.lays317_ren : Go.Shelf.Ren := ⟨fun | 317 => 140 | n => n, fun | 3 => 3 | 46 => 140 | n => n, fun | n => n⟩
theorem Tryz.lays317 : Go.Proofs.Lays.n317 Tryz.prog Tryz.lays317_ren := {
  mixed := by kernel_rfl
  f317 := Tryz.func140.trans (congrArg some (by kernel_rfl))
  t3 := Tryz.underlying3
  a3 := Tryz.isAgg3
  z3 := Tryz.sizeOf3
  v3 := Tryz.zeroValue3
  t46 := Tryz.underlying140
  a46 := Tryz.isAgg140
  z46 := Tryz.sizeOf140
  v46 := Tryz.zeroValue140 }
open Go.Lib in
/-- internal/strconv.log10Pow2: "log10Pow2(x) returns ⌊log₁₀ 2**x⌋ = ⌊x * log₁₀ 2⌋.": '(x * 78913) >> 18', at an x up to 64 (a length in bits). The world is as it was. (LAID: no walk: one application.) -/
theorem Tryz.internal_strconv_log10Pow2 (x : Nat) (h : x ≤ 64) (w : World) :
    Calls Tryz.prog 140 #[.int .i64 x] w fun e w' => e = .returned (.int .i64 (Lib.l10 x)) ∧ w' = w := Any.internal_strconv_log10Pow2 Tryz.lays317 x h w
def Tryz.lays318_ren : Go.Shelf.Ren := ⟨fun | 318 => 142 | n => n, fun | 3 => 3 | 4 => 4 | n => n, fun | n => n⟩
theorem Tryz.lays318 : Go.Proofs.Lays.n318 Tryz.prog Tryz.lays318_ren := {
  mixed := by kernel_rfl
  f318 := Tryz.func142.trans (congrArg some (by kernel_rfl))
  t3 := Tryz.underlying3
  a3 := Tryz.isAgg3
  z3 := Tryz.sizeOf3
  v3 := Tryz.zeroValue3
  t4 := Tryz.underlying4
  a4 := Tryz.isAgg4
  z4 := Tryz.sizeOf4
  v4 := Tryz.zeroValue4 }
open Go.Lib in
/-- internal/strconv.bool2: "bool2 converts b to an integer: 1 for true, 0 for false." The world is as it was. (LAID: no walk: one application.) -/
theorem Tryz.internal_strconv_bool2_int (b : Bool) (w : World) :
    Calls Tryz.prog 142 #[.bool b] w fun e w' => e = .returned (.int .i64 (if b then 1 else 0)) ∧ w' = w := Any.internal_strconv_bool2_int Tryz.lays318 b w
def Tryz.lays283_ren : Go.Shelf.Ren := ⟨fun | 283 => 129 | n => n, fun | 3 => 3 | 9 => 9 | 4 => 4 | n => n, fun | n => n⟩
theorem Tryz.lays283 : Go.Proofs.Lays.n283 Tryz.prog Tryz.lays283_ren := {
  mixed := by kernel_rfl
  f283 := Tryz.func129.trans (congrArg some (by kernel_rfl))
  t3 := Tryz.underlying3
  a3 := Tryz.isAgg3
  z3 := Tryz.sizeOf3
  v3 := Tryz.zeroValue3
  t4 := Tryz.underlying4
  a4 := Tryz.isAgg4
  z4 := Tryz.sizeOf4
  v4 := Tryz.zeroValue4
  t9 := Tryz.underlying9
  a9 := Tryz.isAgg9
  z9 := Tryz.sizeOf9
  v9 := Tryz.zeroValue9 }
open Go.Lib in
/-- internal/strconv.small: "small returns the string for an i with 0 <= i < nSmalls.": i's decimal numeral. The world is as it was. (LAID: no walk: one application.) -/
theorem Tryz.internal_strconv_small (i : Nat) (h : i < 100) (w : World) :
    Calls Tryz.prog 129 #[.int .i64 i] w fun e w' => e = .returned (.string ⟨(Lib.decDigits i).toArray⟩) ∧ w' = w := Any.internal_strconv_small Tryz.lays283 i h w
def Tryz.laysM284_ren : Go.Shelf.Ren := ⟨fun | 284 => 130 | 129 => 141 | 317 => 140 | 318 => 142 | n => n, fun | 53 => 23 | 3 => 3 | 212 => 136 | 0 => 0 | 4 => 4 | 46 => 140 | 5 => 5 | 9 => 9 | n => n, fun | 17 => 4 | n => n⟩
theorem Tryz.laysM284 : Go.Proofs.LaysM.n284 Tryz.prog Tryz.laysM284_ren := {
  mixed := by kernel_rfl
  f129 := Tryz.func141.trans (congrArg some (by kernel_rfl))
  f284 := Tryz.func130.trans (congrArg some (by kernel_rfl))
  f317 := Tryz.func140.trans (congrArg some (by kernel_rfl))
  f318 := Tryz.func142.trans (congrArg some (by kernel_rfl))
  t0 := Tryz.underlying0
  a0 := Tryz.isAgg0
  z0 := Tryz.sizeOf0
  v0 := Tryz.zeroValue0
  t3 := Tryz.underlying3
  a3 := Tryz.isAgg3
  z3 := Tryz.sizeOf3
  v3 := Tryz.zeroValue3
  t4 := Tryz.underlying4
  a4 := Tryz.isAgg4
  z4 := Tryz.sizeOf4
  v4 := Tryz.zeroValue4
  t5 := Tryz.underlying5
  a5 := Tryz.isAgg5
  z5 := Tryz.sizeOf5
  v5 := Tryz.zeroValue5
  t9 := Tryz.underlying9
  a9 := Tryz.isAgg9
  z9 := Tryz.sizeOf9
  v9 := Tryz.zeroValue9
  t46 := Tryz.underlying140
  a46 := Tryz.isAgg140
  z46 := Tryz.sizeOf140
  v46 := Tryz.zeroValue140
  t53 := Tryz.underlying23
  a53 := Tryz.isAgg23
  z53 := Tryz.sizeOf23
  v53 := Tryz.zeroValue23
  t212 := Tryz.underlying136
  a212 := Tryz.isAgg136
  z212 := Tryz.sizeOf136
  v212 := Tryz.zeroValue136
  g17 := by kernel_rfl
  i0 := by kernel_rfl
  i3 := by kernel_rfl
  i4 := by kernel_rfl
  i5 := by kernel_rfl
  i9 := by kernel_rfl
  i46 := by kernel_rfl
  i53 := by kernel_rfl
  i212 := by kernel_rfl
  m17 := by kernel_rfl }
open Go.Lib in
/-- internal/strconv.numDigits, at a d that is not 0: THE NUMBER OF d's DECIMAL DIGITS. The world is as it was. (LAID: no walk: one application.) -/
theorem Tryz.internal_strconv_numDigits (u : Nat) (h1 : 1 ≤ u) (h2 : u < 18446744073709551616) (w : World) (htab : Lib.TabIs Tryz.prog w "internal/strconv.uint64pow10" .u64 Lib.pow10Tab) :
    Calls Tryz.prog 130 #[.int .u64 u] w fun e w' => e = .returned (.int .i64 (Lib.nDigits u)) ∧ w' = w := Any.internal_strconv_numDigits Tryz.laysM284 u h1 h2 w htab
end Go.Proofs
namespace Go.Proofs.YtnalgnklgmoepaaGreatDoor
open Go Go.RowKit Go.Sort Go.Lib

/-- The table of powers that the library reads. -/
def Pow (w : World) : Prop := Lib.TabIs Tryz.prog w "internal/strconv.uint64pow10" .u64 Lib.pow10Tab
theorem powNamed : Tryz.prog.globalNamed "internal/strconv.uint64pow10" = some 4 := by kernel_rfl
theorem Pow.under {L : Nat} {w w' : World} (h : Pow w) (hb : Below L w w') (hL : 4 < L) : Pow w' := by
  unfold Pow Lib.TabIs World.var? at h ⊢
  rw [powNamed] at h ⊢
  simp only [Option.bind_some] at h ⊢
  rw [hb.block 4 hL]
  exact h
theorem Pow.lt {w : World} (h : Pow w) : 4 < w.heap.size := by
  unfold Pow Lib.TabIs World.var? at h
  rw [powNamed] at h
  simp only [Option.bind_some] at h
  rcases Nat.lt_or_ge 4 w.heap.size with h' | h'
  · exact h'
  · rw [Array.getElem?_eq_none h'] at h; cases h
theorem below_grow (w : World) (k : Nat) (os : Array Obj) : Below w.heap.size w (Go.Sort.grow (w.drewN k) os) := by
  have hd : (w.drewN k).heap = w.heap := by simp [World.drewN]
  refine ⟨by simp [Go.Sort.grow, World.drewN], by simp [Go.Sort.grow, World.drewN], by simp [Go.Sort.grow, World.drewN], by simp [Go.Sort.grow, hd], fun b hb => ?_⟩
  simp only [Go.Sort.grow, hd]
  exact Array.getElem?_append_left hb
theorem holds_zero0 (w : World) (T : TypeId) (nd : Nat) (hs : nd ≤ 24) : Holds (fun (b : UInt8) => Value.int .u8 (b.toNat : Int)) (w.alloc (.cells Lib.zeros24 T)) w.heap.size 0 (Array.replicate nd (0 : UInt8)) := fun j hj => by
  have hj' : j < nd := by simpa using hj
  refine ⟨?_, World.frozen?_alloc_new _ _ _ _⟩
  rw [World.cell?_alloc_new, Lib.zeros24_at _ (by omega), getElem!_pos _ j hj]
  simp
theorem fin0 (w : World) (o : Obj) (dk : Array UInt8) (k : Nat) : ∃ os, (putRow (fun (b : UInt8) => Value.int .u8 (b.toNat : Int)) (w.alloc o) w.heap.size 0 dk).drewN k = Go.Sort.grow (w.drewN k) os := by
  rw [alloc_eq_grow]
  obtain ⟨os', _, e⟩ := putRow_grow_new (fun (b : UInt8) => Value.int .u8 (b.toNat : Int)) w #[o] w.heap.size 0 dk (Nat.le_refl _)
  exact ⟨os', by rw [e]; rfl⟩

set_option maxHeartbeats 6400000 in
set_option maxRecDepth 100000 in
theorem fmt_inner (u : Nat) (hu64 : u < 18446744073709551616) (w : World) (htab : Pow w) :
    Calls Tryz.prog 115 #[.int .u64 u, .int .i64 10] w fun e w' => e = .returned (.string ⟨(Lib.decDigits u).toArray⟩) ∧ Below w.heap.size w w' := by
  by_cases hs : u < 100
  · have H := Lib.hid (Tryz.internal_strconv_small u hs w)
    go_enter Tryz.func115, Tryz.ntmps115
    go_wp2_with fail
    refine (H.out).mono ?_
    rintro e w' ⟨rfl, rfl⟩
    go_wp2
    go_ret
    exact ⟨rfl, Below.refl _ _⟩
  · have hu1 : 1 ≤ u := by omega
    have hnd20 : Lib.nDigits u ≤ 20 := by have := Lib.numDigits_eq u hu1 hu64; split at this <;> omega
    have hb3 : Lib.nDigits u ≤ 24 := by omega
    have hal : Tryz.prog.arrayLen 126 = 24 := by kernel_rfl
    have hsl : ∀ W, (Instr.sliceAt 126 (.pointer (some ⟨w.heap.size, 0, none⟩)) none (some (.int .i64 (Lib.nDigits u : Int))) none).run Tryz.prog W = .ok (.slice (some ⟨w.heap.size, 0, none⟩) (Lib.nDigits u) 24) W := fun W => by
      rw [run_sliceAt_array_h W 126 ⟨w.heap.size, 0, none⟩ (by kernel_rfl) .i64 (Lib.nDigits u : Int) (by omega) (by rw [hal]; omega)]
      go_simp
    have hH0 := holds_zero0 w 126 (Lib.nDigits u) hb3
    have hfmt := Tryz.internal_strconv_formatBase10 w.heap.size 0 24 u (Array.replicate (Lib.nDigits u) 0) (w.alloc (.cells Lib.zeros24 126)) hH0 (by rw [Array.size_replicate]; exact Lib.lt_pow_nDigits u) hu64 (by rw [Array.size_replicate]; omega)
    rw [Array.size_replicate] at hfmt
    have HH0 := Lib.hid hH0
    have HND := Lib.hid (Tryz.internal_strconv_numDigits u hu1 hu64 _ (Lib.tabIs_alloc htab (.cells Lib.zeros24 126)))
    have HF := Lib.hid hfmt
    clear hH0 hal hfmt htab
    unfold Lib.zeros24 at *
    go_enter Tryz.func115, Tryz.ntmps115
    go_wp2_with fail
    refine (HND.out).mono ?_
    rintro e w' ⟨rfl, rfl⟩
    go_wp2_with fail
    refine (HF.out).mono ?_
    rintro e w' ⟨rfl, k, v', dk, rfl, hF⟩
    have hcv : (convert 59 9 (.slice (some ⟨w.heap.size, 0, none⟩) (Lib.nDigits u) 24)).run Tryz.prog ((putRow (fun (b : UInt8) => Value.int .u8 (b.toNat : Int)) (w.alloc (.cells Lib.zeros24 126)) w.heap.size 0 dk).drewN k) = .ok (.string ⟨(Lib.decDigits u).toArray⟩) ((putRow (fun (b : UInt8) => Value.int .u8 (b.toNat : Int)) (w.alloc (.cells Lib.zeros24 126)) w.heap.size 0 dk).drewN k) := by
      have h := run_convert_bytes_back (P := Tryz.prog) ((putRow (fun (b : UInt8) => Value.int .u8 (b.toNat : Int)) (w.alloc (.cells Lib.zeros24 126)) w.heap.size 0 dk).drewN k) 59 9 5 ⟨w.heap.size, 0, none⟩ 24 (Lib.decDigits u) Tryz.underlying59 Tryz.underlying5 Tryz.underlying9 (fun j hj => by
        rw [Lib.row_is_numeral hF j hj, Lib.add_plain, World.cell?_drewN]
        exact cell?_putRow (fun (b : UInt8) => Value.int .u8 (b.toNat : Int)) _ w.heap.size 0 _ dk HH0.out (by rw [hF.size, Array.size_replicate]) j (by rw [hF.size]; rw [Lib.decDigits_length] at hj; exact hj))
      rw [Lib.decDigits_length] at h
      exact h
    unfold Lib.zeros24 at hcv
    go_wp2
    go_ret
    obtain ⟨os, eo⟩ := fin0 w (.cells Lib.zeros24 126) dk k
    unfold Lib.zeros24 at eo
    refine ⟨rfl, ?_⟩
    rw [eo]
    exact below_grow w k os
set_option maxHeartbeats 1000000 in
set_option maxRecDepth 100000 in
theorem fmt_any (u : Nat) (hu64 : u < 18446744073709551616) (w : World) (htab : Pow w) :
    Calls Tryz.prog 102 #[.int .u64 u, .int .i64 10] w fun e w' => e = .returned (.string ⟨(Lib.decDigits u).toArray⟩) ∧ Below w.heap.size w w' := by
  have H := Lib.hid (fmt_inner u hu64 w htab)
  clear htab
  go_enter Tryz.func102, Tryz.ntmps102
  go_wp2_with fail
  refine (H.out).mono ?_
  rintro e w' ⟨rfl, hb⟩
  go_wp2
  go_ret
  exact ⟨rfl, hb⟩
end Go.Proofs.YtnalgnklgmoepaaGreatDoor
namespace Go.Proofs.YtnalgnklgmoepaaGreatDoor
open Go Go.RowKit

abbrev Ws := Option (List (List UInt8))
def catW (a b : Ws) : Ws := a.bind fun x => b.map fun y => x ++ y
def manyW (f : Tree → Ws) : List Tree → Ws
  | [] => some []
  | t :: r => catW (f t) (manyW f r)
def restW (f : Tree → Ws) : List Tree → Ws
  | [] => some []
  | t :: r => catW (some [[44]]) (catW (f t) (restW f r))
def commasW (f : Tree → Ws) : List Tree → Ws
  | [] => some []
  | t :: r => catW (f t) (restW f r)
def ifW (b : Bool) (a : Ws) : Ws := if b then a else none
def bareT (t : Tree) : Bool := t.text == [] && t.num == 0
def namedT (t : Tree) : Bool := isNameL t.text && t.num == 0
def numberW (t : Tree) : Ws := ifW (t.kind == kNum && (t.text == [] && t.kids.length == 0)) (some [Lib.decDigits t.num.toNat])
def declaredW (void : Bool) (t : Tree) : Ws :=
  match t.kids with
  | u :: _ => ifW (u.kind == kType && (u.num == 0 && u.kids.length == 0) && (typeB u.text || void && u.text == kVoid)) (some [u.text, t.text])
  | [] => none
def paramW (t : Tree) : Ws := ifW (t.kind == kParam && namedT t && t.kids.length == 1) (declaredW false t)
inductive WT where
  | block
  | expr
section
variable (rec : WT → Tree → Ws)
def targetW (t : Tree) : Ws :=
  if t.kind == kIndex then
    match t.kids with
    | [e] => ifW (namedT t) (catW (some [t.text, [91]]) (catW (rec .expr e) (some [[93]])))
    | _ => none
  else ifW (t.kind == kName && namedT t && t.kids.length == 0) (some [t.text])
def operandW (t : Tree) : Ws := if t.kind == kBinary || (t.kind == kUnary || t.kind == kCast) then catW (some [[40]]) (catW (rec .expr t) (some [[41]])) else rec .expr t
def exprW (t : Tree) : Ws :=
  if t.kind == kBinary then
    match t.kids with
    | [a, b] => ifW (decide (0 ≤ levelI t.text) && t.num == 0) (catW (operandW rec a) (catW (some [t.text]) (operandW rec b)))
    | _ => none
  else if t.kind == kUnary then
    match t.kids with
    | [a] => ifW (unaryB t.text && t.num == 0) (catW (some [t.text]) (operandW rec a))
    | _ => none
  else if t.kind == kCast then
    match t.kids with
    | [a] => ifW (typeB t.text && t.num == 0) (catW (some [[40], t.text, [41]]) (operandW rec a))
    | _ => none
  else if t.kind == kTrue || t.kind == kFalse then ifW (bareT t && t.kids.length == 0) (some [t.kind])
  else if t.kind == kNum then numberW t
  else targetW rec t
def callW (t : Tree) : Ws := ifW (t.kind == kCall && namedT t) (catW (some [t.text, [40]]) (catW (commasW (rec .expr) t.kids) (some [[41]])))
def guardedW (t : Tree) : Ws :=
  match t.kids with
  | e :: b :: _ => catW (some [t.kind, [40]]) (catW (rec .expr e) (catW (some [[41]]) (rec .block b)))
  | _ => none
def choiceW (t : Tree) : Ws :=
  ifW (bareT t) <| match t.kids with
  | [_, _] => guardedW rec t
  | [_, _, c] => catW (guardedW rec t) (catW (some [kElse]) (rec .block c))
  | _ => none
def giftW (t : Tree) : Ws :=
  ifW (bareT t) <| match t.kids with
  | [x] => ifW (t.kind == kNondet) (catW (targetW rec x) (some [[61], kNondet, [40], [41]]))
  | [x, y] => if t.kind == kAssign then catW (targetW rec x) (catW (some [[61]]) (rec .expr y)) else ifW (t.kind == kResult) (catW (targetW rec x) (catW (some [[61]]) (callW rec y)))
  | _ => none
def semiW (a : Ws) : Ws := catW a (some [[59]])
def stmtW (t : Tree) : Ws :=
  if t.kind == kIf then choiceW rec t
  else if t.kind == kWhile then ifW (bareT t && t.kids.length == 2) (guardedW rec t)
  else if t.kind == kLocal then ifW (namedT t && t.kids.length == 1) (semiW (declaredW false t))
  else if t.kind == kCall then semiW (callW rec t)
  else if t.kind == kReturn then ifW (bareT t && decide (t.kids.length ≤ 1)) (semiW (catW (some [kReturn]) (commasW (rec .expr) t.kids)))
  else if t.kind == kAssert || t.kind == kAssume then
    match t.kids with
    | [e] => ifW (bareT t) (semiW (catW (some [t.kind, [40]]) (catW (rec .expr e) (some [[41]]))))
    | _ => none
  else semiW (giftW rec t)
def blockW (t : Tree) : Ws := ifW (t.kind == kBlock && bareT t) (catW (some [[123]]) (catW (manyW (stmtW rec) t.kids) (some [[125]])))
def stepW : WT → Tree → Ws
  | .block => blockW rec
  | .expr => exprW rec
def functionW (t : Tree) : Ws :=
  match t.kids with
  | _ :: v :: r => ifW (namedT t) (catW (declaredW true t) (catW (some [[40]]) (catW (commasW paramW ((v :: r).dropLast)) (catW (some [[41]]) (rec .block ((v :: r).getLast (List.cons_ne_nil v r)))))))
  | _ => none
end
def runW : Nat → WT → Tree → Ws
  | 0, _, _ => none
  | n + 1, x, t => stepW (runW n) x t
def globalW (t : Tree) : Ws :=
  ifW (t.kind == kGlobal && namedT t) <| match t.kids with
  | [_] => semiW (declaredW false t)
  | [_, m] => semiW (catW (declaredW false t) (catW (some [[91]]) (catW (numberW m) (some [[93]]))))
  | _ => none
def programW (n : Nat) (t : Tree) : Ws := ifW (t.kind == kProgram && bareT t) (manyW (fun k => if k.kind == kFunc then functionW (runW n) k else globalW k) t.kids)

theorem catW_some {a b : Ws} {ws : List (List UInt8)} (h : catW a b = some ws) : ∃ x y, a = some x ∧ b = some y ∧ ws = x ++ y := by
  cases a with
  | none => simp [catW] at h
  | some x =>
    cases b with
    | none => simp [catW] at h
    | some y => exact ⟨x, y, rfl, rfl, by simpa [catW, eq_comm] using h⟩
theorem ifW_some {b : Bool} {a : Ws} {ws : List (List UInt8)} (h : ifW b a = some ws) : b = true ∧ a = some ws := by
  unfold ifW at h
  split at h
  · rename_i hb; exact ⟨hb, h⟩
  · simp at h

/-! ### Trees whose words and numbers are no greater than a program's -/
mutual
def Neat : Tree → Prop
  | .mk k x m _ _ kids => k.length ≤ 1000000 ∧ x.length ≤ 1000000 ∧ 0 ≤ m ∧ m < 18446744073709551616 ∧ kids.length ≤ 1000000 ∧ NeatL kids
def NeatL : List Tree → Prop
  | [] => True
  | t :: r => Neat t ∧ NeatL r
end
theorem NeatL.mem : ∀ {l : List Tree}, NeatL l → ∀ t ∈ l, Neat t
  | _ :: _, h, t, ht => by
    rcases List.mem_cons.1 ht with rfl | ht
    · exact h.1
    · exact NeatL.mem h.2 t ht
  | [], _, t, ht => by simp at ht
theorem NeatL.of : ∀ {l : List Tree}, (∀ t ∈ l, Neat t) → NeatL l
  | [], _ => trivial
  | t :: r, h => ⟨h t (by simp), NeatL.of (fun u hu => h u (by simp [hu]))⟩

/-! ### The writer in memory -/
def strVs (l : List (List UInt8)) : List Value := l.map fun x => .string ⟨x.toArray⟩
/-- Blocks below B, and blocks that hold no words but B, stay as they are. -/
structure Keep (B : Nat) (w w' : World) : Prop where
  below : Below B w w'
  high : ∀ k cs T fr, k ≠ B → T ≠ 9 → w.heap[k]? = some (.cells cs T fr) → w'.heap[k]? = some (.cells cs T fr)
theorem Keep.refl (B : Nat) (w : World) : Keep B w w := ⟨Below.refl _ _, fun _ _ _ _ _ _ h => h⟩
theorem Keep.trans {B : Nat} {u v w : World} (h : Keep B u v) (k : Keep B v w) : Keep B u w := ⟨h.below.trans k.below, fun i cs T fr h1 h2 h3 => k.high i cs T fr h1 h2 (h.high i cs T fr h1 h2 h3)⟩
theorem Keep.of_below {B : Nat} {w w' : World} (h : Below w.heap.size w w') (hB : B ≤ w.heap.size) : Keep B w w' := by
  refine ⟨h.mono hB, fun k cs T fr _ _ h3 => ?_⟩
  have hk : k < w.heap.size := by
    rcases Nat.lt_or_ge k w.heap.size with h' | h'
    · exact h'
    · simp [Array.getElem?_eq_none h'] at h3
  rw [h.block k hk]; exact h3
theorem Keep.alloc {B : Nat} {w w' : World} (h : Keep B w w') (hB : B ≤ w.heap.size) (o : Obj) : Keep B w (w'.alloc o) := h.trans (Keep.of_below ((Below.refl _ _).alloc (Nat.le_refl _) o) (Nat.le_trans hB h.below.size))
theorem Keep.drew {B : Nat} {w w' : World} (h : Keep B w w') (hB : B ≤ w.heap.size) : Keep B w w'.drew := h.trans (Keep.of_below (Below.refl _ _).drew (Nat.le_trans hB h.below.size))
end Go.Proofs.YtnalgnklgmoepaaGreatDoor
