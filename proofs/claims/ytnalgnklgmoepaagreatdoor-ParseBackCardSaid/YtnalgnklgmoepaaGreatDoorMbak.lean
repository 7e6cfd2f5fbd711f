/- The deferred closure of tree. The contract of tree. The contracts of Parse and Read. The contract of Read. -/
import Derived.Recover
import Derived.Defers
import Derived.RegionTactic
import Derived.Test.YtnalgnklgmoepaaGreatDoorMbaj
set_option linter.all false
namespace Go.Proofs.YtnalgnklgmoepaaGreatDoor
open Go Go.RowKit

set_option maxRecDepth 100000 in
theorem catch_idle (p q : Addr) (w : World) :
    CallsD Tryz.prog 47 #[.pointer (some p), .pointer (some q)] .returning w fun e u' w' => e = .returned (.tuple #[]) ∧ u' = .returning ∧ w' = w := by
  refine callsD_of_wpS Tryz.func47 rfl fun c₀ cs hu => ?_
  apply wpS_seq
  apply wpS_region
  simp [wpOpsS, go_sem, recoverD, hu, Tryz.ntmps47, Exit.thenS]
  refine wpS_of_wp ?_
  change Code.wp _ _ _ { tmps := #[.pointer (some p), .pointer (some q), .nilIface, .nilIface, undef, undef, undef, undef, undef], defers := [] } w
  generalize hQ : (fun e a' w' => bodyPostS Tryz.prog Tryz.f47 c₀ cs (fun e u' w' => e = Ending.returned (.tuple #[]) ∧ u' = FrameMode.returning ∧ w' = w) e a' (c₀ :: cs) w') = Q
  go_wp2
  rw [← hQ]
  refine ⟨rfl, .returning, ?_, .tuple #[], by simp [results, Tryz.results47], rfl, rfl, rfl⟩
  cases c₀
  simp_all
theorem assert_fault (v : Value) (w : World) : (Instr.typeAssert (.iface 69 v) 20 69 false).run Tryz.prog w = .ok v w := by kernel_rfl
/-- What the closure leaves behind a panic. -/
def Caught (b c : Nat) (ln co code : Int) (w w' : World) : Prop :=
  LNode b [] [] 0 0 0 (.slice none 0 0) w' ∧ w'.cell? ⟨c, 0, none⟩ = some (.int .i64 ln) ∧ w'.cell? ⟨c, 1, none⟩ = some (.int .i64 co) ∧ w'.cell? ⟨c, 2, none⟩ = some (.int .i64 code) ∧ ∀ (w0 : World) (r : Option Nat), w0.grownBy w r → w0.heap.size ≤ b → w0.heap.size ≤ c → w0.grownBy w' r
theorem LNode.zset {b : Nat} {w : World} (h : LNode b [] [] 0 0 0 (.slice none 0 0) w) {c : Nat} (hne : ¬ b = c) (o : Nat) (v : Value) : LNode b [] [] 0 0 0 (.slice none 0 0) (w.setCell ⟨c, o, none⟩ v) := h.grown (grown_setB w c o v) (by simpa using hne)
theorem zsix {b : Nat} {w : World} (h : LNode b [] [] 0 0 0 (.slice none 0 0) w) : LNode b [] [] 0 0 0 (.slice none 0 0) (six w b (.string ⟨#[]⟩) (.string ⟨#[]⟩) (.int .u64 0) (.int .i64 0) (.int .i64 0) (.slice none 0 0)) := by
  have h0 := h.c0; have h1 := h.c1; have h2 := h.c2; have h3 := h.c3; have h4 := h.c4; have h5 := h.c5; have hf := h.f
  unfold six
  constructor
  case f => intro k hk; have := hf k hk; simp [go_sem, *]
  all_goals simp [go_sem, *]
theorem caught_any {b c : Nat} {ln co code x y z : Int} {w : World} (hb : LNode b [] [] 0 0 0 (.slice none 0 0) w) (hne : ¬ b = c) (hc0 : w.cell? ⟨c, 0, none⟩ = some (.int .i64 x)) (hc1 : w.cell? ⟨c, 1, none⟩ = some (.int .i64 y)) (hc2 : w.cell? ⟨c, 2, none⟩ = some (.int .i64 z)) :
    Caught b c ln co code w ((((six w b (.string ⟨#[]⟩) (.string ⟨#[]⟩) (.int .u64 0) (.int .i64 0) (.int .i64 0) (.slice none 0 0)).setCell ⟨c, 0, none⟩ (.int .i64 ln)).setCell ⟨c, 1, none⟩ (.int .i64 co)).setCell ⟨c, 2, none⟩ (.int .i64 code)).drew := by
  have hg := six_own w b (.string ⟨#[]⟩) (.string ⟨#[]⟩) (.int .u64 0) (.int .i64 0) (.int .i64 0) (.slice none 0 0)
  have d0 := hg.cell hc0 (by simp; omega)
  have d1 := hg.cell hc1 (by simp; omega)
  have d2 := hg.cell hc2 (by simp; omega)
  refine ⟨((((zsix hb).zset hne _ _).zset hne _ _).zset hne _ _).below (Below.refl _ _).drew, ?_, ?_, ?_, fun w0 r h h1 h2 => ?_⟩
  · simp [go_sem, *]
  · simp [go_sem, *]
  · simp [go_sem, *]
  · exact grown_drew (grown_new (grown_new (grown_new (grown_six h h1 _ _ _ _ _ _) h2 _ _) h2 _ _) h2 _ _)
set_option maxRecDepth 100000 in
theorem catch_panicking (b c : Nat) (ln co code x y z : Int) (w : World) (hb : LNode b [] [] 0 0 0 (.slice none 0 0) w) (hc0 : w.cell? ⟨c, 0, none⟩ = some (.int .i64 x)) (hc1 : w.cell? ⟨c, 1, none⟩ = some (.int .i64 y)) (hc2 : w.cell? ⟨c, 2, none⟩ = some (.int .i64 z)) (hf0 : w.frozen? ⟨c, 0, none⟩ = false) (hf1 : w.frozen? ⟨c, 1, none⟩ = false) (hf2 : w.frozen? ⟨c, 2, none⟩ = false) (hne : ¬ b = c) :
    CallsD Tryz.prog 47 #[.pointer (some ⟨b, 0, none⟩), .pointer (some ⟨c, 0, none⟩)] (.panicking [{ v := faultV ln co code, recovered := false }]) w fun e u' w' =>
      e = .returned (.tuple #[]) ∧ u' = .panicking [{ v := faultV ln co code, recovered := true }] ∧ Caught b c ln co code w w' := by
  unfold faultV
  refine callsD_of_wpS Tryz.func47 rfl fun c₀ cs hu => ?_
  apply wpS_seq
  apply wpS_region
  simp [wpOpsS, go_sem, recoverD, hu, Tryz.ntmps47, Exit.thenS]
  refine wpS_of_wp ?_
  change Code.wp _ _ _ { tmps := #[.pointer (some ⟨b, 0, none⟩), .pointer (some ⟨c, 0, none⟩), .iface 69 (.agg #[.int .i64 ln, .int .i64 co, .int .i64 code]), .iface 69 (.agg #[.int .i64 ln, .int .i64 co, .int .i64 code]), undef, undef, undef, undef, undef], defers := [] } w
  have r0 := hb.c0; have r1 := hb.c1; have r2 := hb.c2; have r3 := hb.c3; have r4 := hb.c4; have r5 := hb.c5
  have g0 := hb.f 0 (by omega); have g1 := hb.f 1 (by omega); have g2 := hb.f 2 (by omega); have g3 := hb.f 3 (by omega); have g4 := hb.f 4 (by omega); have g5 := hb.f 5 (by omega)
  have hta := assert_fault
  go_wp2
  go_region
  exact ⟨rfl, .panicking [{ v := .iface 69 (.agg #[.int .i64 ln, .int .i64 co, .int .i64 code]), recovered := true }], rfl, .tuple #[], by simp [results, Tryz.results47], rfl, rfl, caught_any hb hne hc0 hc1 hc2⟩
end Go.Proofs.YtnalgnklgmoepaaGreatDoor
namespace Go.Proofs.YtnalgnklgmoepaaGreatDoor
open Go Go.RowKit

/-- Tokens as Lex hands them out, and the tables. -/
structure TksAt (T c : Nat) (l : List Tok) (w : World) : Prop where
  row : RowAt T l w
  lt : T < w.heap.size
  ends : EndsOk l
  hc : l.length ≤ c
  hm : c ≤ maxLen
  hl : l.length ≤ 70000
  ht : ∀ t ∈ l, t.text.length ≤ 65536
  tab : Tabs w.heap.size w
def zeroN : Value := .agg #[.string ⟨#[]⟩, .string ⟨#[]⟩, .int .u64 0, .int .i64 0, .int .i64 0, .slice none 0 0]
def TreePost (w : World) (p : PR Tree) (e : Ending) (w' : World) : Prop :=
  match p with
  | .ok t _ => ∃ v, e = .returned (.tuple #[nodeV t v, .agg #[.int .i64 0, .int .i64 0, .int .i64 0]]) ∧ Build w' w.heap.size t.kids v ∧ Below w.heap.size w w'
  | .bad ln c code => e = .returned (.tuple #[zeroN, .agg #[.int .i64 ln, .int .i64 c, .int .i64 code]]) ∧ Below w.heap.size w w'
  | .out => True
theorem grown_below' {w0 w1 w' : World} {B : Nat} (h : Below w0.heap.size w0 w1) (hg : w1.grownBy w' (some B)) (hB : w0.heap.size ≤ B) : Below w0.heap.size w0 w' := h.grown hg h.size (fun k e => by cases e; exact hB)

def treeW (T c : Nat) (l : List Tok) (w : World) : World :=
  ((w.alloc (.cells #[.string ⟨#[]⟩, .string ⟨#[]⟩, .int .u64 0, .int .i64 0, .int .i64 0, .slice none 0 0] 26)).alloc (.cells #[.int .i64 0, .int .i64 0, .int .i64 0] 69)).alloc (.cells #[.slice (some ⟨T, 0, none⟩) l.length c, .int .i64 0] 91)
theorem tree_below (T c : Nat) (l : List Tok) (w : World) : Below w.heap.size w (treeW T c l w) :=
  (((Below.refl _ _).alloc (Nat.le_refl _) _).alloc (by simp) _).alloc (by simp; omega) _
theorem tree_ps {T c : Nat} {l : List Tok} {w : World} (h : TksAt T c l w) : PsAt (w.heap.size + 1 + 1) l 0 (treeW T c l w) := by
  have hb := tree_below T c l w
  refine ⟨w.heap.size, T, 0, c, ?_, ?_, ?_, ?_, fun k hk => ?_, h.ends, by have := h.lt; omega, h.hc, h.hm, h.hl, h.ht, by omega, h.tab.under hb, by omega⟩
  · simp [treeW, go_sem]
  · simp [treeW, go_sem]
  · simp [treeW, go_sem]
  · simp [treeW, go_sem]
  · rw [Nat.zero_add]
    exact (h.row k hk).below hb h.lt
theorem tree_node (T c : Nat) (l : List Tok) (w : World) : LNode w.heap.size [] [] 0 0 0 (.slice none 0 0) (treeW T c l w) := ((LNode.new [] [] 0 0 0 (.slice none 0 0) w).alloc _).alloc _
/-- A variable that holds a fault. -/
structure LFault (b : Nat) (x y z : Int) (w : World) : Prop where
  c0 : w.cell? ⟨b, 0, none⟩ = some (.int .i64 x)
  c1 : w.cell? ⟨b, 1, none⟩ = some (.int .i64 y)
  c2 : w.cell? ⟨b, 2, none⟩ = some (.int .i64 z)
  f : ∀ k, k < 3 → w.frozen? ⟨b, k, none⟩ = false
theorem LFault.grown {b : Nat} {x y z : Int} {w w' : World} {r : Option Nat} (h : LFault b x y z w) (hg : w.grownBy w' r) (hne : some b ≠ r) : LFault b x y z w' :=
  ⟨hg.cell h.c0 hne, hg.cell h.c1 hne, hg.cell h.c2 hne, fun k hk => (World.frozen?_of_block (hg.block b (cell_lt h.c0) hne)).trans (h.f k hk)⟩
theorem tree_fault (T c : Nat) (l : List Tok) (w : World) : LFault (w.heap.size + 1) 0 0 0 (treeW T c l w) := by
  constructor
  case f => intro k hk; simp [treeW, go_sem]
  all_goals simp [treeW, go_sem]

set_option maxHeartbeats 4000000 in
set_option maxRecDepth 100000 in
theorem tree_any (n : Nat) (hp : Does 48 (fun p => #[p]) 0 (programP n)) (T c : Nat) (l : List Tok) (w : World) (h : TksAt T c l w) (hno : programP n l ≠ .out) :
    Calls Tryz.prog 31 #[.slice (some ⟨T, 0, none⟩) l.length c] w (TreePost w (programP n l)) := by
  have hmf := makeFunc_run
  have HP := Lib.hid hp
  have HNO := Lib.hid hno
  have HT := Lib.hid h
  clear h hno hp
  go_enter_defers Tryz.func31, Tryz.ntmps31
  go_wp2_with fail
  refine (HP.out (w.heap.size + 1 + 1) l (treeW T c l w) (tree_ps HT.out) HNO.out).mono ?_
  intro e w1 hq
  rcases hq.cases HNO.out with ⟨t1, l1, q1, n1, c1, he1, rfl, hb1, hP1, hg1⟩ | ⟨ln, co, code, he1, rfl, hg1⟩
  · have hN := (tree_node T c l w).grown hg1 (by simp; omega)
    have hF := (tree_fault T c l w).grown hg1 (by simp)
    have HB := Lib.hid hb1
    have HE := Lib.hid he1
    have HG := Lib.hid (grown_below' (tree_below T c l w) hg1 (by omega))
    have r0 := hN.c0; have r1 := hN.c1; have r2 := hN.c2; have r3 := hN.c3; have r4 := hN.c4; have r5 := hN.c5
    have g0 := hN.f 0 (by omega); have g1 := hN.f 1 (by omega); have g2 := hN.f 2 (by omega); have g3 := hN.f 3 (by omega); have g4 := hN.f 4 (by omega); have g5 := hN.f 5 (by omega)
    have s0 := hF.c0; have s1 := hF.c1; have s2 := hF.c2; have k0 := hF.f 0 (by omega); have k1 := hF.f 1 (by omega); have k2 := hF.f 2 (by omega)
    have hsz := hN.lt
    clear hN hF hb1 hP1 hg1 he1 hq HP HT
    unfold nodeV
    go_wp2
    refine leaves_cons (f := 47) (args := #[.pointer (some ⟨w.heap.size, 0, none⟩), .pointer (some ⟨w.heap.size + 1, 0, none⟩)]) (by simp) (by simp [go_sem]) ?_
    refine (catch_idle ⟨w.heap.size, 0, none⟩ ⟨w.heap.size + 1, 0, none⟩ _).mono ?_
    rintro e u' w2 ⟨rfl, rfl, rfl⟩
    refine ⟨.tuple #[nodeV t1 (.slice q1 n1 c1), .agg #[.int .i64 0, .int .i64 0, .int .i64 0]], by simp [results, Tryz.results31, go_sem, nodeV, *], ?_⟩
    rw [HE.out]
    have hs3 : (treeW T c l w).heap.size = w.heap.size + 3 := by simp [treeW]
    have hb := HB.out
    rw [hs3] at hb
    have h1 := hb.six (k := w.heap.size) (by omega) (.string ⟨t1.kind.toArray⟩) (.string ⟨t1.text.toArray⟩) (.int .u64 t1.num) (.int .i64 t1.line) (.int .i64 t1.col) (.slice q1 n1 c1)
    have h2 := ((h1.grown (grown_setB _ (w.heap.size + 1) 0 (.int .i64 0)) (fun j e => by cases e; exact .inl (by omega))).grown (grown_setB _ (w.heap.size + 1) 1 (.int .i64 0)) (fun j e => by cases e; exact .inl (by omega))).grown (grown_setB _ (w.heap.size + 1) 2 (.int .i64 0)) (fun j e => by cases e; exact .inl (by omega))
    refine ⟨_, rfl, h2.mono (by omega), grown_none ?_⟩
    have hle := Nat.le_refl w.heap.size
    have hls : w.heap.size ≤ w.heap.size + 1 := by omega
    exact grown_new (grown_new (grown_new (grown_six (below_grown HG.out none) hle _ _ _ _ _ _) hls _ _) hls _ _) hls _ _
  · have hN := (tree_node T c l w).grown hg1 (by simp; omega)
    have hF := (tree_fault T c l w).grown hg1 (by simp)
    have hG := grown_below' (tree_below T c l w) hg1 (by omega)
    refine leaves_cons (f := 47) (args := #[.pointer (some ⟨w.heap.size, 0, none⟩), .pointer (some ⟨w.heap.size + 1, 0, none⟩)]) (by simp) (by simp [go_sem]) ?_
    refine (catch_panicking w.heap.size (w.heap.size + 1) ln co code 0 0 0 w1 hN hF.c0 hF.c1 hF.c2 (hF.f 0 (by omega)) (hF.f 1 (by omega)) (hF.f 2 (by omega)) (by omega)).mono ?_
    rintro e u' w2 ⟨rfl, rfl, hC⟩
    have c0 := hC.1.c0; have c1 := hC.1.c1; have c2 := hC.1.c2; have c3 := hC.1.c3; have c4 := hC.1.c4; have c5 := hC.1.c5
    have d0 := hC.2.1; have d1 := hC.2.2.1; have d2 := hC.2.2.2.1
    have hG2 : Below w.heap.size w w2 := grown_none (hC.2.2.2.2 w none (below_grown hG none) (Nat.le_refl _) (by omega))
    show Leaves _ _ _ _ [] FrameMode.returning w2
    refine ⟨.tuple #[zeroN, .agg #[.int .i64 ln, .int .i64 co, .int .i64 code]], by simp [results, Tryz.results31, go_sem, zeroN, *], ?_⟩
    rw [he1]
    exact ⟨rfl, hG2⟩
end Go.Proofs.YtnalgnklgmoepaaGreatDoor
namespace Go.Proofs.YtnalgnklgmoepaaGreatDoor
open Go Go.RowKit

def ParsePost (w : World) (p : PR Tree) (e : Ending) (w' : World) : Prop :=
  match p with
  | .ok t _ => ∃ v, e = .returned (.tuple #[nodeV t v, .int .i64 0, .int .i64 0, .int .i64 0]) ∧ Build w' w.heap.size t.kids v ∧ Below w.heap.size w w'
  | .bad ln c code => e = .returned (.tuple #[zeroN, .int .i64 ln, .int .i64 c, .int .i64 code]) ∧ Below w.heap.size w w'
  | .out => True

set_option maxHeartbeats 4000000 in
set_option maxRecDepth 100000 in
theorem parse_any (n : Nat) (hp : Does 48 (fun p => #[p]) 0 (programP n)) (T c : Nat) (l : List Tok) (w : World) (h : TksAt T c l w) (hno : programP n l ≠ .out) :
    Calls Tryz.prog 19 #[.slice (some ⟨T, 0, none⟩) l.length c] w (ParsePost w (programP n l)) := by
  have ha := (Below.refl w.heap.size w).alloc (Nat.le_refl _) zero6
  have h1 : TksAt T c l (w.alloc zero6) := ⟨h.row.below ha h.lt, by simp; have := h.lt; omega, h.ends, h.hc, h.hm, h.hl, h.ht, by
    have := h.tab.under ha
    obtain ⟨a1, a2, ⟨b, off, cap, h2, h3⟩, ⟨b', off', cap', h4, h5⟩⟩ := this
    exact ⟨by simp; omega, Nat.le_refl _, ⟨b, off, cap, h2, by simp; omega⟩, ⟨b', off', cap', h4, by simp; omega⟩⟩⟩
  have H := Lib.hid (tree_any n hp T c l _ h1 hno)
  have HA := Lib.hid ha
  have HNO := Lib.hid hno
  have HR := Lib.hid (LNode.new [] [] 0 0 0 (.slice none 0 0) w)
  clear h h1 hno hp ha
  unfold zero6 at *
  go_enter Tryz.func19, Tryz.ntmps19
  go_wp2_with fail
  refine (H.out).mono ?_
  intro e w1 hq
  cases hr : programP n l with
  | out => exact absurd hr HNO.out
  | ok t l' =>
    rw [hr] at hq
    obtain ⟨v, rfl, hb, hB⟩ := hq
    obtain ⟨q, vn, vc, rfl⟩ := hb.shape
    have hR := HR.out.below hB
    have HB := Lib.hid hb
    have HG := Lib.hid hB
    have r0 := hR.c0; have r1 := hR.c1; have r2 := hR.c2; have r3 := hR.c3; have r4 := hR.c4; have r5 := hR.c5
    have g0 := hR.f 0 (by omega); have g1 := hR.f 1 (by omega); have g2 := hR.f 2 (by omega); have g3 := hR.f 3 (by omega); have g4 := hR.f 4 (by omega); have g5 := hR.f 5 (by omega)
    have hsz := hR.lt
    clear hR hb hB H HR
    unfold nodeV
    go_wp2
    go_region
    go_wp2
    refine bodyPost_ret (v := .tuple #[nodeV t (.slice q vn vc), .int .i64 0, .int .i64 0, .int .i64 0]) (by simp [results, Tryz.results19, go_sem, nodeV, *]) rfl ?_
    rw [hr]
    have hb2 : Build w1 (w.heap.size + 1) t.kids (.slice q vn vc) := by simpa using HB.out
    refine ⟨_, rfl, Build.mono (Build.below (((hb2.six (Nat.lt_succ_self _) _ _ _ _ _ _).alloc _).alloc _) (Below.refl _ _).drew) (by omega), grown_none (grown_drew (grown_alloc (grown_alloc (grown_six (below_grown (HA.out.trans (HG.out.mono HA.out.size)) none) (Nat.le_refl _) _ _ _ _ _ _) _) _))⟩
  | bad ln co code =>
    rw [hr] at hq
    obtain ⟨rfl, hB⟩ := hq
    have hR := HR.out.below hB
    have HG := Lib.hid hB
    have r0 := hR.c0; have r1 := hR.c1; have r2 := hR.c2; have r3 := hR.c3; have r4 := hR.c4; have r5 := hR.c5
    have g0 := hR.f 0 (by omega); have g1 := hR.f 1 (by omega); have g2 := hR.f 2 (by omega); have g3 := hR.f 3 (by omega); have g4 := hR.f 4 (by omega); have g5 := hR.f 5 (by omega)
    have hsz := hR.lt
    clear hR hB H HR
    unfold zeroN
    go_wp2
    go_region
    go_wp2
    refine bodyPost_ret (v := .tuple #[zeroN, .int .i64 ln, .int .i64 co, .int .i64 code]) (by simp [results, Tryz.results19, go_sem, zeroN, *]) rfl ?_
    rw [hr]
    exact ⟨rfl, grown_none (grown_drew (grown_alloc (grown_alloc (grown_six (below_grown (HA.out.trans (HG.out.mono HA.out.size)) none) (Nat.le_refl _) _ _ _ _ _ _) _) _))⟩
end Go.Proofs.YtnalgnklgmoepaaGreatDoor
namespace Go.Proofs.YtnalgnklgmoepaaGreatDoor
open Go Go.RowKit

/-- The tokens that Lex tells end as they should. -/
theorem skipF_len (n : Nat) (l : List UInt8) (ln c : Int) : (skipF n l ln c).1.length ≤ l.length := skipF_le n l ln c
theorem tokT_text {l : List UInt8} {ln c : Int} (h : tokE l = 0) : (tokT l ln c).text ≠ [] ∧ (tokT l ln c).text.length ≤ l.length := by
  have hp := tok_pos h
  have hl := first_le l
  refine ⟨fun e => ?_, ?_⟩
  · have : (tokT l ln c).text.length = 0 := by rw [e]; rfl
    simp only [tokT, List.length_take] at this
    omega
  · simp only [tokT, List.length_take]
    omega
theorem lexF_ends : ∀ (n : Nat) (l : List UInt8) (ln c : Int) (ts : List Tok), lexF n l ln c = .ok ts → EndsOk ts ∧ ts.length ≤ l.length + 1 ∧ ∀ t ∈ ts, t.text.length ≤ l.length := by
  intro n
  induction n with
  | zero => intro l ln c ts h; simp [lexF] at h; try (subst h; simp)
  | succ n ih =>
    intro l ln c ts h
    rw [lexF] at h
    have hk := skipF_le l.length l ln c
    generalize skipF l.length l ln c = s at *
    by_cases h1 : s.1 = []
    · simp only [h1, if_true] at h
      injection h with h
      subst h
      exact ⟨⟨rfl, rfl⟩, by simp, by simp⟩
    · by_cases h2 : tokE s.1 = 0
      · simp only [if_neg h1, if_pos h2] at h
        have hp := tok_pos h2
        have hle := first_le s.1
        have htt := tokT_text (ln := s.2.1) (c := s.2.2) h2
        generalize hr : lexF n (s.1.drop (firstN s.1)) _ _ = r at h
        cases r with
        | bad a b d => simp [Res.cons] at h
        | ok us =>
          simp only [Res.cons] at h
          injection h with h
          subst h
          obtain ⟨h3, h4, h5⟩ := ih _ _ _ _ hr
          rw [List.length_drop] at h4 h5
          refine ⟨?_, by simp; omega, fun t ht => ?_⟩
          · obtain ⟨u, us', rfl⟩ := h3.ne
            exact ⟨htt.1, h3⟩
          · rcases List.mem_cons.1 ht with rfl | ht
            · omega
            · have := h5 t ht; omega
      · simp only [if_neg h1, if_neg h2] at h
        cases h
theorem lexG_ends {l : List UInt8} {ts : List Tok} (h : lexG l 1 1 = .ok ts) : EndsOk ts ∧ ts.length ≤ l.length + 1 ∧ ∀ t ∈ ts, t.text.length ≤ l.length := lexF_ends _ _ _ _ _ h
theorem lexF_bad : ∀ (n : Nat) (l : List UInt8) (ln c a b code : Int), l.length < n → lexF n l ln c = .bad a b code → code = 20 ∨ code = 21 := by
  intro n
  induction n with
  | zero => intro l ln c a b code hn; omega
  | succ n ih =>
    intro l ln c a b code hn h
    rw [lexF] at h
    have hk := skipF_le l.length l ln c
    generalize skipF l.length l ln c = s at *
    by_cases h1 : s.1 = []
    · simp only [h1, if_true] at h
      cases h
    · by_cases h2 : tokE s.1 = 0
      · simp only [if_neg h1, if_pos h2] at h
        have hp := tok_pos h2
        have hle := first_le s.1
        generalize hr : lexF n (s.1.drop (firstN s.1)) _ _ = r at h
        cases r with
        | ok us => simp [Res.cons] at h
        | bad x y d =>
          simp only [Res.cons] at h
          injection h with e1 e2 e3
          subst e3
          exact ih _ _ _ _ _ _ (by rw [List.length_drop]; omega) hr
      · simp only [if_neg h1, if_neg h2] at h
        injection h with e1 e2 e3
        rw [← e3]
        exact tokE_ne h2
/-- Read as a plain function. -/
def readP (n : Nat) (s : List UInt8) : PR Tree :=
  match lexG s 1 1 with
  | .bad ln c code => .bad ln c code
  | .ok l => programP n l
def Tab3 (w : World) : Prop := Tabs w.heap.size w ∧ Signs w
theorem Tab3.below {w w' : World} (h : Tab3 w) (hb : Below w.heap.size w w') : Tab3 w' := by
  refine ⟨?_, h.2.below hb⟩
  obtain ⟨a1, a2, ⟨b, off, cap, h2, h3⟩, ⟨b', off', cap', h4, h5⟩⟩ := h.1.under hb
  have := hb.size
  exact ⟨by omega, Nat.le_refl _, ⟨b, off, cap, h2, by omega⟩, ⟨b', off', cap', h4, by omega⟩⟩

set_option maxHeartbeats 4000000 in
set_option maxRecDepth 100000 in
theorem read_any (n : Nat) (hp : Does 48 (fun p => #[p]) 0 (programP n)) (s : ByteArray) (w : World) (hs : s.size ≤ 65536) (ht : Tab3 w) (hno : readP n s.data.toList ≠ .out) :
    Calls Tryz.prog 8 #[.string s] w (ParsePost w (readP n s.data.toList)) := by
  have ha := (Below.refl w.heap.size w).alloc (Nat.le_refl _) zero6
  have H := Lib.hid (lex_any s _ hs (ht.below ha).2)
  have HT := Lib.hid (ht.below ha)
  have HA := Lib.hid ha
  have HNO := Lib.hid hno
  have HP := Lib.hid hp
  have HR := Lib.hid (LNode.new [] [] 0 0 0 (.slice none 0 0) w)
  clear ht hno hp ha
  unfold zero6 at *
  go_enter Tryz.func8, Tryz.ntmps8
  go_wp2_with fail
  refine (H.out).mono ?_
  intro e w1 hq
  unfold LexPost at hq
  cases hr : lexG s.data.toList 1 1 with
  | bad ln co code =>
    rw [hr] at hq
    obtain ⟨rfl, hB⟩ := hq
    have hres : readP n s.data.toList = .bad ln co code := by simp [readP, hr]
    have hcode := lexF_bad _ _ _ _ _ _ _ (by omega) hr
    have hcb : (code != 0) = true := by rcases hcode with rfl | rfl <;> rfl
    have hR := HR.out.below hB
    have HG := Lib.hid hB
    have HRS := Lib.hid hres
    have r0 := hR.c0; have r1 := hR.c1; have r2 := hR.c2; have r3 := hR.c3; have r4 := hR.c4; have r5 := hR.c5
    have g0 := hR.f 0 (by omega); have g1 := hR.f 1 (by omega); have g2 := hR.f 2 (by omega); have g3 := hR.f 3 (by omega); have g4 := hR.f 4 (by omega); have g5 := hR.f 5 (by omega)
    have hsz := hR.lt
    clear hR hB H HR hres hcode
    go_wp2
    refine bodyPost_ret (v := .tuple #[zeroN, .int .i64 ln, .int .i64 co, .int .i64 code]) (by simp [results, Tryz.results8, go_sem, zeroN, *]) rfl ?_
    rw [HRS.out]
    exact ⟨rfl, grown_none (grown_six (below_grown (HA.out.trans (HG.out.mono HA.out.size)) none) (Nat.le_refl _) _ _ _ _ _ _)⟩
  | ok l =>
    rw [hr] at hq
    obtain ⟨v, rfl, hown, hB⟩ := hq
    obtain ⟨hend, hlen, htx⟩ := lexG_ends hr
    have hres : readP n s.data.toList = programP n l := by simp [readP, hr]
    obtain ⟨g, cap, rfl, hg, hgl, hcap, hrow⟩ := row_parts hown (by obtain ⟨t, r, rfl⟩ := hend.ne; simp)
    have hcm : cap ≤ maxLen := by
      rcases hown.2 with ⟨h, _⟩ | ⟨g', cap', cur, h, _, _, _, h6, _⟩
      · cases h
      · injection h with h1 h2 h3; subst h3; exact h6
    have hT1 := HT.out.below hB
    have hs1 : s.data.toList.length ≤ 65536 := by rw [← size_len]; exact hs
    have HK : TksAt g cap l w1 := ⟨hrow, hgl, hend, hcap, hcm, by omega, fun t h => by have := htx t h; omega, hT1.1⟩
    have HC := Lib.hid (parse_any n HP.out g cap l w1 HK (by rw [← hres]; exact HNO.out))
    have HRS := Lib.hid hres
    have HG := Lib.hid hB
    have HR1 := Lib.hid (HR.out.below hB)
    have HN2 := Lib.hid (show programP n l ≠ .out by rw [← hres]; exact HNO.out)
    clear hown hB hend hlen htx hres hrow HK hT1 H hcm hs1
    go_wp2_with fail
    refine (HC.out).mono ?_
    intro e w2 hq
    cases hr2 : programP n l with
    | out => exact absurd hr2 HN2.out
    | ok t l' =>
      rw [hr2] at hq
      obtain ⟨v, rfl, hb, hB2⟩ := hq
      obtain ⟨q, vn, vc, rfl⟩ := hb.shape
      have hR := HR1.out.below hB2
      have HB := Lib.hid hb
      have HG2 := Lib.hid hB2
      have r0 := hR.c0; have r1 := hR.c1; have r2 := hR.c2; have r3 := hR.c3; have r4 := hR.c4; have r5 := hR.c5
      have g0 := hR.f 0 (by omega); have g1 := hR.f 1 (by omega); have g2 := hR.f 2 (by omega); have g3 := hR.f 3 (by omega); have g4 := hR.f 4 (by omega); have g5 := hR.f 5 (by omega)
      have hsz := hR.lt
      clear hR hb hB2 HC HR HR1
      unfold nodeV
      go_wp2
      refine bodyPost_ret (v := .tuple #[nodeV t (.slice q vn vc), .int .i64 0, .int .i64 0, .int .i64 0]) (by simp [results, Tryz.results8, go_sem, nodeV, *]) rfl ?_
      rw [HRS.out, hr2]
      have hlo : w.heap.size + 1 ≤ w1.heap.size := by have := HG.out.size; simpa using this
      exact ⟨_, rfl, ((HB.out.mono hlo).six (Nat.lt_succ_self _) _ _ _ _ _ _).mono (by omega), grown_none (grown_six (below_grown ((HA.out.trans (HG.out.mono HA.out.size)).trans (HG2.out.mono (Nat.le_trans HA.out.size HG.out.size))) none) (Nat.le_refl _) _ _ _ _ _ _)⟩
    | bad ln co code =>
      rw [hr2] at hq
      obtain ⟨rfl, hB2⟩ := hq
      have hR := HR1.out.below hB2
      have HG2 := Lib.hid hB2
      have r0 := hR.c0; have r1 := hR.c1; have r2 := hR.c2; have r3 := hR.c3; have r4 := hR.c4; have r5 := hR.c5
      have g0 := hR.f 0 (by omega); have g1 := hR.f 1 (by omega); have g2 := hR.f 2 (by omega); have g3 := hR.f 3 (by omega); have g4 := hR.f 4 (by omega); have g5 := hR.f 5 (by omega)
      have hsz := hR.lt
      clear hR hB2 HC HR HR1
      unfold zeroN
      go_wp2
      refine bodyPost_ret (v := .tuple #[zeroN, .int .i64 ln, .int .i64 co, .int .i64 code]) (by simp [results, Tryz.results8, go_sem, zeroN, *]) rfl ?_
      rw [HRS.out, hr2]
      exact ⟨rfl, grown_none (grown_six (below_grown ((HA.out.trans (HG.out.mono HA.out.size)).trans (HG2.out.mono (Nat.le_trans HA.out.size HG.out.size))) none) (Nat.le_refl _) _ _ _ _ _ _)⟩
end Go.Proofs.YtnalgnklgmoepaaGreatDoor
