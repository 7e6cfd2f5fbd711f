/- The parser as a plain function on tokens; trees, and where they lie. The parser's small calls: isType, atName, isUnary, level. The contract of pass. What a call of the parser hands back; the laws of its stores and appends. Where a call of the parser stands; the contracts of number and deeper. The contract of deeper. The contracts of reader and block. -/
import Derived.Deep.LoopGhost
import Derived.Test.YtnalgnklgmoepaaGreatDoorMbac
set_option linter.all false
namespace Go.Proofs.YtnalgnklgmoepaaGreatDoor
open Go Go.RowKit

inductive Tree where
  | mk (kind text : List UInt8) (num line col : Int) (kids : List Tree)
def Tree.kind : Tree → List UInt8 | .mk k _ _ _ _ _ => k
def Tree.text : Tree → List UInt8 | .mk _ x _ _ _ _ => x
def Tree.num : Tree → Int | .mk _ _ n _ _ _ => n
def Tree.line : Tree → Int | .mk _ _ _ l _ _ => l
def Tree.col : Tree → Int | .mk _ _ _ _ c _ => c
def Tree.kids : Tree → List Tree | .mk _ _ _ _ _ ks => ks

inductive PR (α : Type) where
  | ok (a : α) (l : List Tok)
  | bad (ln c code : Int)
  | out
def PR.bind {α β : Type} : PR α → (α → List Tok → PR β) → PR β
  | .ok a l, f => f a l
  | .bad ln c code, _ => .bad ln c code
  | .out, _ => .out

def hdT (l : List Tok) : Tok := l.headD tok0
def failP {α : Type} (code : Int) (l : List Tok) : PR α := .bad (hdT l).line (hdT l).col code
def takeP (may : Bool) : List Tok → PR Tok
  | [] => .bad 0 0 30
  | t :: r => if may then .ok t r else .bad t.line t.col 30
def passP : List (List UInt8) → List Tok → PR Unit
  | [], l => .ok () l
  | x :: xs, l => (takeP ((hdT l).text == x) l).bind fun _ l => passP xs l
def nameB (t : Tok) : Bool := t.kind == 0 && !keyL t.text
def typeB (x : List UInt8) : Bool := keyFrom x typesL
def deeperP (d : Int) (p : Int → List Tok → PR Tree) (l : List Tok) : PR Tree := if d = 60 then failP 31 l else p (d + 1) l
def manyP (stop : Tok → Bool) (p : List Tok → PR Tree) : Nat → List Tree → List Tok → PR (List Tree)
  | 0, _, _ => .out
  | n + 1, acc, l => if stop (hdT l) then .ok acc l else (p l).bind fun t l => manyP stop p n (acc ++ [t]) l

def kProgram : List UInt8 := [112, 114, 111, 103, 114, 97, 109]
def kGlobal : List UInt8 := [103, 108, 111, 98, 97, 108]
def kFunc : List UInt8 := [102, 117, 110, 99]
def kParam : List UInt8 := [112, 97, 114, 97, 109]
def kType : List UInt8 := [116, 121, 112, 101]
def kNum : List UInt8 := [110, 117, 109]
def kBlock : List UInt8 := [98, 108, 111, 99, 107]
def kLocal : List UInt8 := [108, 111, 99, 97, 108]
def kIf : List UInt8 := [105, 102]
def kElse : List UInt8 := [101, 108, 115, 101]
def kWhile : List UInt8 := [119, 104, 105, 108, 101]
def kReturn : List UInt8 := [114, 101, 116, 117, 114, 110]
def kAssert : List UInt8 := [97, 115, 115, 101, 114, 116]
def kAssume : List UInt8 := [97, 115, 115, 117, 109, 101]
def kAssign : List UInt8 := [97, 115, 115, 105, 103, 110]
def kNondet : List UInt8 := [110, 111, 110, 100, 101, 116]
def kResult : List UInt8 := [114, 101, 115, 117, 108, 116]
def kCall : List UInt8 := [99, 97, 108, 108]
def kName : List UInt8 := [110, 97, 109, 101]
def kIndex : List UInt8 := [105, 110, 100, 101, 120]
def kBinary : List UInt8 := [98, 105, 110, 97, 114, 121]
def kUnary : List UInt8 := [117, 110, 97, 114, 121]
def kCast : List UInt8 := [99, 97, 115, 116]
def kTrue : List UInt8 := [116, 114, 117, 101]
def kFalse : List UInt8 := [102, 97, 108, 115, 101]
def kVoid : List UInt8 := [118, 111, 105, 100]

def levelsL : List (List (List UInt8)) := [[[124, 124]], [[38, 38]], [[124]], [[94]], [[38]], [[61, 61], [33, 61]], [[60], [60, 61], [62], [62, 61]], [[60, 60], [62, 62]], [[43], [45]], [[42], [47], [37]]]
def levelFrom (x : List UInt8) : Int → List (List (List UInt8)) → Int
  | _, [] => -1
  | i, g :: gs => if g.contains x then i else levelFrom x (i + 1) gs
def levelI (x : List UInt8) : Int := levelFrom x 0 levelsL
def unaryB (x : List UInt8) : Bool := x == [33] || x == [126] || x == [45]

def declaredP (kind : List UInt8) (void : Bool) (l : List Tok) : PR Tree :=
  (takeP (void || typeB (hdT l).text) l).bind fun t l => (takeP (nameB (hdT l)) l).bind fun u l =>
    .ok (.mk kind u.text 0 t.line t.col [.mk kType t.text 0 t.line t.col []]) l
def numberP (l : List Tok) : PR Tree := (takeP ((hdT l).kind == 1) l).bind fun t l => .ok (.mk kNum [] t.num t.line t.col []) l
def commasP (n : Nat) (p : List Tok → PR Tree) (l : List Tok) : PR (List Tree) :=
  (passP [[40]] l).bind fun _ l =>
    if (hdT l).text == [41] then (passP [[41]] l).bind fun _ l => .ok [] l
    else (p l).bind fun t l => (manyP (fun u => !(u.text == [44])) (fun l => (passP [[44]] l).bind fun _ l => p l) n [t] l).bind fun ts l =>
      (passP [[41]] l).bind fun _ l => .ok ts l

inductive NT where
  | block
  | binary (k : Int)
  | operand
section
variable (rec : NT → Int → List Tok → PR Tree) (n : Nat)
def targetP (d : Int) (l : List Tok) : PR Tree :=
  (takeP (nameB (hdT l)) l).bind fun t l =>
    if (hdT l).text == [91] then (passP [[91]] l).bind fun _ l => (deeperP d (rec (.binary 0)) l).bind fun e l => (passP [[93]] l).bind fun _ l => .ok (.mk kIndex t.text 0 t.line t.col [e]) l
    else .ok (.mk kName t.text 0 t.line t.col []) l
def parenP (d : Int) (l : List Tok) : PR Tree :=
  (takeP ((hdT l).text == [40]) l).bind fun t l =>
    if typeB (hdT l).text then (takeP true l).bind fun u l => (passP [[41]] l).bind fun _ l => (deeperP d (rec .operand) l).bind fun e l => .ok (.mk kCast u.text 0 t.line t.col [e]) l
    else (deeperP d (rec (.binary 0)) l).bind fun e l => (passP [[41]] l).bind fun _ l => .ok e l
def operandP (d : Int) (l : List Tok) : PR Tree :=
  if (hdT l).kind == 1 then numberP l
  else if (hdT l).text == kTrue || (hdT l).text == kFalse then (takeP true l).bind fun u l' => .ok (.mk u.text [] 0 (hdT l).line (hdT l).col []) l'
  else if unaryB (hdT l).text then (takeP true l).bind fun u l' => (deeperP d (rec .operand) l').bind fun e l' => .ok (.mk kUnary u.text 0 (hdT l).line (hdT l).col [e]) l'
  else if (hdT l).text == [40] then parenP rec d l
  else targetP rec d l
def binLoop (k d : Int) : Nat → Tree → List Tok → PR Tree
  | 0, _, _ => .out
  | m + 1, left, l => if levelI (hdT l).text < k then .ok left l
    else (takeP true l).bind fun t l' => (rec (.binary (levelI (hdT l).text + 1)) d l').bind fun r l' => binLoop k d m (.mk kBinary t.text 0 t.line t.col [left, r]) l'
def binaryP (k d : Int) (l : List Tok) : PR Tree := (rec .operand d l).bind fun e l => binLoop rec k d n e l
def exprP (d : Int) (l : List Tok) : PR Tree := rec (.binary 0) d l
def argP (d : Int) (l : List Tok) : PR Tree := deeperP d (rec (.binary 0)) l
def atCallB : List Tok → Bool
  | t :: u :: _ => nameB t && u.text == [40]
  | _ => false
def callP (d : Int) (l : List Tok) : PR Tree :=
  (takeP (nameB (hdT l)) l).bind fun t l => (commasP n (argP rec d) l).bind fun ts l => .ok (.mk kCall t.text 0 t.line t.col ts) l
def actionP (d : Int) (l : List Tok) : PR Tree :=
  if atCallB l then (callP rec n d l).bind fun t l => (passP [[59]] l).bind fun _ l => .ok t l
  else (targetP rec d l).bind fun x l' => (passP [[61]] l').bind fun _ l' =>
    if (hdT l').text == kNondet then (passP [kNondet, [40], [41]] l').bind fun _ l' => (passP [[59]] l').bind fun _ l' => .ok (.mk kNondet [] 0 (hdT l).line (hdT l).col [x]) l'
    else if atCallB l' then (callP rec n d l').bind fun y l' => (passP [[59]] l').bind fun _ l' => .ok (.mk kResult [] 0 (hdT l).line (hdT l).col [x, y]) l'
    else (exprP rec d l').bind fun y l' => (passP [[59]] l').bind fun _ l' => .ok (.mk kAssign [] 0 (hdT l).line (hdT l).col [x, y]) l'
def claimP (d : Int) (l : List Tok) : PR Tree :=
  (takeP true l).bind fun t l => (passP [[40]] l).bind fun _ l => (exprP rec d l).bind fun e l => (passP [[41], [59]] l).bind fun _ l => .ok (.mk t.text [] 0 t.line t.col [e]) l
def leaveP (d : Int) (l : List Tok) : PR Tree :=
  (passP [kReturn] l).bind fun _ l' =>
    if (hdT l').text == [59] then (passP [[59]] l').bind fun _ l' => .ok (.mk kReturn [] 0 (hdT l).line (hdT l).col []) l'
    else (exprP rec d l').bind fun e l' => (passP [[59]] l').bind fun _ l' => .ok (.mk kReturn [] 0 (hdT l).line (hdT l).col [e]) l'
def guardedP (word : List UInt8) (d : Int) (l : List Tok) : PR Tree :=
  (passP [word, [40]] l).bind fun _ l' => (exprP rec d l').bind fun e l' => (passP [[41]] l').bind fun _ l' => (deeperP d (rec .block) l').bind fun b l' =>
    .ok (.mk word [] 0 (hdT l).line (hdT l).col [e, b]) l'
def choiceP (d : Int) (l : List Tok) : PR Tree :=
  (guardedP rec kIf d l).bind fun t l => if (hdT l).text == kElse then (passP [kElse] l).bind fun _ l => (deeperP d (rec .block) l).bind fun b l => .ok (.mk t.kind t.text t.num t.line t.col (t.kids ++ [b])) l else .ok t l
def localP (l : List Tok) : PR Tree := (declaredP kLocal false l).bind fun t l => (passP [[59]] l).bind fun _ l => .ok t l
def stmtP (d : Int) (l : List Tok) : PR Tree :=
  if (hdT l).text == kIf then choiceP rec d l
  else if (hdT l).text == kWhile then guardedP rec kWhile d l
  else if (hdT l).text == kReturn then leaveP rec d l
  else if (hdT l).text == kAssert || (hdT l).text == kAssume then claimP rec d l
  else if typeB (hdT l).text then localP l
  else actionP rec n d l
def blockP (d : Int) (l : List Tok) : PR Tree :=
  (passP [[123]] l).bind fun _ l' => (manyP (fun u => u.text == [125]) (stmtP rec n d) n [] l').bind fun ts l' => (passP [[125]] l').bind fun _ l' => .ok (.mk kBlock [] 0 (hdT l).line (hdT l).col ts) l'
def stepP : NT → Int → List Tok → PR Tree
  | .block => blockP rec n
  | .binary k => binaryP rec n k
  | .operand => operandP rec
end
def runP : Nat → NT → Int → List Tok → PR Tree
  | 0, _, _, _ => .out
  | n + 1, x, d, l => stepP (runP n) n x d l
def itemP (n : Nat) (l : List Tok) : PR Tree :=
  (declaredP kGlobal ((hdT l).text == kVoid) l).bind fun t l' =>
    if (hdT l).text == kVoid || (hdT l').text == [40] then (commasP n (declaredP kParam false) l').bind fun ps l' => (deeperP 0 (runP n .block) l').bind fun b l' =>
      .ok (.mk kFunc t.text t.num t.line t.col (t.kids ++ ps ++ [b])) l'
    else if (hdT l').text == [91] then (passP [[91]] l').bind fun _ l' => (numberP l').bind fun m l' => (passP [[93]] l').bind fun _ l' => (passP [[59]] l').bind fun _ l' => .ok (.mk t.kind t.text t.num t.line t.col (t.kids ++ [m])) l'
    else (passP [[59]] l').bind fun _ l' => .ok t l'
def programP (n : Nat) (l : List Tok) : PR Tree :=
  (manyP (fun u => u.kind == 3) (itemP n) n [] l).bind fun ts l' => .ok (.mk kProgram [] 0 (hdT l).line (hdT l).col ts) l'

/-! ### Where trees lie -/
def nodeC (t : Tree) (v : Value) : List Value := [.string ⟨t.kind.toArray⟩, .string ⟨t.text.toArray⟩, .int .u64 t.num, .int .i64 t.line, .int .i64 t.col, v]
def nodeV (t : Tree) (v : Value) : Value := .agg #[.string ⟨t.kind.toArray⟩, .string ⟨t.text.toArray⟩, .int .u64 t.num, .int .i64 t.line, .int .i64 t.col, v]
def rowC : List Tree → List Value → List Value
  | t :: ts, v :: vs => nodeC t v ++ rowC ts vs
  | _, _ => []
mutual
def Lies (w : World) (ok : Nat → Prop) : Tree → Value → Prop
  | .mk _ _ _ _ _ kids, v => ∃ vs, (∀ g, v.ownBlock = some g → ok g) ∧ w.ownsRow 0 26 6 v kids.length (rowC kids vs) ∧ LiesL w ok kids vs
def LiesL (w : World) (ok : Nat → Prop) : List Tree → List Value → Prop
  | [], [] => True
  | t :: ts, v :: vs => Lies w ok t v ∧ LiesL w ok ts vs
  | _, _ => False
end
mutual
theorem Lies.move {w w' : World} {ok ok' : Nat → Prop} (hm : ∀ g, g < w.heap.size → ok g → ok' g ∧ w'.heap[g]? = w.heap[g]?) : ∀ (t : Tree) (v : Value), Lies w ok t v → Lies w' ok' t v
  | .mk _ _ _ _ _ kids, v, h => by
    obtain ⟨vs, h1, h2, h3⟩ := h
    refine ⟨vs, fun g hg => (hm g (h2.lt g hg).2 (h1 g hg)).1, ⟨h2.1, ?_⟩, LiesL.move hm kids vs h3⟩
    rcases h2.2 with h | ⟨g, cap, cur, rfl, hb, hgg, rest⟩
    · exact .inl h
    · exact .inr ⟨g, cap, cur, rfl, hb, ((hm g (Array.getElem?_eq_some_iff.1 hgg).1 (h1 g rfl)).2).trans hgg, rest⟩
theorem LiesL.move {w w' : World} {ok ok' : Nat → Prop} (hm : ∀ g, g < w.heap.size → ok g → ok' g ∧ w'.heap[g]? = w.heap[g]?) : ∀ (ts : List Tree) (vs : List Value), LiesL w ok ts vs → LiesL w' ok' ts vs
  | [], [], _ => trivial
  | t :: ts, v :: vs, h => ⟨Lies.move hm t v h.1, LiesL.move hm ts vs h.2⟩
  | [], _ :: _, h => h.elim
  | _ :: _, [], h => h.elim
end
/-- Nodes in a row of their own, which may be appended to. -/
def Build (w : World) (lo : Nat) (ts : List Tree) (v : Value) : Prop := ∃ vs, w.ownsRow lo 26 6 v ts.length (rowC ts vs) ∧ LiesL w (fun g => lo ≤ g ∧ some g ≠ v.ownBlock) ts vs
theorem Build.nil (w : World) (lo : Nat) : Build w lo [] (.slice none 0 0) := ⟨[], World.ownsRow_nil _ _ _ _, trivial⟩
theorem owns_any {w : World} {b b' : Nat} {e : TypeId} {size : Nat} {v : Value} {n : Nat} {xs : List Value} (h : w.ownsRow b e size v n xs) (hb : ∀ g, v.ownBlock = some g → b' ≤ g) : w.ownsRow b' e size v n xs := by
  obtain ⟨h1, h2 | ⟨g, cap, cur, rfl, h4, h5⟩⟩ := h
  · exact ⟨h1, .inl h2⟩
  · exact ⟨h1, .inr ⟨g, cap, cur, rfl, hb g rfl, h5⟩⟩
theorem Build.mono {w : World} {lo lo' : Nat} {ts : List Tree} {v : Value} (h : Build w lo ts v) (hl : lo' ≤ lo) : Build w lo' ts v := by
  obtain ⟨vs, h1, h2⟩ := h
  exact ⟨vs, owns_mono h1 hl, LiesL.move (fun g _ hg => ⟨⟨Nat.le_trans hl hg.1, hg.2⟩, rfl⟩) ts vs h2⟩
theorem Build.grown {w w' : World} {lo : Nat} {ts : List Tree} {v : Value} {r : Option Nat} (h : Build w lo ts v) (hg : w.grownBy w' r) (hr : ∀ k, r = some k → k < lo ∨ w.heap.size ≤ k) : Build w' lo ts v := by
  obtain ⟨vs, h1, h2⟩ := h
  have hne : ∀ g, g < w.heap.size → lo ≤ g → some g ≠ r := fun g hg1 hg2 e => by rcases hr g e.symm with h | h <;> omega
  refine ⟨vs, h1.kept hg ?_, LiesL.move (fun g hlt hok => ⟨hok, hg.block g hlt (hne g hlt hok.1)⟩) ts vs h2⟩
  cases hv : v.ownBlock with
  | none => exact .inl rfl
  | some g => exact .inr (hne g (h1.lt g hv).2 (h1.lt g hv).1)
theorem Build.lies {w : World} {lo : Nat} {t : Tree} {v : Value} (h : Build w lo t.kids v) : Lies w (fun g => lo ≤ g) t v := by
  obtain ⟨vs, h1, h2⟩ := h
  cases t with
  | mk k x n l c ks => exact ⟨vs, fun g hg => (h1.lt g hg).1, owns_mono h1 (Nat.zero_le _), LiesL.move (fun g _ hg => ⟨hg.1, rfl⟩) _ vs h2⟩
theorem LiesL.length {w : World} {ok : Nat → Prop} : ∀ (ts : List Tree) (vs : List Value), LiesL w ok ts vs → ts.length = vs.length
  | [], [], _ => rfl
  | _ :: ts, _ :: vs, h => by simp [LiesL.length ts vs h.2]
  | [], _ :: _, h => h.elim
  | _ :: _, [], h => h.elim
theorem rowC_append : ∀ (ts us : List Tree) (vs xs : List Value), ts.length = vs.length → rowC (ts ++ us) (vs ++ xs) = rowC ts vs ++ rowC us xs
  | [], us, [], xs, _ => rfl
  | t :: ts, us, v :: vs, xs, h => by
    simp only [List.cons_append, rowC, rowC_append ts us vs xs (by simpa using h), List.append_assoc]
  | [], _, _ :: _, _, h => by simp at h
  | _ :: _, _, [], _, h => by simp at h
theorem LiesL.append {w : World} {ok : Nat → Prop} : ∀ (ts us : List Tree) (vs xs : List Value), LiesL w ok ts vs → LiesL w ok us xs → LiesL w ok (ts ++ us) (vs ++ xs)
  | [], _, [], _, _, h => h
  | _ :: ts, us, _ :: vs, xs, h, h' => ⟨h.1, LiesL.append ts us vs xs h.2 h'⟩
  | [], _, _ :: _, _, h, _ => h.elim
  | _ :: _, _, [], _, h, _ => h.elim
end Go.Proofs.YtnalgnklgmoepaaGreatDoor
namespace Go.Proofs.YtnalgnklgmoepaaGreatDoor
open Go Go.RowKit

theorem type_hit {l : List UInt8} {k : Nat} (h : k < 9) (hp : typesL.getD k [] = l) (hr : keyFrom l (typesL.drop k) = typeB l) : true = typeB l := by
  have hl : k < typesL.length := h
  rw [List.drop_eq_getElem_cons hl, keyFrom] at hr
  rw [List.getD_eq_getElem?_getD, List.getElem?_eq_getElem hl, Option.getD_some] at *
  rw [if_pos hp] at hr
  exact hr
theorem type_miss {l : List UInt8} {k : Nat} (h : k < 9) (hp : ¬ typesL.getD k [] = l) (hr : keyFrom l (typesL.drop k) = typeB l) : keyFrom l (typesL.drop (k + 1)) = typeB l := by
  have hl : k < typesL.length := h
  rw [List.drop_eq_getElem_cons hl, keyFrom] at hr
  rw [List.getD_eq_getElem?_getD, List.getElem?_eq_getElem hl, Option.getD_some] at *
  rw [if_neg hp] at hr
  exact hr
theorem type_end {l : List UInt8} {k : Nat} (h : k ≤ 9) (h' : ¬ k < 9) (hr : keyFrom l (typesL.drop k) = typeB l) : false = typeB l := by
  obtain rfl : k = 9 := by omega
  exact hr
set_option maxHeartbeats 400000 in
theorem type_any (s : ByteArray) (w : World) (ht : Types w) :
    Calls Tryz.prog 100 #[.string s] w fun e w' => e = .returned (.bool (typeB s.data.toList)) ∧ w = w' := by
  obtain ⟨b, off, cap, ht⟩ := ht
  have g := ht.tg
  go_enter Tryz.func100, Tryz.ntmps100
  go_wp2
  go_loop [7] (fun i => ∃ k : Nat, k ≤ 9 ∧ i = .int .i64 k ∧ keyFrom s.data.toList (typesL.drop k) = typeB s.data.toList) (fun i => 9 - (intOf i).toNat)
  case atStart => exact ⟨0, Nat.zero_le _, rfl, rfl⟩
  case round =>
    obtain ⟨k, hk, rfl, hr⟩ := hrel
    have Hr := Lib.hid hr
    clear hr
    by_cases hlt : k < 9
    · have hc := ht.tn k hlt
      have HT := Lib.hid ht
      have hq := str_beq (typesL.getD k []) s
      generalize hA : (⟨(typesL.getD k []).toArray⟩ : ByteArray) = a at *
      clear ht g hA
      by_cases hp : typesL.getD k [] = s.data.toList
      · rw [decide_eq_true hp] at hq
        have HP := Lib.hid hp
        clear hp
        go_wp2
        go_ret
        exact ⟨ret_bool (type_hit hlt HP.out Hr.out), rfl⟩
      · rw [decide_eq_false hp] at hq
        have HP := Lib.hid hp
        clear hp
        go_wp2
        go_round
        case rel => exact ⟨k + 1, by omega, by go_num, type_miss hlt HP.out Hr.out⟩
        case measure => simp [intOf]; omega
    · clear g ht
      go_wp2
      go_ret
      exact ⟨ret_bool (type_end hk hlt Hr.out), rfl⟩

theorem unary_any (x : List UInt8) (w : World) :
    Calls Tryz.prog 127 #[.string ⟨x.toArray⟩] w fun e w' => e = .returned (.bool (unaryB x)) ∧ w = w' := by
  unfold unaryB
  cases h1 : (x == [33]) <;> cases h2 : (x == [126]) <;> cases h3 : (x == [45]) <;>
  · go_enter Tryz.func127, Tryz.ntmps127
    go_wp2
    go_ret
    exact ⟨rfl, rfl⟩

set_option maxHeartbeats 2000000 in
set_option maxRecDepth 100000 in
theorem atName_any (B : Nat) (t : Tok) (r : List Tok) (d : Int) (w : World) (h : PsAt B (t :: r) d w) :
    Calls Tryz.prog 106 #[.pointer (some ⟨B, 0, none⟩)] w fun e w' => e = .returned (.bool (nameB t)) ∧ Below w.heap.size w w' := by
  have H := Lib.hid (peek_any B t r d w h)
  go_enter Tryz.func106, Tryz.ntmps106
  go_wp2_with fail
  refine (H.out).mono ?_
  rintro e w1 ⟨rfl, hb⟩
  have h1 := h.below hb
  obtain ⟨lo, T, o, c, h1⟩ := h1
  have hk := h1.tab.keys
  have HK := Lib.hid (key_any ⟨t.text.toArray⟩ (w1.alloc (.cells #[.int .i64 t.kind, .string ⟨t.text.toArray⟩, .int .u64 t.num, .int .i64 t.line, .int .i64 t.col] 55)) (by
    obtain ⟨b, off, cap, hk⟩ := hk
    exact ⟨b, off, cap, hk.below ((Below.refl _ _).alloc (Nat.le_refl _) _)⟩))
  clear h h1 hk H
  unfold tokW tokV
  cases hn : (t.kind == 0)
  · go_wp2_with fail
    go_ret
    exact ⟨by simp [nameB, hn], hb.alloc hb.size _⟩
  · go_wp2_with fail
    refine (HK.out).mono ?_
    rintro e w2 ⟨rfl, rfl⟩
    go_wp2
    trace_state
    go_ret
    exact ⟨by simp [nameB, hn], hb.alloc hb.size _⟩
end Go.Proofs.YtnalgnklgmoepaaGreatDoor
namespace Go.Proofs.YtnalgnklgmoepaaGreatDoor
open Go Go.RowKit

def PassPost (B : Nat) (d : Int) (w : World) (p : PR Unit) (e : Ending) (w' : World) : Prop :=
  match p with
  | .ok _ l => e = .returned (.tuple #[]) ∧ PsAt B l d w' ∧ w.grownBy w' (some B)
  | .bad ln c code => Pan B ln c code w e w'
  | .out => True
theorem pass_hit {xs : List (List UInt8)} {k : Nat} (hk : k < xs.length) {t : Tok} {r : List Tok} (h : t.text = xs[k]) : passP (xs.drop k) (t :: r) = passP (xs.drop (k + 1)) r := by
  rw [List.drop_eq_getElem_cons hk, passP]
  have : (hdT (t :: r)).text = t.text := rfl
  rw [this, h]
  simp [takeP, PR.bind]
theorem pass_miss {xs : List (List UInt8)} {k : Nat} (hk : k < xs.length) {t : Tok} {r : List Tok} (h : ¬ t.text = xs[k]) : passP (xs.drop k) (t :: r) = .bad t.line t.col 30 := by
  rw [List.drop_eq_getElem_cons hk, passP]
  have : (hdT (t :: r)).text = t.text := rfl
  rw [this]
  simp [takeP, PR.bind, h]
theorem pass_end {xs : List (List UInt8)} {k : Nat} (hk : k ≤ xs.length) (hk' : ¬ k < xs.length) (l : List Tok) : passP (xs.drop k) l = .ok () l := by
  rw [List.drop_eq_nil_of_le (by omega), passP]
/-- What the loop of pass keeps. -/
def PassRel (B : Nat) (xs : List (List UInt8)) (l : List Tok) (d : Int) (w : World) (i : Value) (wr : World) : Prop :=
  ∃ (k : Nat) (l1 : List Tok), k ≤ xs.length ∧ i = .int .i64 k ∧ PsAt B l1 d wr ∧ w.grownBy wr (some B) ∧ passP (xs.drop k) l1 = passP xs l
theorem PsAt.ends {B : Nat} {l : List Tok} {d : Int} {w : World} (h : PsAt B l d w) : EndsOk l := by
  obtain ⟨lo, T, o, c, h⟩ := h
  exact h.ends

set_option maxHeartbeats 2000000 in
set_option maxRecDepth 100000 in
theorem pass_any (B g cap : Nat) (xs : List (List UInt8)) (l : List Tok) (d : Int) (w : World) (h : PsAt B l d w) (hBg : B < g) (hx : ∀ i, i < xs.length → w.cell? ⟨g, i, none⟩ = some (.string ⟨(xs.getD i []).toArray⟩))
    (hne : ∀ x ∈ xs, x ≠ []) (hcap : xs.length ≤ cap) (hlen : xs.length ≤ 10) :
    Calls Tryz.prog 97 #[.pointer (some ⟨B, 0, none⟩), .slice (some ⟨g, 0, none⟩) xs.length cap] w (PassPost B d w (passP xs l)) := by
  have HX := Lib.hid hx
  have HNE := Lib.hid hne
  have HP := Lib.hid h
  clear hx hne h
  go_enter Tryz.func97, Tryz.ntmps97
  go_wp2_with fail
  go_loopw [8] (fun i wr => PassRel B xs l d w i wr) (fun i _ => xs.length - (intOf i).toNat)
  case atStart => exact ⟨0, l, Nat.zero_le _, rfl, HP.out, grown_refl _ _, rfl⟩
  case round =>
    obtain ⟨k, l1, hk, rfl, hR, hg, hp⟩ := hrel
    have HPP := Lib.hid hp
    clear hp
    by_cases hlt : k < xs.length
    · have hc0 := HX.out k hlt
      have hc : wr.cell? ⟨g, k, none⟩ = some (.string ⟨(xs.getD k []).toArray⟩) := hg.cell hc0 (by simp; omega)
      have hgt : xs.getD k [] = xs[k] := by simp [hlt]
      rw [hgt] at hc
      have hxk := HNE.out xs[k] (List.getElem_mem _)
      clear hc0 hgt
      obtain ⟨t, r, rfl⟩ := hR.ends.ne
      have HA := Lib.hid (at_any B t r d xs[k] wr hR)
      have HR := Lib.hid hR
      by_cases he : t.text = xs[k]
      · have hb : (t.text == xs[k]) = true := by simpa using he
        rw [hb] at HA
        have hte : t.text ≠ [] := by rw [he]; exact hxk
        have HPP2 := Lib.hid (HPP.out ▸ pass_hit hlt he)
        clear hR he hb hxk
        generalize xs[k] = x at *
        go_wp2_with fail
        refine (HA.out).mono ?_
        rintro e w1 ⟨rfl, hb1⟩
        have HT := Lib.hid (take_yes B t r d w1 (HR.out.below hb1) hte)
        go_wp2_with fail
        refine (HT.out).mono ?_
        rintro e w2 ⟨rfl, hP2, hg2⟩
        go_wp2
        go_roundw
        case rel => exact ⟨k + 1, r, by omega, by go_num, hP2, grown_trans (grown_trans hg (below_grown hb1 _)) hg2, HPP2.out.symm⟩
        case measure => simp [intOf]; omega
      · have hb : (t.text == xs[k]) = false := by simpa using he
        rw [hb] at HA
        have HPP2 := Lib.hid (HPP.out ▸ pass_miss hlt he)
        clear hR he hb hxk
        generalize xs[k] = x at *
        go_wp2_with fail
        refine (HA.out).mono ?_
        rintro e w1 ⟨rfl, hb1⟩
        have HT := Lib.hid (take_no B t r d w1 (HR.out.below hb1))
        go_wp2_with fail
        refine (HT.out).mono ?_
        rintro e w2 ⟨rfl, hg2⟩
        refine ⟨rfl, ?_⟩
        rw [HPP2.out]
        exact ⟨rfl, grown_trans (grown_trans hg (below_grown hb1 _)) hg2⟩
    · have hpe := HPP.out ▸ pass_end hk hlt l1
      have HPE := Lib.hid hpe
      have HR := Lib.hid hR
      clear hR hpe
      go_wp2
      go_end0
      trace_state
      rw [HPE.out]
      exact ⟨rfl, HR.out, hg⟩
end Go.Proofs.YtnalgnklgmoepaaGreatDoor
namespace Go.Proofs.YtnalgnklgmoepaaGreatDoor
open Go Go.RowKit

/-- What a call that reads a node leaves. -/
def PPost (B : Nat) (d : Int) (w : World) (p : PR Tree) (e : Ending) (w' : World) : Prop :=
  match p with
  | .ok t l => ∃ v, e = .returned (nodeV t v) ∧ Build w' w.heap.size t.kids v ∧ PsAt B l d w' ∧ w.grownBy w' (some B)
  | .bad ln c code => Pan B ln c code w e w'
  | .out => True
/-- The call number f, at those arguments, does what p says. -/
def Does (f : Nat) (args : Value → Array Value) (d : Int) (p : List Tok → PR Tree) : Prop :=
  ∀ (B : Nat) (l : List Tok) (w : World), PsAt B l d w → p l ≠ .out → Calls Tryz.prog f (args (.pointer (some ⟨B, 0, none⟩))) w (PPost B d w (p l))

def six (w : World) (k : Nat) (a b c d e f : Value) : World := (((((w.setCell ⟨k, 0, none⟩ a).setCell ⟨k, 1, none⟩ b).setCell ⟨k, 2, none⟩ c).setCell ⟨k, 3, none⟩ d).setCell ⟨k, 4, none⟩ e).setCell ⟨k, 5, none⟩ f
theorem grown_six {w w2 : World} {r : Option Nat} (h : w.grownBy w2 r) {k : Nat} (hk : w.heap.size ≤ k) (a b c d e f : Value) : w.grownBy (six w2 k a b c d e f) r :=
  grown_new (grown_new (grown_new (grown_new (grown_new (grown_new h hk _ _) hk _ _) hk _ _) hk _ _) hk _ _) hk _ _
theorem six_own (w : World) (k : Nat) (a b c d e f : Value) : w.grownBy (six w k a b c d e f) (some k) :=
  grown_set (grown_set (grown_set (grown_set (grown_set (grown_set (grown_refl _ _) _) _) _) _) _) _
theorem PsAt.six {B : Nat} {l : List Tok} {d : Int} {w : World} (h : PsAt B l d w) {k : Nat} (hk : B < k) (a b c d' e f : Value) : PsAt B l d (six w k a b c d' e f) :=
  h.grown (six_own w k a b c d' e f) (fun j e => by cases e; exact hk)
theorem Build.six {w : World} {lo : Nat} {ts : List Tree} {v : Value} (h : Build w lo ts v) {k : Nat} (hk : k < lo) (a b c d e f : Value) : Build (six w k a b c d e f) lo ts v :=
  h.grown (six_own w k a b c d e f) (fun j e => by cases e; exact .inl hk)
theorem Build.below {w w' : World} {lo : Nat} {ts : List Tree} {v : Value} (h : Build w lo ts v) (hb : Below w.heap.size w w') : Build w' lo ts v := h.grown (below_grown hb none) (fun _ e => by cases e)
theorem Build.alloc {w : World} {lo : Nat} {ts : List Tree} {v : Value} (h : Build w lo ts v) (o : Obj) : Build (w.alloc o) lo ts v := h.grown (World.grownBy_alloc w o none) (fun _ e => by cases e)
theorem Build.lt {w : World} {lo : Nat} {ts : List Tree} {v : Value} (h : Build w lo ts v) : ∀ g, v.ownBlock = some g → lo ≤ g ∧ g < w.heap.size := by
  obtain ⟨vs, h1, _⟩ := h
  exact h1.lt
/-- What a function hands back out of its variable at block k. -/
theorem ppost_six {B k : Nat} {d : Int} {w w2 : World} {t : Tree} {l : List Tok} {v : Value} (hk : w.heap.size = k) (hB : B < k) (hP : PsAt B l d w2) (hg : w.grownBy w2 (some B)) (hb : Build w2 (k + 1) t.kids v) (a b c d' e f : Value) :
    PPost B d w (.ok t l) (.returned (nodeV t v)) (six w2 k a b c d' e f) :=
  ⟨v, rfl, (hb.six (Nat.lt_succ_self k) _ _ _ _ _ _).mono (by omega), hP.six hB _ _ _ _ _ _, grown_six hg (by omega) _ _ _ _ _ _⟩

theorem Tryz.info26 : (Tryz.prog.info? 26).map (fun i => (i.zero, i.size, i.bytes)) = some (some (.agg #[.string ⟨#[]⟩, .string ⟨#[]⟩, .int .u64 0, .int .i64 0, .int .i64 0, .slice none 0 0]), 6, 80) := by kernel_rfl
theorem nodeC_one (t : Tree) {v : Value} (h : v.oneCell' = true) : ∀ u ∈ nodeC t v, u.oneCell' = true := by
  intro u hu
  simp [nodeC] at hu
  rcases hu with rfl | rfl | rfl | rfl | rfl | rfl <;> first | rfl | exact h
theorem Build.one {w : World} {lo : Nat} {ts : List Tree} {v : Value} (h : Build w lo ts v) : v.oneCell' = true := by
  obtain ⟨vs, h1, _⟩ := h
  rcases h1.2 with ⟨rfl, _⟩ | ⟨g, cap, cur, rfl, _⟩ <;> rfl
theorem nodeC_new (w : World) (t : Tree) (v : Value) (T : TypeId) :
    ∀ (j : Nat) (u : Value), (nodeC t v)[j]? = some u → (w.alloc (.cells (nodeC t v).toArray T)).cell? ((⟨w.heap.size, 0, none⟩ : Addr).add j) = some u := by
  intro j u hj
  unfold nodeC at *
  match j, hj with
  | 0, h => cases h; simp [Addr.add, go_sem]
  | 1, h => cases h; simp [Addr.add, go_sem]
  | 2, h => cases h; simp [Addr.add, go_sem]
  | 3, h => cases h; simp [Addr.add, go_sem]
  | 4, h => cases h; simp [Addr.add, go_sem]
  | 5, h => cases h; simp [Addr.add, go_sem]
/-- The row behind an append is the row that was, or a new one. -/
theorem append_block {P : Program} (w : World) (base : Nat) (t ty e : TypeId) (i : TypeInfo) (z : Value) (size bytes : Nat) (ht : P.underlying t = some (.slice e)) (hi : P.info? e = some i) (hz : i.zero = some z)
    (hsize : i.size = size) (hby : i.bytes = bytes)
    (v : Value) (n : Nat) (xs : List Value) (hown : w.ownsRow base e size v n xs)
    (a : Addr) (m c : Nat) (news : List Value) (hl : news.length = m * size) (hnews : ∀ j u, news[j]? = some u → w.cell? (a.add j) = some u) (h1 : ∀ u ∈ news, u.oneCell' = true)
    (h63 : n + m ≤ maxLen) (hbytes : (n + m) * bytes ≤ 140737488355328) (hm : 0 < m) (v' : Value) (w' : World) (hr : (Builtin.append_ #[t, t] ty #[v, .slice (some a) m c]).run P w = .ok v' w') :
    v'.ownBlock = v.ownBlock ∨ v'.ownBlock = some w.heap.size := by
  subst hsize
  subst hby
  have hsmall : n + m ≤ 9223372036854775807 := by simp only [maxLen] at h63; omega
  rcases hown.2 with ⟨rfl, rfl⟩ | ⟨g, cap, cur, rfl, hbg, hg, hnc, hcm, hcs, htake⟩
  · have hr2 := run_append_nil (P := P) w t ty e i z ht hi hz a m c news hl hnews (by omega) (by omega) (by have hb := hbytes; simp only [Nat.zero_add] at hb; omega)
    rw [hr2] at hr
    injection hr with h1 h2
    subst h1
    exact .inr rfl
  · by_cases hroom : n + m ≤ cap
    · have hfit : n * i.size + news.length ≤ cur.size := by rw [hl, hcs, ← Nat.add_mul]; exact Nat.mul_le_mul_right _ hroom
      have hr2 := run_append_room (P := P) w t ty e i ht hi g n cap cur hg a m c news hl hnews h1 hroom hfit
      rw [hr2] at hr
      injection hr with h1 h2
      subst h1
      exact .inl rfl
    · have holds : ∀ j u, xs[j]? = some u → w.cell? ((⟨g, 0, none⟩ : Addr).add j) = some u := hown.cells (g := g) rfl
      have hr2 := run_append_grow (P := P) w t ty e i z ht hi hz ⟨g, 0, none⟩ n cap xs hown.1 holds a m c news hl hnews (by omega) (by omega) (growslice_fits (by omega) hbytes)
      rw [hr2] at hr
      injection hr with h1 h2
      subst h1
      exact .inr rfl
theorem rowC_one : ∀ (ts : List Tree) (us : List Value), (∀ u ∈ us, u.oneCell' = true) → ∀ x ∈ rowC ts us, x.oneCell' = true
  | [], _, _, x, h => by simp [rowC] at h
  | _ :: _, [], _, x, h => by simp [rowC] at h
  | t :: ts, u :: us, ho, x, h => by
    rw [rowC, List.mem_append] at h
    rcases h with h | h
    · exact nodeC_one t (ho u (by simp)) x h
    · exact rowC_one ts us (fun y hy => ho y (by simp [hy])) x h
theorem rowC_len : ∀ (ts : List Tree) (us : List Value), ts.length = us.length → (rowC ts us).length = ts.length * 6
  | [], _, _ => rfl
  | _ :: _, [], h => by simp at h
  | t :: ts, u :: us, h => by
    rw [rowC, List.length_append, rowC_len ts us (by simpa using h)]
    simp only [nodeC, List.length_cons, List.length_nil]
    omega
theorem LiesL.one {w : World} {ok : Nat → Prop} : ∀ (ts : List Tree) (us : List Value), LiesL w ok ts us → ∀ u ∈ us, u.oneCell' = true
  | [], [], _, u, h => by simp at h
  | .mk _ _ _ _ _ _ :: ts, v :: vs, h, u, hu => by
    rcases List.mem_cons.1 hu with rfl | hu
    · obtain ⟨xs, _, h2, _⟩ := h.1
      rcases h2.2 with ⟨rfl, _⟩ | ⟨g, cap, cur, rfl, _⟩ <;> rfl
    · exact LiesL.one ts vs h.2 u hu
  | [], _ :: _, h, _, _ => h.elim
  | _ :: _, [], h, _, _ => h.elim
/-- An append of nodes to a row. -/
theorem append_nodes {o : Oper} {a : Act} {K : Act → World → Prop} {Q : Exit → Act → World → Prop} {w : World} {lo : Nat} {acc ts : List Tree} {us : List Value} {v : Value} {ad : Addr} {c : Nat} (s x : Operand)
    (ho : o.op = .call { callee := .builtin .append, args := #[s, x], argTypes := #[24, 24] }) (hB : Build w lo acc v)
    (hs : a.eval s = v) (hx : a.eval x = .slice (some ad) ts.length c) (hm : 0 < ts.length) (hnews : ∀ (j : Nat) (u : Value), (rowC ts us)[j]? = some u → w.cell? (ad.add j) = some u)
    (hn : acc.length + ts.length ≤ 1000000) (hlo : lo ≤ w.heap.size) (hL : LiesL w (fun g => lo ≤ g ∧ some g ≠ v.ownBlock) ts us)
    (h : ∀ v' w', Build w' lo (acc ++ ts) v' → w.grownBy w' v.ownBlock → K (a.put o.dst v') w') :
    o.wp Tryz.prog a w K Q := by
  obtain ⟨vs, h1, h2⟩ := hB
  obtain ⟨i0, hi, hz0, hz1, hz2⟩ := info_parts Tryz.info26
  have hlen := LiesL.length acc vs h2
  have hlen2 := LiesL.length ts us hL
  have hone := rowC_one ts us (LiesL.one ts us hL)
  have hrl := rowC_len ts us hlen2
  obtain ⟨v', w', hr, ho', hg', _⟩ := run_append_own (P := Tryz.prog) w lo 24 o.type 26 i0 _ 6 80 Tryz.underlying24 hi hz0 hz1 hz2 rfl (by decide) v acc.length _ h1 ad ts.length c (rowC ts us) hrl hnews hone (by unfold maxLen; omega) (by omega) hlo
  have hbk := append_block (P := Tryz.prog) w lo 24 o.type 26 i0 _ 6 80 Tryz.underlying24 hi hz0 hz1 hz2 v acc.length _ h1 ad ts.length c (rowC ts us) hrl hnews hone (by unfold maxLen; omega) (by omega) hm v' w' hr
  have hst : ∀ g, g < w.heap.size → some g ≠ v.ownBlock → w'.heap[g]? = w.heap[g]? := fun g hg hne => hg'.block g hg hne
  have hv' : ∀ g, g < w.heap.size → some g ≠ v.ownBlock → some g ≠ v'.ownBlock := fun g hg hne e => by
    rcases hbk with h | h
    · exact hne (e.trans h)
    · rw [h] at e
      injection e with e
      omega
  have hK := h v' w' ⟨vs ++ us, by rw [rowC_append acc ts vs us hlen, List.length_append]; exact ho',
    LiesL.append acc ts vs us (LiesL.move (fun g hg hok => ⟨⟨hok.1, hv' g hg hok.2⟩, hst g hg hok.2⟩) acc vs h2) (LiesL.move (fun g hg hok => ⟨⟨hok.1, hv' g hg hok.2⟩, hst g hg hok.2⟩) ts us hL)⟩ hg'
  unfold Oper.wp execOp
  simp only [ho, resolve, invoke, builtin, Sem.run_bind, Sem.run_pure, Result.andThen_ok, List.map_toArray, List.map_cons, List.map_nil, hs, hx, hr]
  exact hK
/-- A node more in a row of nodes. -/
theorem append_node {o : Oper} {a : Act} {K : Act → World → Prop} {Q : Exit → Act → World → Prop} {w : World} {lo lo1 S : Nat} {acc : List Tree} {t : Tree} {v u : Value} (s x : Operand)
    (ho : o.op = .call { callee := .builtin .append, args := #[s, x], argTypes := #[24, 24] }) (hB : Build w lo acc v) (hK : Build w lo1 t.kids u) (hlo : lo ≤ lo1) (hv : ∀ g, v.ownBlock = some g → g < lo1) (hl1 : lo1 ≤ w.heap.size)
    (hs : a.eval s = v) (hS : w.heap.size = S) (hx : a.eval x = .slice (some ⟨S, 0, none⟩) 1 1) (hn : acc.length < 1000000)
    (h : ∀ v' w', Build w' lo (acc ++ [t]) v' → (w.alloc (.cells (nodeC t u).toArray 26)).grownBy w' v.ownBlock → K (a.put o.dst v') w') :
    o.wp Tryz.prog a (w.alloc (.cells (nodeC t u).toArray 26)) K Q := by
  subst hS
  refine append_nodes s x ho (hB.alloc _) (ts := [t]) (us := [u]) hs hx (by simp) ?_ (by simp; omega) (by simp; omega) ⟨Lies.move (fun g hg hok => ?_) t u (hK.alloc (.cells (nodeC t u).toArray 26)).lies, trivial⟩ h
  · simpa [rowC] using nodeC_new w t u 26
  · have hne : some g ≠ v.ownBlock := fun e => by have := hv g e.symm; omega
    exact ⟨⟨by omega, hne⟩, rfl⟩
end Go.Proofs.YtnalgnklgmoepaaGreatDoor
namespace Go.Proofs.YtnalgnklgmoepaaGreatDoor
open Go Go.RowKit

def zero6 : Obj := .cells #[.string ⟨#[]⟩, .string ⟨#[]⟩, .int .u64 0, .int .i64 0, .int .i64 0, .slice none 0 0] 26
def tokO (t : Tok) : Obj := .cells #[.int .i64 t.kind, .string ⟨t.text.toArray⟩, .int .u64 t.num, .int .i64 t.line, .int .i64 t.col] 55
def nodO (k x : List UInt8) (n ln c : Int) (v : Value) : Obj := .cells #[.string ⟨k.toArray⟩, .string ⟨x.toArray⟩, .int .u64 n, .int .i64 ln, .int .i64 c, v] 26
theorem LTok.newO (t : Tok) (w : World) : LTok w.heap.size t (w.alloc (tokO t)) := LTok.new t w
/-- A call that began in w0, with a variable for its result behind w0's blocks, stands in w. -/
structure St (w0 : World) (B : Nat) (l : List Tok) (d : Int) (w : World) : Prop where
  ps : PsAt B l d w
  gr : w0.grownBy w (some B)
  res : LNode w0.heap.size [] [] 0 0 0 (.slice none 0 0) w
  hB : B < w0.heap.size
theorem St.start {B : Nat} {l : List Tok} {d : Int} {w : World} (h : PsAt B l d w) : St w B l d (w.alloc zero6) :=
  ⟨h.below ((Below.refl _ _).alloc (Nat.le_refl _) _), World.grownBy_alloc _ _ _, LNode.new [] [] 0 0 0 (.slice none 0 0) w, h.lt⟩
theorem St.lt {w0 : World} {B : Nat} {l : List Tok} {d : Int} {w : World} (h : St w0 B l d w) : w0.heap.size < w.heap.size := h.res.lt
theorem St.call {w0 : World} {B : Nat} {l l' : List Tok} {d d' : Int} {w w' : World} (h : St w0 B l d w) (hP : PsAt B l' d' w') (hg : w.grownBy w' (some B)) : St w0 B l' d' w' :=
  ⟨hP, grown_trans h.gr hg, h.res.grown hg (by have := h.hB; simp; omega), h.hB⟩
theorem St.below {w0 : World} {B : Nat} {l : List Tok} {d : Int} {w w' : World} (h : St w0 B l d w) (hb : Below w.heap.size w w') : St w0 B l d w' := h.call (h.ps.below hb) (below_grown hb _)
theorem St.alloc {w0 : World} {B : Nat} {l : List Tok} {d : Int} {w : World} (h : St w0 B l d w) (o : Obj) : St w0 B l d (w.alloc o) := h.below ((Below.refl _ _).alloc (Nat.le_refl _) o)
theorem St.drew {w0 : World} {B : Nat} {l : List Tok} {d : Int} {w : World} (h : St w0 B l d w) : St w0 B l d w.drew := h.below (Below.refl _ _).drew
/-- A store, or an append, behind the result's block. -/
theorem St.local {w0 : World} {B : Nat} {l : List Tok} {d : Int} {w w' : World} {r : Option Nat} (h : St w0 B l d w) (hg : w.grownBy w' r) (hr : ∀ k, r = some k → w0.heap.size < k) : St w0 B l d w' := by
  have hB := h.hB
  have h1 := h.lt
  refine ⟨h.ps.grown hg (fun k e => by have := hr k e; omega), ?_, h.res.grown hg (fun e => by have := hr _ e.symm; omega), hB⟩
  exact ⟨hg.os.trans h.gr.os, hg.tape.trans h.gr.tape, hg.output.trans h.gr.output, Nat.le_trans h.gr.size hg.size, fun j hj hne => (hg.block j (by omega) (fun e => by have := hr j e.symm; omega)).trans (h.gr.block j hj hne)⟩
theorem St.setN {w0 : World} {B : Nat} {l : List Tok} {d : Int} {w : World} (h : St w0 B l d w) {k : Nat} (hk : w0.heap.size < k) (o : Nat) (v : Value) : St w0 B l d (w.setCell ⟨k, o, none⟩ v) :=
  h.local (grown_setB w k o v) (fun j e => by cases e; exact hk)
theorem St.pan {w0 : World} {B : Nat} {l : List Tok} {d : Int} {w w' : World} {e : Ending} {ln c code : Int} (h : St w0 B l d w) (hp : Pan B ln c code w e w') : Pan B ln c code w0 e w' := ⟨hp.1, grown_trans h.gr hp.2⟩
theorem St.fin {w0 : World} {B : Nat} {l : List Tok} {d : Int} {w : World} {t : Tree} {v : Value} (h : St w0 B l d w) (hb : Build w (w0.heap.size + 1) t.kids v) (a b c d' e f : Value) :
    PPost B d w0 (.ok t l) (.returned (nodeV t v)) (six w w0.heap.size a b c d' e f) := ppost_six rfl h.hB h.ps h.gr hb a b c d' e f
theorem six_alloc {w : World} {k : Nat} (h : k < w.heap.size) (o : Obj) (a b c d e f : Value) : six (w.alloc o) k a b c d e f = (six w k a b c d e f).alloc o := by
  unfold six
  rw [World.setCell_alloc_past _ _ _ _ h, World.setCell_alloc_past _ _ _ _ (by simpa using h), World.setCell_alloc_past _ _ _ _ (by simpa using h), World.setCell_alloc_past _ _ _ _ (by simpa using h), World.setCell_alloc_past _ _ _ _ (by simpa using h), World.setCell_alloc_past _ _ _ _ (by simpa using h)]
theorem St.finA {w0 : World} {B : Nat} {l : List Tok} {d : Int} {w : World} {t : Tree} {v : Value} {o : Obj} (h : St w0 B l d (w.alloc o)) (hk : w0.heap.size < w.heap.size) (hb : Build (w.alloc o) (w0.heap.size + 1) t.kids v) (a b c d' e f : Value) :
    PPost B d w0 (.ok t l) (.returned (nodeV t v)) ((six w w0.heap.size a b c d' e f).alloc o) := by
  rw [← six_alloc hk]
  exact h.fin hb a b c d' e f
theorem St.finAA {w0 : World} {B : Nat} {l : List Tok} {d : Int} {w : World} {t : Tree} {v : Value} {o o' : Obj} (h : St w0 B l d ((w.alloc o).alloc o')) (hk : w0.heap.size < w.heap.size) (hb : Build ((w.alloc o).alloc o') (w0.heap.size + 1) t.kids v) (a b c d' e f : Value) :
    PPost B d w0 (.ok t l) (.returned (nodeV t v)) (((six w w0.heap.size a b c d' e f).alloc o).alloc o') := by
  rw [← six_alloc hk, ← six_alloc (by simp; omega)]
  exact h.fin hb a b c d' e f
/-- A variable with a node whose kids are being put together. -/
structure Nd (N : Nat) (k x : List UInt8) (n ln c : Int) (v : Value) (ts : List Tree) (w : World) : Prop where
  nd : LNode N k x n ln c v w
  bd : Build w (N + 1) ts v
theorem Nd.lt {N : Nat} {k x : List UInt8} {n ln c : Int} {v : Value} {ts : List Tree} {w : World} (h : Nd N k x n ln c v ts w) : N < w.heap.size := h.nd.lt
theorem Nd.grown {N : Nat} {k x : List UInt8} {n ln c : Int} {v : Value} {ts : List Tree} {w w' : World} {r : Option Nat} (h : Nd N k x n ln c v ts w) (hg : w.grownBy w' r) (hr : ∀ j, r = some j → j < N ∨ w.heap.size ≤ j) : Nd N k x n ln c v ts w' :=
  ⟨h.nd.grown hg (fun e => by have := hr N e.symm; have := h.lt; omega), h.bd.grown hg (fun j e => by have := hr j e; omega)⟩
theorem Nd.call {N B : Nat} {k x : List UInt8} {n ln c : Int} {v : Value} {ts : List Tree} {w w' : World} (h : Nd N k x n ln c v ts w) (hg : w.grownBy w' (some B)) (hB : B < N) : Nd N k x n ln c v ts w' := h.grown hg (fun j e => by cases e; exact .inl hB)
theorem Nd.below {N : Nat} {k x : List UInt8} {n ln c : Int} {v : Value} {ts : List Tree} {w w' : World} (h : Nd N k x n ln c v ts w) (hb : Below w.heap.size w w') : Nd N k x n ln c v ts w' := h.grown (below_grown hb none) (fun _ e => by cases e)
theorem Nd.alloc {N : Nat} {k x : List UInt8} {n ln c : Int} {v : Value} {ts : List Tree} {w : World} (h : Nd N k x n ln c v ts w) (o : Obj) : Nd N k x n ln c v ts (w.alloc o) := h.below ((Below.refl _ _).alloc (Nat.le_refl _) o)
theorem Nd.drew {N : Nat} {k x : List UInt8} {n ln c : Int} {v : Value} {ts : List Tree} {w : World} (h : Nd N k x n ln c v ts w) : Nd N k x n ln c v ts w.drew := h.below (Below.refl _ _).drew
theorem Nd.new (k x : List UInt8) (n ln c : Int) (w : World) : Nd w.heap.size k x n ln c (.slice none 0 0) [] (w.alloc (nodO k x n ln c (.slice none 0 0))) := ⟨LNode.new k x n ln c _ w, Build.nil _ _⟩
theorem kind_text {t : Tok} {r : List Tok} (h : EndsOk (t :: r)) (hk : ¬ t.kind = 3) : t.text ≠ [] := fun e => by
  cases r with
  | nil => exact hk h.1
  | cons u r => exact h.1 e

set_option maxHeartbeats 2000000 in
set_option maxRecDepth 100000 in
theorem number_does (d : Int) : Does 98 (fun p => #[p]) d numberP := by
  intro B l w h _
  obtain ⟨t, r, rfl⟩ := h.ends.ne
  have S0 := St.start h
  have H := Lib.hid (peek_any B t r d _ S0.ps)
  have HS := Lib.hid S0
  have hfk := field_kind
  clear h S0
  unfold zero6 at *
  go_enter Tryz.func98, Tryz.ntmps98
  go_wp2_with fail
  refine (H.out).mono ?_
  rintro e w1 ⟨rfl, hb⟩
  have S1 := HS.out.below hb
  clear hb H HS
  unfold tokW tokV
  by_cases hk : t.kind = 1
  · have hkb : (t.kind == 1) = true := by simpa using hk
    have HT := Lib.hid (take_yes B t r d w1 S1.ps (kind_text S1.ps.ends (by omega)))
    have hres : numberP (t :: r) = .ok (.mk kNum [] t.num t.line t.col []) r := by simp [numberP, takeP, hdT, PR.bind, hkb]
    have HR := Lib.hid hres
    have HS := Lib.hid S1
    clear hres hk S1
    go_wp2_with fail
    refine (HT.out).mono ?_
    rintro e w2 ⟨rfl, hP2, hg2⟩
    have HN := Lib.hid (node_any t ⟨#[110, 117, 109]⟩ ⟨#[]⟩)
    have S2 := Lib.hid ((HS.out.call hP2 hg2).alloc (tokO t))
    have L2 := Lib.hid (LTok.newO t w2)
    unfold tokO tokW tokV at *
    clear hP2 hg2 HT HS
    go_wp2_with fail
    refine (HN.out _).mono ?_
    rintro e w3 ⟨rfl, hb3⟩
    have S3 := S2.out.below hb3
    have L3 := L2.out.below hb3
    have hs1 := S3.lt
    have hs2 := L3.lt
    have q2 := L3.c2
    have r0 := S3.res.c0; have r1 := S3.res.c1; have r2 := S3.res.c2; have r3 := S3.res.c3; have r4 := S3.res.c4; have r5 := S3.res.c5
    have g0 := S3.res.f 0 (by omega); have g1 := S3.res.f 1 (by omega); have g2 := S3.res.f 2 (by omega); have g3 := S3.res.f 3 (by omega); have g4 := S3.res.f 4 (by omega); have g5 := S3.res.f 5 (by omega)
    have HS := Lib.hid S3
    clear HN L3 S3 hb3 L2 S2
    go_wp2
    refine bodyPost_ret (v := nodeV (.mk kNum [] t.num t.line t.col []) (.slice none 0 0)) (by simp [results, Tryz.results98, go_sem, nodeV, Tree.kind, Tree.text, Tree.num, Tree.line, Tree.col, kNum, *]) rfl ?_
    rw [HR.out]
    exact (HS.out.alloc _).finA hs1 (Build.nil _ _) _ _ _ _ _ _
  · have hkb : (t.kind == 1) = false := by simpa using hk
    have HT := Lib.hid (take_no B t r d w1 S1.ps)
    have hres : numberP (t :: r) = .bad t.line t.col 30 := by simp [numberP, takeP, hdT, PR.bind, hk]
    have HR := Lib.hid hres
    have HS := Lib.hid S1
    clear hres hk S1
    go_wp2_with fail
    refine (HT.out).mono ?_
    rintro e w2 ⟨rfl, hp⟩
    refine ⟨rfl, ?_⟩
    rw [HR.out]
    exact HS.out.pan ⟨rfl, hp⟩
end Go.Proofs.YtnalgnklgmoepaaGreatDoor
namespace Go.Proofs.YtnalgnklgmoepaaGreatDoor
open Go Go.RowKit

theorem PsAt.deep {B : Nat} {l : List Tok} {d : Int} {w : World} (h : PsAt B l d w) {d' : Int} (hd : 0 ≤ d' ∧ d' ≤ 60) : PsAt B l d' (w.setCell ⟨B, 1, none⟩ (.int .i64 d')) := by
  obtain ⟨lo, T, o, c, h⟩ := h
  have h0 := h.c0; have h1 := h.c1; have g0 := h.f0; have g1 := h.f1
  have hg := grown_setB w B 1 (.int .i64 d')
  have hT := h.hT
  refine ⟨lo, T, o, c, by simp [go_sem, *], by simp [go_sem, *], by simp [go_sem, *], by simp [go_sem, *], fun k hk => (h.row k hk).grown hg (by simp; omega), h.ends, hT, h.hc, h.hm, h.hl, h.ht, hd, h.tab.under ?_, h.hlo⟩
  exact (Below.refl _ _).grown hg (by have := h.lt; have := h.hlo; omega) (fun k e => by cases e; exact h.hlo)
theorem PsAt.c1 {B : Nat} {l : List Tok} {d : Int} {w : World} (h : PsAt B l d w) : w.cell? ⟨B, 1, none⟩ = some (.int .i64 d) ∧ w.frozen? ⟨B, 1, none⟩ = false ∧ 0 ≤ d ∧ d ≤ 60 := by
  obtain ⟨lo, T, o, c, h⟩ := h
  exact ⟨h.c1, h.f1, h.hd⟩

theorem Build.shape {w : World} {lo : Nat} {ts : List Tree} {v : Value} (h : Build w lo ts v) : ∃ p n c, v = .slice p n c := by
  obtain ⟨vs, h1, _⟩ := h
  rcases h1.2 with ⟨rfl, _⟩ | ⟨g, cap, cur, rfl, _⟩
  · exact ⟨_, _, _, rfl⟩
  · exact ⟨_, _, _, rfl⟩
/-- The three ways in which a call of the parser ends. -/
theorem PPost.cases {B : Nat} {d : Int} {w : World} {p : PR Tree} {e : Ending} {w' : World} (h : PPost B d w p e w') (ho : p ≠ .out) :
    (∃ t l q n c, p = .ok t l ∧ e = .returned (nodeV t (.slice q n c)) ∧ Build w' w.heap.size t.kids (.slice q n c) ∧ PsAt B l d w' ∧ w.grownBy w' (some B)) ∨
    ∃ ln c code, p = .bad ln c code ∧ e = .panicked [{ v := faultV ln c code, recovered := false }] ∧ w.grownBy w' (some B) := by
  cases p with
  | ok t l =>
    obtain ⟨v, rfl, hb, hP, hg⟩ := h
    obtain ⟨q, n, c, rfl⟩ := hb.shape
    exact .inl ⟨t, l, q, n, c, rfl, rfl, hb, hP, hg⟩
  | bad ln c code => exact .inr ⟨ln, c, code, rfl, h.1, h.2⟩
  | out => exact absurd rfl ho
theorem deep_back (d : Int) (h : 0 ≤ d ∧ d ≤ 60) : wrap64 (d + 1 - 1) = d := by unfold wrap64; omega

set_option maxHeartbeats 2000000 in
set_option maxRecDepth 100000 in
theorem deeper_does (g : Nat) (d : Int) (p : Int → List Tok → PR Tree) (hf : ∀ (args : Array Value) (w : World), (callFunc g args).run Tryz.prog w = .ok (.enter g args) w) (hp : Does g (fun p => #[p]) (d + 1) (p (d + 1))) :
    ∀ (B : Nat) (l : List Tok) (w : World), PsAt B l d w → deeperP d p l ≠ .out → Calls Tryz.prog 95 #[.pointer (some ⟨B, 0, none⟩), .func (.func g) #[.pointer (some ⟨B, 0, none⟩)] #[]] w (PPost B d w (deeperP d p l)) := by
  intro B l w h hno
  obtain ⟨t, r, rfl⟩ := h.ends.ne
  have S0 := St.start h
  obtain ⟨c1, f1, hd0, hd6⟩ := S0.ps.c1
  have HS := Lib.hid S0
  have hHB := S0.hB
  have hHz := S0.lt
  by_cases hd : d = 60
  · have hres : deeperP d p (t :: r) = .bad t.line t.col 31 := by simp [deeperP, hd, failP, hdT]
    have H := Lib.hid (fail_any B t r d 31 _ S0.ps)
    have HR := Lib.hid hres
    subst hd
    clear h S0 hres hno
    unfold zero6 at *
    go_enter Tryz.func95, Tryz.ntmps95
    go_wp2_with fail
    refine (H.out).mono ?_
    rintro e w2 ⟨rfl, hp2⟩
    refine ⟨rfl, ?_⟩
    rw [HR.out]
    exact HS.out.pan ⟨rfl, hp2⟩
  · have hres : deeperP d p (t :: r) = p (d + 1) (t :: r) := by simp [deeperP, hd]
    rw [hres] at hno
    have hdb : (d == 60) = false := by simpa using hd
    have P1 := S0.ps.deep (d' := d + 1) (by omega)
    have S1 := S0.call P1 (grown_setB _ _ _ _)
    have hw0 := World.setCell_alloc_past (w := w) zero6 B 1 (.int .i64 (d + 1)) hHB
    rw [hw0] at P1 S1
    have H := Lib.hid (hp B (t :: r) _ P1 hno)
    have HR := Lib.hid hres
    have HF := Lib.hid hf
    have HS1 := Lib.hid S1
    have hw : wrap64 (d + 1) = d + 1 := by unfold wrap64; omega
    have HNO := Lib.hid hno
    clear h S0 hres hno hd S1 P1 HS hf hp hw0
    unfold zero6 at *
    have hf := HF.out
    go_enter Tryz.func95, Tryz.ntmps95
    go_wp2_with fail
    refine (H.out).mono ?_
    intro e w2 hq
    rcases hq.cases HNO.out with ⟨t2, l2, q, n, c, he, rfl, hb, hP, hg⟩ | ⟨ln, c, code, he, rfl, hg⟩
    · have S2 := HS1.out.call hP hg
      obtain ⟨c1', f1', _, _⟩ := hP.c1
      have HB := Lib.hid hb
      have HE := Lib.hid (HR.out.trans he)
      have S3 := Lib.hid (S2.call (hP.deep (d' := d) (by omega)) (grown_setB _ _ _ _))
      have hs2 := S2.lt
      have hBs := hP.lt
      have hr := S2.res
      have r0 := hr.c0; have r1 := hr.c1; have r2 := hr.c2; have r3 := hr.c3; have r4 := hr.c4; have r5 := hr.c5
      have g0 := hr.f 0 (by omega); have g1 := hr.f 1 (by omega); have g2 := hr.f 2 (by omega); have g3 := hr.f 3 (by omega); have g4 := hr.f 4 (by omega); have g5 := hr.f 5 (by omega)
      clear hr S2 hP hg hb he H HS1 hf HF hq HNO HR c1 f1
      unfold nodeV
      go_wp2_with fail
      refine bodyPost_ret (v := nodeV t2 (.slice q n c)) (by simp [results, Tryz.results95, go_sem, nodeV, *]) rfl ?_
      rw [HE.out]
      have hb2 : Build w2 (w.heap.size + 1) t2.kids (.slice q n c) := by simpa using HB.out
      exact (S3.out.alloc _).finA (by simpa using hs2) ((hb2.grown (grown_setB _ _ _ _) (fun j e => by cases e; exact .inl (by omega))).alloc _) _ _ _ _ _ _
    · refine ⟨rfl, ?_⟩
      rw [HR.out, he]
      exact HS1.out.pan ⟨rfl, hg⟩
end Go.Proofs.YtnalgnklgmoepaaGreatDoor
namespace Go.Proofs.YtnalgnklgmoepaaGreatDoor
open Go Go.RowKit

theorem PassPost.cases {B : Nat} {d : Int} {w : World} {p : PR Unit} {e : Ending} {w' : World} (h : PassPost B d w p e w') (ho : p ≠ .out) :
    (∃ l, p = .ok () l ∧ e = .returned (.tuple #[]) ∧ PsAt B l d w' ∧ w.grownBy w' (some B)) ∨
    ∃ ln c code, p = .bad ln c code ∧ e = .panicked [{ v := faultV ln c code, recovered := false }] ∧ w.grownBy w' (some B) := by
  cases p with
  | ok t l => exact .inl ⟨l, rfl, h.1, h.2.1, h.2.2⟩
  | bad ln c code => exact .inr ⟨ln, c, code, rfl, h.1, h.2⟩
  | out => exact absurd rfl ho
theorem passP_out : ∀ (xs : List (List UInt8)) (l : List Tok), passP xs l ≠ .out
  | [], l, h => by simp [passP] at h
  | x :: xs, [], h => by simp [passP, takeP, PR.bind] at h
  | x :: xs, t :: r, h => by
    rw [passP, takeP] at h
    split at h
    · exact passP_out xs r h
    · simp [PR.bind] at h
/-- pass of one text that is laid for it. -/
theorem pass_one {B S : Nat} {l : List Tok} {d : Int} {w : World} (x : List UInt8) (h : PsAt B l d w) (hx : x ≠ []) (hS : w.heap.size = S) :
    Calls Tryz.prog 97 #[.pointer (some ⟨B, 0, none⟩), .slice (some ⟨S, 0, none⟩) 1 1] (w.alloc (.cells #[.string ⟨x.toArray⟩] 9)) fun e w' =>
      (∃ l', passP [x] l = .ok () l' ∧ e = .returned (.tuple #[]) ∧ PsAt B l' d w' ∧ w.grownBy w' (some B)) ∨
      ∃ ln c code, passP [x] l = .bad ln c code ∧ e = .panicked [{ v := faultV ln c code, recovered := false }] ∧ w.grownBy w' (some B) := by
  subst hS
  refine (pass_any B w.heap.size 1 [x] l d (w.alloc (.cells #[.string ⟨x.toArray⟩] 9)) (h.below ((Below.refl _ _).alloc (Nat.le_refl _) _)) h.lt (fun i hi => ?_) (fun y hy => by simp at hy; rw [hy]; exact hx) (by simp) (by simp)).mono fun e w' hq => ?_
  · obtain rfl : i = 0 := by simpa using hi
    simp [go_sem]
  · have hga := World.grownBy_alloc w (.cells #[.string ⟨x.toArray⟩] 9) (some B)
    rcases hq.cases (passP_out _ _) with ⟨l', h1, h2, h3, h4⟩ | ⟨ln, c, code, h1, h2, h3⟩
    · exact .inl ⟨l', h1, h2, h3, grown_trans hga h4⟩
    · exact .inr ⟨ln, c, code, h1, h2, grown_trans hga h3⟩

/-- A node more in a row of nodes, the slot named. -/
theorem append_at {o : Oper} {a : Act} {K : Act → World → Prop} {Q : Exit → Act → World → Prop} {w : World} {lo lo1 S dd : Nat} {acc : List Tree} {t : Tree} {v u : Value} (s x : Operand)
    (ho : o.op = .call { callee := .builtin .append, args := #[s, x], argTypes := #[24, 24] }) (hd : o.dst = some dd) (hB : Build w lo acc v) (hK : Build w lo1 t.kids u) (hlo : lo ≤ lo1) (hv : ∀ g, v.ownBlock = some g → g < lo1) (hl1 : lo1 ≤ w.heap.size)
    (hs : a.eval s = v) (hS : w.heap.size = S) (hx : a.eval x = .slice (some ⟨S, 0, none⟩) 1 1) (hn : acc.length < 1000000)
    (h : ∀ v' w', Build w' lo (acc ++ [t]) v' → (w.alloc (.cells (nodeC t u).toArray 26)).grownBy w' v.ownBlock → K (a.put (some dd) v') w') :
    o.wp Tryz.prog a (w.alloc (.cells (nodeC t u).toArray 26)) K Q :=
  append_node s x ho hB hK hlo hv hl1 hs hS hx hn (fun v' w' h1 h2 => by rw [hd]; exact h v' w' h1 h2)
/-- Behind an append, and the store of its row. -/
theorem app_fin {w0 w6 w7 : World} {B N : Nat} {l : List Tok} {d : Int} {k x : List UInt8} {n ln c : Int} {v v7 : Value} {acc ts : List Tree} {o : Obj} (S : St w0 B l d w6) (Nn : Nd N k x n ln c v acc w6) (hw : w0.heap.size < N)
    (hb7 : Build w7 (N + 1) ts v7) (hg7 : (w6.alloc o).grownBy w7 v.ownBlock) : St w0 B l d (w7.setCell ⟨N, 5, none⟩ v7) ∧ Nd N k x n ln c v7 ts (w7.setCell ⟨N, 5, none⟩ v7) := by
  have hlt := Nn.bd.lt
  refine ⟨((S.alloc o).local hg7 (fun j e => by have := (hlt j e).1; omega)).setN hw _ _, ?_, hb7.grown (grown_setB _ _ _ _) (fun j e => by cases e; exact .inl (Nat.lt_succ_self _))⟩
  exact ((Nn.nd.grown (World.grownBy_alloc w6 o none) (by simp)).grown hg7 (fun e => by have := (hlt N e.symm).1; omega)).set5 v7

def stmtF (x : List UInt8) : Nat := if x == kIf then 119 else if x == kWhile then 120 else if x == kReturn then 121 else if x == kAssert || x == kAssume then 122 else if typeB x then 123 else 124
theorem makeFunc_run (fn : Fn) (first cap : Array Value) (w : World) : (Instr.makeFunc fn first cap).run Tryz.prog w = .ok (.func fn first cap) w := rfl

set_option maxHeartbeats 2000000 in
set_option maxRecDepth 100000 in
theorem reader_at (B : Nat) (t : Tok) (r : List Tok) (d : Int) (w : World) (f : Nat) (hf : stmtF t.text = f) (h : PsAt B (t :: r) d w) :
    Calls Tryz.prog 108 #[.pointer (some ⟨B, 0, none⟩)] w fun e w' => e = .returned (.func (.func f) #[.pointer (some ⟨B, 0, none⟩)] #[]) ∧ Below w.heap.size w w' := by
  have H := Lib.hid (peek_any B t r d w h)
  have HF := Lib.hid hf
  clear hf
  have hmf := makeFunc_run
  have hft := field_text
  go_enter Tryz.func108, Tryz.ntmps108
  go_wp2_with fail
  refine (H.out).mono ?_
  rintro e w1 ⟨rfl, hb⟩
  have hT : Types w1 := by
    obtain ⟨lo, T, o, c, h1⟩ := h.below hb
    exact h1.tab.types
  have HI := Lib.hid (type_any ⟨t.text.toArray⟩ w1 hT)
  clear h H hT
  unfold tokW tokV
  cases h1 : (t.text == [105, 102])
  case true =>
    obtain rfl : f = 119 := by rw [← HF.out]; simp only [stmtF, kIf, kWhile, kReturn, kAssert, kAssume, h1]; rfl
    go_wp2
    go_ret
    exact ⟨rfl, hb⟩
  case false =>
  cases h2 : (t.text == [119, 104, 105, 108, 101])
  case true =>
    obtain rfl : f = 120 := by rw [← HF.out]; simp only [stmtF, kIf, kWhile, kReturn, kAssert, kAssume, h1, h2]; rfl
    go_wp2
    go_ret
    exact ⟨rfl, hb⟩
  case false =>
  cases h3 : (t.text == [114, 101, 116, 117, 114, 110])
  case true =>
    obtain rfl : f = 121 := by rw [← HF.out]; simp only [stmtF, kIf, kWhile, kReturn, kAssert, kAssume, h1, h2, h3]; rfl
    go_wp2
    go_ret
    exact ⟨rfl, hb⟩
  case false =>
  cases h4 : (t.text == [97, 115, 115, 101, 114, 116])
  case true =>
    obtain rfl : f = 122 := by rw [← HF.out]; simp only [stmtF, kIf, kWhile, kReturn, kAssert, kAssume, h1, h2, h3, h4]; rfl
    go_wp2
    go_ret
    exact ⟨rfl, hb⟩
  case false =>
  cases h5 : (t.text == [97, 115, 115, 117, 109, 101])
  case true =>
    obtain rfl : f = 122 := by rw [← HF.out]; simp only [stmtF, kIf, kWhile, kReturn, kAssert, kAssume, h1, h2, h3, h4, h5]; rfl
    go_wp2
    go_ret
    exact ⟨rfl, hb⟩
  case false =>
  go_wp2_with fail
  refine (HI.out).mono ?_
  rintro e w2 ⟨rfl, rfl⟩
  cases h6 : typeB t.text
  · obtain rfl : f = 124 := by rw [← HF.out]; simp only [stmtF, kIf, kWhile, kReturn, kAssert, kAssume, h1, h2, h3, h4, h5, h6]; rfl
    go_wp2
    go_ret
    exact ⟨rfl, hb⟩
  · obtain rfl : f = 123 := by rw [← HF.out]; simp only [stmtF, kIf, kWhile, kReturn, kAssert, kAssume, h1, h2, h3, h4, h5, h6]; rfl
    go_wp2
    go_ret
    exact ⟨rfl, hb⟩
end Go.Proofs.YtnalgnklgmoepaaGreatDoor
