/- What the parser hands back can be shown (plain). -/
import Derived.Test.YtnalgnklgmoepaaGreatDoorMWn
import Derived.Test.YtnalgnklgmoepaaGreatDoorMWj
set_option linter.all false
namespace Go.Proofs.YtnalgnklgmoepaaGreatDoor
open Go Go.RowKit

/-- A token as Lex tells them. -/
structure TokOk (t : Tok) : Prop where
  name : t.kind = 0 → scanN 0 t.text = true
  num : t.kind = 1 → 0 ≤ t.num ∧ t.num < 18446744073709551616 ∧ (Lib.decDigits t.num.toNat).length ≤ 2 * t.text.length
  len : t.text.length ≤ 65536
  ne : t.kind ≠ 3 → t.text ≠ []
def ch : List Tok → Nat
  | [] => 0
  | t :: r => t.text.length + ch r
def AllOk (l : List Tok) : Prop := (∀ t ∈ l, TokOk t) ∧ ch l ≤ 1000000
/-- What a call of the parser hands back, if it does: it has taken k letters, and S. -/
def PI {α : Type} (S : α → Nat → Prop) (l : List Tok) (p : PR α) : Prop := ∀ a l', p = .ok a l' → AllOk l' ∧ ∃ k, ch l = ch l' + k ∧ S a k
section
variable {α β : Type} {S : α → Nat → Prop} {S' : β → Nat → Prop} {l : List Tok}
theorem PI.ok {a : α} (hl : AllOk l) (h : S a 0) : PI S l (.ok a l) := fun a' l' e => by injection e with e1 e2; subst e1 e2; exact ⟨hl, 0, rfl, h⟩
theorem PI.bad (x y c : Int) : PI S l (.bad x y c) := fun _ _ e => by cases e
theorem PI.out : PI S l .out := fun _ _ e => by cases e
theorem PI.bind {p : PR α} {f : α → List Tok → PR β} (h : PI S l p) (hf : ∀ a l1 k, AllOk l1 → ch l = ch l1 + k → S a k → PI (fun b k2 => S' b (k + k2)) l1 (f a l1)) : PI S' l (p.bind f) := by
  intro b l2 e
  cases p with
  | ok a l1 =>
    obtain ⟨h1, k, h2, h3⟩ := h a l1 rfl
    obtain ⟨h4, k2, h5, h6⟩ := hf a l1 k h1 h2 h3 b l2 e
    exact ⟨h4, k + k2, by omega, h6⟩
  | bad x y c => cases e
  | out => cases e
theorem PI.mono {S2 : α → Nat → Prop} {p : PR α} (h : PI S l p) (hs : ∀ a k, S a k → S2 a k) : PI S2 l p := fun a l' e => by
  obtain ⟨h1, k, h2, h3⟩ := h a l' e
  exact ⟨h1, k, h2, hs a k h3⟩
end
theorem pi_take {may : Bool} {l : List Tok} (hl : AllOk l) : PI (fun t k => t = hdT l ∧ may = true ∧ TokOk t ∧ k = t.text.length) l (takeP may l) := by
  cases l with
  | nil => exact PI.bad _ _ _
  | cons t r =>
    rw [takeP]
    cases may
    · exact PI.bad _ _ _
    · intro a l' e
      injection e with e1 e2
      subst e1 e2
      exact ⟨⟨fun u hu => hl.1 u (by simp [hu]), by have := hl.2; rw [ch] at this; omega⟩, t.text.length, by rw [ch]; omega, rfl, rfl, hl.1 t (by simp), rfl⟩
theorem pi_pass1 (x : List UInt8) {l : List Tok} (hl : AllOk l) : PI (fun _ k => k = x.length) l (passP [x] l) := by
  unfold passP
  refine (pi_take hl).bind fun t l1 k h1 _ h => ?_
  obtain ⟨rfl, hm, _, rfl⟩ := h
  have : (hdT l).text = x := by simpa using hm
  rw [this]
  exact PI.ok h1 rfl
theorem pi_pass : ∀ (xs : List (List UInt8)) {l : List Tok}, AllOk l → PI (fun _ k => xs.length ≤ k ∨ (∃ x ∈ xs, x = [])) l (passP xs l)
  | [], _, hl => PI.ok hl (.inl (by simp))
  | x :: xs, l, hl => by
    unfold passP
    refine (pi_take hl).bind fun t l1 k h1 _ h => ?_
    obtain ⟨rfl, hm, _, rfl⟩ := h
    have : (hdT l).text = x := by simpa using hm
    refine (pi_pass xs h1).mono fun _ k2 h2 => ?_
    rw [this]
    rcases h2 with h2 | ⟨y, hy, e⟩
    · cases x with
      | nil => exact .inr ⟨[], by simp, rfl⟩
      | cons b r => exact .inl (by simp; omega)
    · exact .inr ⟨y, by simp [hy], e⟩
theorem pi_passN (xs : List (List UInt8)) (hx : ∀ x ∈ xs, x ≠ []) {l : List Tok} (hl : AllOk l) : PI (fun _ k => xs.length ≤ k) l (passP xs l) :=
  (pi_pass xs hl).mono fun _ _ h => h.resolve_right fun ⟨x, h1, h2⟩ => hx x h1 h2
theorem pi_deeper {S : Tree → Nat → Prop} {d : Int} {p : Int → List Tok → PR Tree} {l : List Tok} (h : PI S l (p (d + 1) l)) : PI S l (deeperP d p l) := by
  unfold deeperP
  split
  · exact PI.bad _ _ _
  · exact h
/-- Nodes that were read one behind the other. -/
def PL (P : Tree → Nat → Prop) : List Tree → Nat → Prop
  | [], _ => True
  | t :: r, k => ∃ k1 k2, P t k1 ∧ PL P r k2 ∧ k1 + k2 ≤ k
theorem PL.mono {P : Tree → Nat → Prop} : ∀ {ts : List Tree} {k k' : Nat}, PL P ts k → k ≤ k' → PL P ts k'
  | [], _, _, _, _ => trivial
  | _ :: _, _, _, ⟨k1, k2, h1, h2, h3⟩, h => ⟨k1, k2, h1, h2, by omega⟩
theorem PL.snoc {P : Tree → Nat → Prop} {t : Tree} {k2 : Nat} (h2 : P t k2) : ∀ {ts : List Tree} {k1 : Nat}, PL P ts k1 → PL P (ts ++ [t]) (k1 + k2)
  | [], k1, _ => ⟨k2, 0, h2, trivial, by omega⟩
  | _ :: _, _, ⟨a, b, h3, h4, h5⟩ => ⟨a, b + k2, h3, PL.snoc h2 h4, by omega⟩
theorem PL.len {P : Tree → Nat → Prop} (hp : ∀ t k, P t k → 1 ≤ k) : ∀ {ts : List Tree} {k : Nat}, PL P ts k → ts.length ≤ k
  | [], _, _ => by simp
  | t :: r, _, ⟨a, b, h1, h2, h3⟩ => by have := hp t a h1; have := PL.len hp h2; simp; omega
theorem PL.mem {P : Tree → Nat → Prop} : ∀ {ts : List Tree} {k : Nat}, PL P ts k → ∀ t ∈ ts, ∃ k1, P t k1
  | t :: r, _, ⟨a, b, h1, h2, _⟩, u, hu => by
    rcases List.mem_cons.1 hu with rfl | hu
    · exact ⟨a, h1⟩
    · exact PL.mem h2 u hu
  | [], _, _, u, hu => by simp at hu
theorem pi_many {P : Tree → Nat → Prop} {stop : Tok → Bool} {p : List Tok → PR Tree} (hp : ∀ l, AllOk l → PI P l (p l)) : ∀ (n : Nat) (acc : List Tree) (l : List Tok) (k0 : Nat), AllOk l → PL P acc k0 → PI (fun ts k => PL P ts (k0 + k)) l (manyP stop p n acc l)
  | 0, _, _, _, _, _ => PI.out
  | n + 1, acc, l, k0, hl, ha => by
    rw [manyP]
    split
    · exact PI.ok hl ha
    · refine (hp l hl).bind fun t l1 k h1 _ h => ?_
      exact (pi_many hp n (acc ++ [t]) l1 (k0 + k) h1 (ha.snoc h)).mono fun ts k2 h2 => by rw [← Nat.add_assoc]; exact h2

/-! ### What can be shown -/
/-- f shows t, with words that take at most so much. -/
def PW (f : (WT → Tree → Ws) → Tree → Ws) (add : Nat) (t : Tree) (k : Nat) : Prop := deepT t ≤ k ∧ Neat t ∧ ∀ m, deepT t ≤ m + 1 → ∃ ws, f (runW m) t = some ws ∧ (∀ w ∈ ws, wordB w = true) ∧ lenW ws + add ≤ 7 * k
theorem PW.more {f : (WT → Tree → Ws) → Tree → Ws} {add : Nat} {t : Tree} {k k' : Nat} (h : PW f add t k) (hk : k ≤ k') : PW f add t k' :=
  ⟨Nat.le_trans h.1 hk, h.2.1, fun m hm => by obtain ⟨ws, h1, h2, h3⟩ := h.2.2 m hm; exact ⟨ws, h1, h2, by omega⟩⟩
abbrev EW : Tree → Nat → Prop := PW exprW 4
theorem deep_pos (t : Tree) : 1 ≤ deepT t := by cases t; rw [deepT]; omega
theorem deepL_max : ∀ (ts : List Tree) (m j : Nat), m ≤ j → (∀ t ∈ ts, deepT t ≤ j) → deepL m ts ≤ j
  | [], m, j, h, _ => by rw [deepL]; exact h
  | t :: r, m, j, h, ht => by
    rw [deepL]
    exact deepL_max r _ j (Nat.max_le.2 ⟨h, ht t (by simp)⟩) (fun u hu => ht u (by simp [hu]))
theorem deepN {k x : List UInt8} {n l c : Int} {ks : List Tree} {j : Nat} (h1 : 1 ≤ j) (h : ∀ t ∈ ks, deepT t + 1 ≤ j) : deepT (.mk k x n l c ks) ≤ j := by
  have := deepL_max ks 0 (j - 1) (by omega) (fun t ht => by have := h t ht; omega)
  rw [deepT]
  omega
theorem deep0 {k x : List UInt8} {n l c : Int} {j : Nat} (h : 1 ≤ j) : deepT (.mk k x n l c []) ≤ j := deepN h (fun t ht => by simp at ht)
theorem deep1 {k x : List UInt8} {n l c : Int} {a : Tree} {j : Nat} (h : deepT a + 1 ≤ j) : deepT (.mk k x n l c [a]) ≤ j := deepN (by omega) (fun t ht => by obtain rfl : t = a := (by simpa using ht); exact h)
theorem deep2 {k x : List UInt8} {n l c : Int} {a b : Tree} {j : Nat} (h : deepT a + 1 ≤ j) (h2 : deepT b + 1 ≤ j) : deepT (.mk k x n l c [a, b]) ≤ j := deepN (by omega) (fun t ht => by
  simp only [List.mem_cons, List.not_mem_nil, or_false] at ht
  rcases ht with rfl | rfl
  · exact h
  · exact h2)
theorem deep3 {k x : List UInt8} {n l c : Int} {a b d : Tree} {j : Nat} (h : deepT a + 1 ≤ j) (h2 : deepT b + 1 ≤ j) (h3 : deepT d + 1 ≤ j) : deepT (.mk k x n l c [a, b, d]) ≤ j := deepN (by omega) (fun t ht => by
  simp only [List.mem_cons, List.not_mem_nil, or_false] at ht
  rcases ht with rfl | rfl | rfl
  · exact h
  · exact h2
  · exact h3)
theorem PL.memle {P : Tree → Nat → Prop} : ∀ {ts : List Tree} {k : Nat}, PL P ts k → ∀ t ∈ ts, ∃ k1, P t k1 ∧ k1 ≤ k
  | t :: r, _, ⟨a, b, h1, h2, _⟩, u, hu => by
    rcases List.mem_cons.1 hu with rfl | hu
    · exact ⟨a, h1, by omega⟩
    · obtain ⟨k1, h3, h4⟩ := PL.memle h2 u hu
      exact ⟨k1, h3, by omega⟩
  | [], _, _, u, hu => by simp at hu
/-- An expression, one deeper. -/
theorem EW.rec {t : Tree} {k : Nat} (h : EW t k) {m : Nat} (hm : deepT t ≤ m) : ∃ ws, runW m .expr t = some ws ∧ (∀ w ∈ ws, wordB w = true) ∧ lenW ws + 4 ≤ 7 * k := by
  have := deep_pos t
  obtain ⟨j, rfl⟩ : ∃ j, m = j + 1 := ⟨m - 1, by omega⟩
  exact h.2.2 j hm
theorem EW.operand {t : Tree} {k : Nat} (h : EW t k) {m : Nat} (hm : deepT t ≤ m) : ∃ ws, operandW (runW m) t = some ws ∧ (∀ w ∈ ws, wordB w = true) ∧ lenW ws ≤ 7 * k := by
  obtain ⟨ws, h1, h2, h3⟩ := h.rec hm
  unfold operandW
  split
  · refine ⟨[[40]] ++ (ws ++ [[41]]), by rw [h1]; rfl, fun w hw => ?_, by rw [lenW_app, lenW_app]; simp [lenW]; omega⟩
    simp only [List.mem_append, List.mem_singleton] at hw
    rcases hw with rfl | hw | rfl
    · decide
    · exact h2 w hw
    · decide
  · exact ⟨ws, h1, h2, by omega⟩
theorem name_of {t : Tok} (ht : TokOk t) (h : nameB t = true) : isNameL t.text = true ∧ 1 ≤ t.text.length := by
  simp only [nameB, Bool.and_eq_true, beq_iff_eq, Bool.not_eq_true'] at h
  have h1 := ht.name h.1
  have h2 := ht.ne (by rw [h.1]; decide)
  refine ⟨?_, by cases hx : t.text with | nil => exact absurd hx h2 | cons b r => simp⟩
  unfold isNameL
  rw [h1, h.2]
  simpa using h2
theorem type_word {x : List UInt8} (h : typeB x = true) : wordB x = true ∧ 2 ≤ x.length ∧ x.length ≤ 4 := by
  have hall : ∀ y ∈ typesL, wordB y = true ∧ 2 ≤ y.length ∧ y.length ≤ 4 := by decide
  exact hall x (type_in h)
theorem op_word {x : List UInt8} (h : 0 ≤ levelI x) : wordB x = true ∧ 1 ≤ x.length ∧ x.length ≤ 2 := by
  have hall : ∀ y ∈ ([[124, 124], [38, 38], [124], [94], [38], [61, 61], [33, 61], [60], [60, 61], [62], [62, 61], [60, 60], [62, 62], [43], [45], [42], [47], [37]] : List (List UInt8)), wordB y = true ∧ 1 ≤ y.length ∧ y.length ≤ 2 := by decide
  exact hall x (op_in h)
theorem all_app {a b : List (List UInt8)} (ha : ∀ w ∈ a, wordB w = true) (hb : ∀ w ∈ b, wordB w = true) : ∀ w ∈ a ++ b, wordB w = true := fun w hw => by
  rcases List.mem_append.1 hw with h | h
  · exact ha w h
  · exact hb w h
theorem all_lit {a : List (List UInt8)} (h : (a.all fun w => wordB w) = true) : ∀ w ∈ a, wordB w = true := fun w hw => by
  rw [List.all_eq_true] at h
  exact h w hw
theorem ew_name {x : List UInt8} (hx : isNameL x = true) (h1 : 1 ≤ x.length) (h2 : x.length ≤ 65536) (ln co : Int) : PW targetW 4 (.mk kName x 0 ln co []) x.length := by
  refine ⟨deep0 h1, ⟨by decide, by omega, by decide, by decide, by simp, trivial⟩, fun m _ => ⟨[x], ?_, fun w hw => ?_, by simp [lenW]; omega⟩⟩
  · rw [targetW_mk, if_neg (by decide)]
    simp [ifW, hx]
  · obtain rfl : w = x := by simpa using hw
    exact word_name hx
theorem ew_index {x : List UInt8} (hx : isNameL x = true) (h1 : 1 ≤ x.length) (h2 : x.length ≤ 65536) (ln co : Int) {e : Tree} {k k' : Nat} (he : EW e k) (hk : x.length + 2 + k ≤ k') : PW targetW 4 (.mk kIndex x 0 ln co [e]) k' := by
  refine ⟨deep1 (by have := he.1; omega), ⟨by decide, by omega, by decide, by decide, by simp, he.2.1, trivial⟩, fun m hm => ?_⟩
  have hd := kid_deep (t := e) (ks := [e]) (by simp) kIndex x 0 ln co
  obtain ⟨ws, h3, h4, h5⟩ := he.rec (m := m) (by omega)
  refine ⟨[x, [91]] ++ (ws ++ [[93]]), ?_, all_app (fun w hw => ?_) (all_app h4 (all_lit (by decide))), by rw [lenW_app, lenW_app]; simp [lenW]; omega⟩
  · rw [targetW_mk, if_pos (by decide)]
    simp [ifW, hx, catW, h3]
  · simp only [List.mem_cons, List.not_mem_nil, or_false] at hw
    rcases hw with rfl | rfl
    · exact word_name hx
    · decide
theorem target_expr {t : Tree} {k : Nat} (h : PW targetW 4 t k) (hk : t.kind = kName ∨ t.kind = kIndex) : EW t k := by
  refine ⟨h.1, h.2.1, fun m hm => ?_⟩
  obtain ⟨ws, h1, h2, h3⟩ := h.2.2 m hm
  refine ⟨ws, ?_, h2, h3⟩
  rw [← h1]
  cases t with
  | mk k x n l c ks =>
    rw [exprW_mk]
    rcases hk with rfl | rfl <;> (rw [if_neg (by decide), if_neg (by decide), if_neg (by decide), if_neg (by decide), if_neg (by decide)])
theorem ew_num (t : Tok) (ht : TokOk t) (hk : t.kind = 1) : EW (.mk kNum [] t.num t.line t.col []) t.text.length ∧ PW (fun _ => numberW) 4 (.mk kNum [] t.num t.line t.col []) t.text.length := by
  obtain ⟨h0, h1, h2⟩ := ht.num hk
  have hne := ht.ne (by rw [hk]; decide)
  have hl : 1 ≤ t.text.length := by cases hx : t.text with | nil => exact absurd hx hne | cons b r => simp
  have hN : Neat (.mk kNum [] t.num t.line t.col []) := ⟨by decide, by simp, h0, h1, by simp, trivial⟩
  have hw : ∀ w ∈ [Lib.decDigits t.num.toNat], wordB w = true := fun w hw => by
    obtain rfl : w = _ := by simpa using hw
    exact word_dec _ (by omega)
  have hlen : lenW [Lib.decDigits t.num.toNat] + 4 ≤ 7 * t.text.length := by simp [lenW]; omega
  have e : numberW (.mk kNum [] t.num t.line t.col []) = some [Lib.decDigits t.num.toNat] := by rw [numberW_mk]; rfl
  refine ⟨⟨deep0 hl, hN, fun m _ => ⟨_, ?_, hw, hlen⟩⟩, ⟨deep0 hl, hN, fun m _ => ⟨_, e, hw, hlen⟩⟩⟩
  rw [exprW_mk, if_neg (by decide), if_neg (by decide), if_neg (by decide), if_neg (by decide), if_pos (by decide), e]
theorem ew_true {x : List UInt8} (h : (x == kTrue || x == kFalse) = true) (ln co : Int) : EW (.mk x [] 0 ln co []) x.length := by
  simp only [Bool.or_eq_true, beq_iff_eq] at h
  rcases h with rfl | rfl
  · exact ⟨deep0 (by decide), ⟨by decide, by simp, by decide, by decide, by simp, trivial⟩, fun m _ => ⟨[kTrue], rfl, all_lit (by decide), by decide⟩⟩
  · exact ⟨deep0 (by decide), ⟨by decide, by simp, by decide, by decide, by simp, trivial⟩, fun m _ => ⟨[kFalse], rfl, all_lit (by decide), by decide⟩⟩
theorem ew_unary {x : List UInt8} (h : unaryB x = true) (ln co : Int) {e : Tree} {k k' : Nat} (he : EW e k) (hk : 1 + k ≤ k') : EW (.mk kUnary x 0 ln co [e]) k' := by
  have hx : x.length = 1 ∧ wordB x = true := by rcases unary_in h with rfl | rfl | rfl <;> decide
  refine ⟨deep1 (by have := he.1; omega), ⟨by decide, by omega, by decide, by decide, by simp, he.2.1, trivial⟩, fun m hm => ?_⟩
  have hd := kid_deep (t := e) (ks := [e]) (by simp) kUnary x 0 ln co
  obtain ⟨ws, h3, h4, h5⟩ := he.operand (m := m) (by omega)
  refine ⟨[x] ++ ws, ?_, all_app (fun w hw => by obtain rfl : w = x := (by simpa using hw); exact hx.2) h4, by rw [lenW_app]; simp [lenW]; omega⟩
  rw [exprW_mk, if_neg (by decide), if_pos (by decide)]
  simp [ifW, h, catW, h3]
theorem ew_cast {x : List UInt8} (h : typeB x = true) (ln co : Int) {e : Tree} {k k' : Nat} (he : EW e k) (hk : x.length + 2 + k ≤ k') : EW (.mk kCast x 0 ln co [e]) k' := by
  obtain ⟨hw, h1, h2⟩ := type_word h
  refine ⟨deep1 (by have := he.1; omega), ⟨by decide, by omega, by decide, by decide, by simp, he.2.1, trivial⟩, fun m hm => ?_⟩
  have hd := kid_deep (t := e) (ks := [e]) (by simp) kCast x 0 ln co
  obtain ⟨ws, h3, h4, h5⟩ := he.operand (m := m) (by omega)
  refine ⟨[[40], x, [41]] ++ ws, ?_, all_app (fun w hw' => ?_) h4, by rw [lenW_app]; simp [lenW]; omega⟩
  · rw [exprW_mk, if_neg (by decide), if_neg (by decide), if_pos (by decide)]
    simp [ifW, h, catW, h3]
  · simp only [List.mem_cons, List.not_mem_nil, or_false] at hw'
    rcases hw' with rfl | rfl | rfl
    · decide
    · exact hw
    · decide
theorem ew_binary {x : List UInt8} (h : 0 ≤ levelI x) (ln co : Int) {a b : Tree} {k1 k2 k' : Nat} (ha : EW a k1) (hb : EW b k2) (hk : k1 + x.length + k2 ≤ k') : EW (.mk kBinary x 0 ln co [a, b]) k' := by
  obtain ⟨hw, h1, h2⟩ := op_word h
  refine ⟨deep2 (by have := ha.1; omega) (by have := hb.1; omega), ⟨by decide, by omega, by decide, by decide, by simp, ha.2.1, hb.2.1, trivial⟩, fun m hm => ?_⟩
  have hd := kid_deep (t := a) (ks := [a, b]) (by simp) kBinary x 0 ln co
  have hd2 := kid_deep (t := b) (ks := [a, b]) (by simp) kBinary x 0 ln co
  obtain ⟨wa, h3, h4, h5⟩ := ha.operand (m := m) (by omega)
  obtain ⟨wb, h6, h7, h8⟩ := hb.operand (m := m) (by omega)
  refine ⟨wa ++ ([x] ++ wb), ?_, all_app h4 (all_app (fun w hw' => by obtain rfl : w = x := (by simpa using hw'); exact hw) h7), by rw [lenW_app, lenW_app]; simp [lenW]; omega⟩
  rw [exprW_mk, if_pos (by decide)]
  simp [ifW, h, catW, h3, h6]
end Go.Proofs.YtnalgnklgmoepaaGreatDoor
