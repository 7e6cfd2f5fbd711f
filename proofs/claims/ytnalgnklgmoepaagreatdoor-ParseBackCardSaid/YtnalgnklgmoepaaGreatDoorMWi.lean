/- What is shown is read again (plain): words as tokens, and how expressions begin. -/
import Derived.Test.YtnalgnklgmoepaaGreatDoorMWg
import Derived.Test.YtnalgnklgmoepaaGreatDoorMbar
set_option linter.all false
namespace Go.Proofs.YtnalgnklgmoepaaGreatDoor
open Go Go.RowKit

def T (w : List UInt8) : Tok := ⟨firstK w, w, if firstK w = 1 then (numL w).getD 0 else 0, 0, 0⟩
def TS (ws : List (List UInt8)) : List Tok := ws.map T
theorem TS_app (a b : List (List UInt8)) (l : List Tok) : TS (a ++ b) ++ l = TS a ++ (TS b ++ l) := by simp [TS]
theorem TS_cons (w : List UInt8) (ws : List (List UInt8)) (l : List Tok) : TS (w :: ws) ++ l = T w :: (TS ws ++ l) := rfl
theorem TS_nil (l : List Tok) : TS [] ++ l = l := rfl
theorem hd_T (w : List UInt8) (l : List Tok) : (hdT (T w :: l)).text = w := rfl

/-- It runs out, or hands back what it should and leaves l, or is too deep, and then D. -/
def Rs {α : Type} (D : Prop) (S : α → Prop) (p : PR α) (l : List Tok) : Prop := p = .out ∨ (∃ a, p = .ok a l ∧ S a) ∨ ∃ x y, p = .bad x y 31 ∧ D
section
variable {α β : Type} {D : Prop} {S : α → Prop} {S' : β → Prop} {l l' : List Tok}
theorem Rs.ok {a : α} (h : S a) : Rs D S (.ok a l) l := .inr (.inl ⟨a, rfl, h⟩)
theorem Rs.out : Rs D S (.out : PR α) l := .inl rfl
theorem Rs.deep {x y : Int} (h : D) : Rs D S (.bad x y 31 : PR α) l := .inr (.inr ⟨x, y, rfl, h⟩)
theorem Rs.bind {p : PR α} {f : α → List Tok → PR β} (h : Rs D S p l) (hf : ∀ a, S a → Rs D S' (f a l) l') : Rs D S' (p.bind f) l' := by
  rcases h with rfl | ⟨a, rfl, ha⟩ | ⟨x, y, rfl, hd⟩
  · exact Rs.out
  · exact hf a ha
  · exact Rs.deep hd
end
theorem take_T (t : Tok) (l : List Tok) : takeP true (t :: l) = .ok t l := rfl
theorem pass_T (w : List UInt8) (l : List Tok) : passP [w] (T w :: l) = .ok () l := by simp [passP, takeP, hdT, T, PR.bind]
theorem pass_T2 (w v : List UInt8) (l : List Tok) : passP [w, v] (T w :: T v :: l) = .ok () l := by simp [passP, takeP, hdT, T, PR.bind]
theorem rs_deeper {D : Prop} {S : Tree → Prop} {d : Int} {p : Int → List Tok → PR Tree} {l l' : List Tok} (hd : d = 60 → D) (h : Rs D S (p (d + 1) l) l') : Rs D S (deeperP d p l) l' := by
  unfold deeperP
  by_cases h6 : d = 60
  · rw [if_pos h6]; exact Rs.deep (hd h6)
  · rw [if_neg h6]; exact h

/-! ### Words -/
theorem name_parts {x : List UInt8} (h : isNameL x = true) : ∃ b r, x = b :: r ∧ letB b.toNat = true ∧ keyL x = false := by
  unfold isNameL at h
  cases x with
  | nil => simp at h
  | cons b r =>
    simp only [scanN, Bool.and_eq_true, Bool.or_eq_true, Bool.not_eq_true', beq_iff_eq] at h
    refine ⟨b, r, rfl, ?_, h.2.2⟩
    rcases h.1.1 with h1 | h1
    · exact h1
    · simp at h1
theorem name_kind {x : List UInt8} (h : isNameL x = true) : nameB (T x) = true := by
  obtain ⟨b, r, rfl, hb, hk⟩ := name_parts h
  simp [nameB, T, firstK, hb, hk]
theorem name_ne {x w : List UInt8} (h : isNameL x = true) (hw : isNameL w = false) : x ≠ w := fun e => by rw [e, hw] at h; cases h
theorem type_in {x : List UInt8} (h : typeB x = true) : x ∈ typesL := by
  have : ∀ (L : List (List UInt8)), keyFrom x L = true → x ∈ L := by
    intro L
    induction L with
    | nil => intro h; simp [keyFrom] at h
    | cons g r ih =>
      intro h
      rw [keyFrom] at h
      by_cases he : g = x
      · simp [he]
      · rw [if_neg he] at h; simp [ih h]
  exact this _ h
theorem name_type {x : List UInt8} (h : isNameL x = true) : typeB x = false := by
  cases ht : typeB x with
  | false => rfl
  | true =>
    have := type_in ht
    obtain ⟨b, r, e, _, hk⟩ := name_parts h
    have hall : ∀ y ∈ typesL, keyL y = true := by decide
    rw [hall x this] at hk
    cases hk
theorem key_in {x : List UInt8} (h : x ∈ keysL) : keyL x = true := by
  have : ∀ (L : List (List UInt8)), x ∈ L → keyFrom x L = true := by
    intro L
    induction L with
    | nil => intro h; simp at h
    | cons g r ih =>
      intro h
      rw [keyFrom]
      by_cases he : g = x
      · rw [if_pos he]
      · rw [if_neg he]
        rcases List.mem_cons.1 h with h | h
        · exact absurd h.symm he
        · exact ih h
  exact this _ h
theorem digit_byte (k : Nat) (h : k < 10) : (UInt8.ofNat (48 + k)).toNat = 48 + k := by
  rw [UInt8.toNat_ofNat']; omega
theorem dec_all (u : Nat) : ∀ b ∈ Lib.decDigits u, 48 ≤ b.toNat ∧ b.toNat ≤ 57 := by
  induction u using Nat.strongRecOn with
  | _ u ih =>
    intro b hb
    rw [Lib.decDigits] at hb
    by_cases h : u < 10
    · rw [dif_pos h] at hb
      obtain rfl : b = UInt8.ofNat (48 + u) := by simpa using hb
      rw [digit_byte u h]; omega
    · rw [dif_neg h] at hb
      rcases List.mem_append.1 hb with hb | hb
      · exact ih (u / 10) (by omega) b hb
      · obtain rfl : b = UInt8.ofNat (48 + u % 10) := by simpa using hb
        rw [digit_byte _ (by omega)]; omega
theorem dec_ne (u : Nat) : Lib.decDigits u ≠ [] := by
  rw [Lib.decDigits]
  by_cases h : u < 10
  · rw [dif_pos h]; simp
  · rw [dif_neg h]; simp
theorem dec_head (u : Nat) : ∃ b r, Lib.decDigits u = b :: r ∧ 48 ≤ b.toNat ∧ b.toNat ≤ 57 := by
  cases h : Lib.decDigits u with
  | nil => exact absurd h (dec_ne u)
  | cons b r => exact ⟨b, r, rfl, dec_all u b (by rw [h]; simp)⟩
theorem num_app : ∀ (l : List UInt8) (acc : Int) (b : UInt8), numFrom 10 acc (l ++ [b]) = (numFrom 10 acc l).bind fun a => numFrom 10 a [b]
  | [], acc, b => by simp [numFrom]
  | c :: r, acc, b => by
    rw [List.cons_append, numFrom, numFrom]
    split
    · rfl
    · exact num_app r _ b
theorem dig_of (k : Nat) (h : k < 10) : digI ((UInt8.ofNat (48 + k)).toNat : Int) = k := by
  rw [digit_byte k h]
  unfold digI
  rw [if_pos (by omega)]
  omega
theorem num_one (k : Nat) (h : k < 10) (a : Int) (ha : a * 10 + k ≤ 18446744073709551615) : numFrom 10 a [UInt8.ofNat (48 + k)] = some (a * 10 + k) := by
  rw [numFrom, dig_of k h, if_neg (by omega), numFrom]
theorem dec_from (u : Nat) (hu : u ≤ 18446744073709551615) : numFrom 10 0 (Lib.decDigits u) = some (u : Int) := by
  induction u using Nat.strongRecOn with
  | _ u ih =>
    rw [Lib.decDigits]
    by_cases h : u < 10
    · rw [dif_pos h, num_one u h 0 (by omega)]; simp
    · rw [dif_neg h, num_app, ih (u / 10) (by omega) (by omega), Option.bind_some, num_one (u % 10) (by omega) _ (by omega)]
      congr 1
      omega
theorem dec_hex (u : Nat) : Lib.hasPrefix (Lib.decDigits u) hexP = false := by
  cases h : Lib.decDigits u with
  | nil => rfl
  | cons b r =>
    cases r with
    | nil => cases hh : Lib.hasPrefix [b] hexP with
      | false => rfl
      | true => simp [Lib.hasPrefix, hexP] at hh
    | cons c r =>
      have hc := dec_all u c (by rw [h]; simp)
      cases hh : Lib.hasPrefix (b :: c :: r) hexP with
      | false => rfl
      | true =>
        exfalso
        simp [Lib.hasPrefix, hexP] at hh
        obtain ⟨h1, h2⟩ := hh
        subst h2
        revert hc
        decide
theorem dec_num (u : Nat) (hu : u ≤ 18446744073709551615) : numL (Lib.decDigits u) = some (u : Int) := by
  rw [numL, if_neg (by rw [dec_hex]; simp), if_neg (dec_ne u), dec_from u hu]
theorem dec_kind (u : Nat) : firstK (Lib.decDigits u) = 1 := by
  obtain ⟨b, r, e, h1, h2⟩ := dec_head u
  rw [e, firstK]
  have hl : letB (b.toNat : Int) = false := by unfold letB; simp; omega
  have hd : digI (b.toNat : Int) < 10 := by unfold digI; rw [if_pos (by omega)]; omega
  rw [hl, if_neg (by simp), if_pos hd]
theorem T_dec (u : Nat) (hu : u ≤ 18446744073709551615) : T (Lib.decDigits u) = ⟨1, Lib.decDigits u, u, 0, 0⟩ := by
  unfold T
  rw [dec_kind, if_pos rfl, dec_num u hu]; rfl
/-- How an expression begins. -/
structure HeadE (w : List UInt8) : Prop where
  type : typeB w = false
  paren : w ≠ [41]
  nondet : w ≠ kNondet
  semi : w ≠ [59]
theorem head_name {x : List UInt8} (h : isNameL x = true) : HeadE x := ⟨name_type h, name_ne h (by decide), name_ne h (by decide), name_ne h (by decide)⟩
theorem head_dec (u : Nat) : HeadE (Lib.decDigits u) := by
  obtain ⟨b, r, e, h1, h2⟩ := dec_head u
  rw [e]
  have hne : ∀ (c : UInt8) (s : List UInt8), (57 < c.toNat ∨ c.toNat < 48) → b :: r ≠ c :: s := fun c s hc he => by injection he with e1; subst e1; omega
  refine ⟨?_, hne _ _ (by decide), hne _ _ (by decide), hne _ _ (by decide)⟩
  cases ht : typeB (b :: r) with
  | false => rfl
  | true =>
    have := type_in ht
    simp only [typesL, List.mem_cons, List.not_mem_nil, or_false] at this
    rcases this with h | h | h | h | h | h | h | h | h <;> exact absurd h (hne _ _ (by decide))
theorem unary_in {x : List UInt8} (h : unaryB x = true) : x = [33] ∨ x = [126] ∨ x = [45] := by
  simp only [unaryB, Bool.or_eq_true, beq_iff_eq] at h
  rcases h with (h | h) | h <;> simp [h]
theorem head_lit {w : List UInt8} (h : (typeB w || (w == [41] || (w == kNondet || w == [59]))) = false) : HeadE w := by
  simp only [Bool.or_eq_false_iff, beq_eq_false_iff_ne] at h
  exact ⟨h.1, h.2.1, h.2.2.1, h.2.2.2⟩
theorem op_in {x : List UInt8} (h : 0 ≤ levelI x) : x ∈ [[124, 124], [38, 38], [124], [94], [38], [61, 61], [33, 61], [60], [60, 61], [62], [62, 61], [60, 60], [62, 62], [43], [45], [42], [47], [37]] := by
  by_cases hc : ([[124, 124], [38, 38], [124], [94], [38], [61, 61], [33, 61], [60], [60, 61], [62], [62, 61], [60, 60], [62, 62], [43], [45], [42], [47], [37]] : List (List UInt8)).contains x = true
  · simpa using hc
  · exfalso
    simp only [Bool.not_eq_true, List.contains_cons, List.contains_nil, Bool.or_false, Bool.or_eq_false_iff] at hc
    obtain ⟨h0, h1, h2, h3, h4, h5, h6, h7, h8, h9, h10, h11, h12, h13, h14, h15, h16, h17⟩ := hc
    have : levelI x = -1 := by simp only [levelI, levelsL, levelFrom, List.contains_cons, List.contains_nil, Bool.or_false, h0, h1, h2, h3, h4, h5, h6, h7, h8, h9, h10, h11, h12, h13, h14, h15, h16, h17, Bool.false_eq_true, if_false, reduceIte, Bool.or_self]
    omega

/-! ### The writer at a node that is spelled out -/
section
variable (rec : WT → Tree → Ws) (k x : List UInt8) (m ln co : Int) (ks : List Tree)
theorem namedT_mk : namedT (.mk k x m ln co ks) = (isNameL x && m == 0) := rfl
theorem bareT_mk : bareT (.mk k x m ln co ks) = (x == [] && m == 0) := rfl
theorem numberW_mk : numberW (.mk k x m ln co ks) = ifW (k == kNum && (x == [] && ks.length == 0)) (some [Lib.decDigits m.toNat]) := rfl
theorem targetW_mk : targetW rec (.mk k x m ln co ks) = if k == kIndex then
    match ks with
    | [e] => ifW (isNameL x && m == 0) (catW (some [x, [91]]) (catW (rec .expr e) (some [[93]])))
    | _ => none
  else ifW (k == kName && (isNameL x && m == 0) && ks.length == 0) (some [x]) := rfl
theorem exprW_mk : exprW rec (.mk k x m ln co ks) = if k == kBinary then
    match ks with
    | [a, b] => ifW (decide (0 ≤ levelI x) && m == 0) (catW (operandW rec a) (catW (some [x]) (operandW rec b)))
    | _ => none
  else if k == kUnary then
    match ks with
    | [a] => ifW (unaryB x && m == 0) (catW (some [x]) (operandW rec a))
    | _ => none
  else if k == kCast then
    match ks with
    | [a] => ifW (typeB x && m == 0) (catW (some [[40], x, [41]]) (operandW rec a))
    | _ => none
  else if k == kTrue || k == kFalse then ifW ((x == [] && m == 0) && ks.length == 0) (some [k])
  else if k == kNum then numberW (.mk k x m ln co ks)
  else targetW rec (.mk k x m ln co ks) := rfl
theorem callW_mk : callW rec (.mk k x m ln co ks) = ifW (k == kCall && (isNameL x && m == 0)) (catW (some [x, [40]]) (catW (commasW (rec .expr) ks) (some [[41]]))) := rfl
theorem guardedW_mk : guardedW rec (.mk k x m ln co ks) = match ks with
  | e :: b :: _ => catW (some [k, [40]]) (catW (rec .expr e) (catW (some [[41]]) (rec .block b)))
  | _ => none := rfl
theorem choiceW_mk : choiceW rec (.mk k x m ln co ks) = ifW (x == [] && m == 0) (match ks with
  | [_, _] => guardedW rec (.mk k x m ln co ks)
  | [_, _, c] => catW (guardedW rec (.mk k x m ln co ks)) (catW (some [kElse]) (rec .block c))
  | _ => none) := rfl
theorem giftW_mk : giftW rec (.mk k x m ln co ks) = ifW (x == [] && m == 0) (match ks with
  | [y] => ifW (k == kNondet) (catW (targetW rec y) (some [[61], kNondet, [40], [41]]))
  | [y, z] => if k == kAssign then catW (targetW rec y) (catW (some [[61]]) (rec .expr z)) else ifW (k == kResult) (catW (targetW rec y) (catW (some [[61]]) (callW rec z)))
  | _ => none) := rfl
theorem declaredW_mk (void : Bool) : declaredW void (.mk k x m ln co ks) = match ks with
  | u :: _ => ifW (u.kind == kType && (u.num == 0 && u.kids.length == 0) && (typeB u.text || void && u.text == kVoid)) (some [u.text, x])
  | [] => none := rfl
theorem paramW_mk : paramW (.mk k x m ln co ks) = ifW (k == kParam && (isNameL x && m == 0) && ks.length == 1) (declaredW false (.mk k x m ln co ks)) := rfl
theorem stmtW_mk : stmtW rec (.mk k x m ln co ks) = if k == kIf then choiceW rec (.mk k x m ln co ks)
  else if k == kWhile then ifW ((x == [] && m == 0) && ks.length == 2) (guardedW rec (.mk k x m ln co ks))
  else if k == kLocal then ifW ((isNameL x && m == 0) && ks.length == 1) (semiW (declaredW false (.mk k x m ln co ks)))
  else if k == kCall then semiW (callW rec (.mk k x m ln co ks))
  else if k == kReturn then ifW ((x == [] && m == 0) && decide (ks.length ≤ 1)) (semiW (catW (some [kReturn]) (commasW (rec .expr) ks)))
  else if k == kAssert || k == kAssume then
    match ks with
    | [e] => ifW (x == [] && m == 0) (semiW (catW (some [k, [40]]) (catW (rec .expr e) (some [[41]]))))
    | _ => none
  else semiW (giftW rec (.mk k x m ln co ks)) := rfl
theorem blockW_mk : blockW rec (.mk k x m ln co ks) = ifW (k == kBlock && (x == [] && m == 0)) (catW (some [[123]]) (catW (manyW (stmtW rec) ks) (some [[125]]))) := rfl
theorem functionW_mk : functionW rec (.mk k x m ln co ks) = match ks with
  | _ :: v :: r => ifW (isNameL x && m == 0) (catW (declaredW true (.mk k x m ln co ks)) (catW (some [[40]]) (catW (commasW paramW ((v :: r).dropLast)) (catW (some [[41]]) (rec .block ((v :: r).getLast (List.cons_ne_nil v r)))))))
  | _ => none := rfl
theorem globalW_mk : globalW (.mk k x m ln co ks) = ifW (k == kGlobal && (isNameL x && m == 0)) (match ks with
  | [_] => semiW (declaredW false (.mk k x m ln co ks))
  | [_, n] => semiW (catW (declaredW false (.mk k x m ln co ks)) (catW (some [[91]]) (catW (numberW n) (some [[93]]))))
  | _ => none) := rfl
theorem programW_mk (n : Nat) : programW n (.mk k x m ln co ks) = ifW (k == kProgram && (x == [] && m == 0)) (manyW (fun k => if k.kind == kFunc then functionW (runW n) k else globalW k) ks) := rfl
end
end Go.Proofs.YtnalgnklgmoepaaGreatDoor
