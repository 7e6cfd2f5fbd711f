/- What the parser hands back can be shown (plain): statements, blocks and programs. -/
import Derived.Test.YtnalgnklgmoepaaGreatDoorMWp
set_option linter.all false
namespace Go.Proofs.YtnalgnklgmoepaaGreatDoor
open Go Go.RowKit

abbrev SW : Tree → Nat → Prop := PW stmtW 0
section
variable {rec : NT → Int → List Tok → PR Tree} {n : Nat}
/-- What guarded hands back. -/
def GS (word : List UInt8) (t : Tree) (k : Nat) : Prop := ∃ e b k1 k2 ln co, t = .mk word [] 0 ln co [e, b] ∧ EW e k1 ∧ BW b k2 ∧ k1 + k2 + 3 ≤ k
theorem pi_guarded (H : RecI rec) (word : List UInt8) (hw : word ≠ []) (d : Int) {l : List Tok} (hl : AllOk l) : PI (GS word) l (guardedP rec word d l) := by
  unfold guardedP
  refine (pi_passN [word, [40]] (by simp [hw]) hl).bind fun _ l1 k h1 _ h => ?_
  refine (pi_expr H d h1).bind fun e l2 k2 h2 _ he => ?_
  refine (pi_pass1 [41] h2).bind fun _ l3 k3 h3 _ h4 => ?_
  exact (pi_deeper (H.block (d + 1) l3 h3)).bind fun b l4 k4 h5 _ hb => PI.ok h5 ⟨e, b, k2, k4, _, _, rfl, he, hb, by simp at h h4; omega⟩
theorem gs_words {word : List UInt8} (hw : wordB word = true) (hl : word.length ≤ 5) {x : List UInt8} {m ln co : Int} {e b : Tree} {r : List Tree} {k1 k2 : Nat} (he : EW e k1) (hb : BW b k2) {j : Nat} (hj : deepT (.mk word x m ln co (e :: b :: r)) ≤ j + 1) :
    ∃ ws, guardedW (runW j) (.mk word x m ln co (e :: b :: r)) = some ws ∧ (∀ w ∈ ws, wordB w = true) ∧ lenW ws ≤ 7 * (k1 + k2) + 6 := by
  have hd := kid_deep (t := e) (ks := e :: b :: r) (by simp) word x m ln co
  have hd2 := kid_deep (t := b) (ks := e :: b :: r) (by simp) word x m ln co
  obtain ⟨we, a1, a2, a3⟩ := he.rec (m := j) (by omega)
  obtain ⟨wb, b1, b2, b3⟩ := hb.rec (m := j) (by omega)
  refine ⟨[word, [40]] ++ (we ++ ([[41]] ++ wb)), ?_, all_app (fun w hw' => ?_) (all_app a2 (all_app (all_lit (by decide)) b2)), by rw [lenW_app, lenW_app, lenW_app]; simp [lenW]; omega⟩
  · rw [guardedW_mk]
    simp [a1, b1, catW]
  · simp only [List.mem_cons, List.not_mem_nil, or_false] at hw'
    rcases hw' with rfl | rfl
    · exact hw
    · decide
theorem pi_choice (H : RecI rec) (d : Int) {l : List Tok} (hl : AllOk l) : PI SW l (choiceP rec d l) := by
  unfold choiceP
  refine (pi_guarded H kIf (by decide) d hl).bind fun t l1 k h1 _ h => ?_
  obtain ⟨e, b, k1, k2, ln, co, rfl, he, hb, hk⟩ := h
  split
  · refine (pi_pass1 kElse h1).bind fun _ l2 k3 h2 _ h3 => ?_
    refine (pi_deeper (H.block (d + 1) l2 h2)).bind fun c l3 k4 h4 _ hc => PI.ok h4 ⟨(show deepT (.mk kIf [] 0 ln co [e, b, c]) ≤ _ from deep3 (by have := he.1; omega) (by have := hb.1; omega) (by have := hc.1; omega)), ⟨by simp [Tree.kind, kIf], by simp [Tree.text], by simp [Tree.num], by simp [Tree.num], by simp [Tree.kids], he.2.1, hb.2.1, hc.2.1, trivial⟩, fun m hm => ?_⟩
    simp only [Tree.kind, Tree.text, Tree.num, Tree.line, Tree.col, Tree.kids, List.cons_append, List.nil_append] at hm ⊢
    have hd := kid_deep (t := c) (ks := [e, b, c]) (by simp) kIf [] 0 ln co
    obtain ⟨wg, a1, a2, a3⟩ := gs_words (word := kIf) (by decide) (by decide) he hb hm
    obtain ⟨wc, b1, b2, b3⟩ := hc.rec (m := m) (by omega)
    have hk3 : k3 = 4 := h3
    refine ⟨wg ++ ([kElse] ++ wc), ?_, all_app a2 (all_app (all_lit (by decide)) b2), by rw [lenW_app, lenW_app]; simp [lenW, kElse]; omega⟩
    rw [stmtW_mk, if_pos (by decide), choiceW_mk]
    simp [ifW, a1, b1, catW]
  · refine PI.ok h1 ⟨deep2 (by have := he.1; omega) (by have := hb.1; omega), ⟨by decide, by simp, by decide, by decide, by simp, he.2.1, hb.2.1, trivial⟩, fun m hm => ?_⟩
    obtain ⟨wg, a1, a2, a3⟩ := gs_words (word := kIf) (by decide) (by decide) he hb hm
    refine ⟨wg, ?_, a2, by omega⟩
    rw [stmtW_mk, if_pos (by decide), choiceW_mk]
    simp [ifW, a1]
theorem pi_while (H : RecI rec) (d : Int) {l : List Tok} (hl : AllOk l) : PI SW l (guardedP rec kWhile d l) := by
  refine (pi_guarded H kWhile (by decide) d hl).mono fun t k h => ?_
  obtain ⟨e, b, k1, k2, ln, co, rfl, he, hb, hk⟩ := h
  refine ⟨deep2 (by have := he.1; omega) (by have := hb.1; omega), ⟨by decide, by simp, by decide, by decide, by simp, he.2.1, hb.2.1, trivial⟩, fun m hm => ?_⟩
  obtain ⟨wg, a1, a2, a3⟩ := gs_words (word := kWhile) (by decide) (by decide) he hb hm
  refine ⟨wg, ?_, a2, by omega⟩
  rw [stmtW_mk, if_neg (by decide), if_pos (by decide)]
  simp [ifW, a1]
theorem pi_leave (H : RecI rec) (d : Int) {l : List Tok} (hl : AllOk l) : PI SW l (leaveP rec d l) := by
  unfold leaveP
  refine (pi_pass1 kReturn hl).bind fun _ l1 k h1 _ h => ?_
  have hk : k = 6 := h
  split
  · refine (pi_pass1 [59] h1).bind fun _ l2 k2 h2 _ h3 => PI.ok h2 ⟨deep0 (by omega), ⟨by decide, by simp, by decide, by decide, by simp, trivial⟩, fun m hm => ⟨[kReturn] ++ [] ++ [[59]], ?_, all_lit (by decide), by simp [lenW, kReturn]; omega⟩⟩
    rw [stmtW_mk, if_neg (by decide), if_neg (by decide), if_neg (by decide), if_neg (by decide), if_pos (by decide)]
    rfl
  · refine (pi_expr H d h1).bind fun e l2 k2 h2 _ he => ?_
    refine (pi_pass1 [59] h2).bind fun _ l3 k3 h3 _ h4 => PI.ok h3 ⟨deep1 (by have := he.1; omega), ⟨by decide, by simp, by decide, by decide, by simp, he.2.1, trivial⟩, fun m hm => ?_⟩
    have hd := kid_deep (t := e) (ks := [e]) (by simp) kReturn [] 0 (hdT l).line (hdT l).col
    obtain ⟨we, a1, a2, a3⟩ := he.rec (m := m) (by omega)
    refine ⟨[kReturn] ++ we ++ [[59]], ?_, all_app (all_app (all_lit (by decide)) a2) (all_lit (by decide)), by rw [lenW_app, lenW_app]; simp [lenW, kReturn]; omega⟩
    rw [stmtW_mk, if_neg (by decide), if_neg (by decide), if_neg (by decide), if_neg (by decide), if_pos (by decide)]
    simp [ifW, semiW, commasW, restW, a1, catW]
theorem pi_claim (H : RecI rec) (d : Int) {l : List Tok} (hl : AllOk l) (hk : ((hdT l).text == kAssert || (hdT l).text == kAssume) = true) : PI SW l (claimP rec d l) := by
  unfold claimP
  refine (pi_take hl).bind fun t l1 k h1 _ h => ?_
  obtain ⟨rfl, _, hok, rfl⟩ := h
  have hf : (hdT l).text.length = 6 ∧ wordB (hdT l).text = true ∧ ((hdT l).text == kIf) = false ∧ ((hdT l).text == kWhile) = false ∧ ((hdT l).text == kLocal) = false ∧ ((hdT l).text == kCall) = false ∧ ((hdT l).text == kReturn) = false := by
    have hk' := hk
    simp only [Bool.or_eq_true, beq_iff_eq] at hk'
    rcases hk' with e | e <;> rw [e] <;> decide
  obtain ⟨f1, f2, f3, f4, f5, f6, f7⟩ := hf
  refine (pi_pass1 [40] h1).bind fun _ l2 k2 h2 _ h3 => ?_
  refine (pi_expr H d h2).bind fun e l3 k3 h4 _ he => ?_
  refine (pi_passN [[41], [59]] (by simp) h4).bind fun _ l4 k4 h5 _ h6 => PI.ok h5 ⟨deep1 (by have := he.1; omega), ⟨by omega, by simp, by decide, by decide, by simp, he.2.1, trivial⟩, fun m hm => ?_⟩
  have hd := kid_deep (t := e) (ks := [e]) (by simp) (hdT l).text [] 0 (hdT l).line (hdT l).col
  obtain ⟨we, a1, a2, a3⟩ := he.rec (m := m) (by omega)
  refine ⟨[(hdT l).text, [40]] ++ (we ++ [[41]]) ++ [[59]], ?_, all_app (all_app (fun w hw => ?_) (all_app a2 (all_lit (by decide)))) (all_lit (by decide)), by rw [lenW_app, lenW_app, lenW_app]; simp [lenW] at h3 h6 ⊢; omega⟩
  · rw [stmtW_mk, f3, f4, f5, f6, f7, hk, if_neg (by decide), if_neg (by decide), if_neg (by decide), if_neg (by decide), if_neg (by decide), if_pos rfl]
    simp [ifW, semiW, a1, catW]
  · simp only [List.mem_cons, List.not_mem_nil, or_false] at hw
    rcases hw with rfl | rfl
    · exact f2
    · decide
theorem decl_words {kind tx x : List UInt8} (hx : isNameL x = true) (void : Bool) (ht : typeB tx = true ∨ void = true ∧ tx = kVoid) (m ln co ln' co' : Int) (r : List Tree) :
    declaredW void (.mk kind x m ln co (.mk kType tx 0 ln' co' [] :: r)) = some [tx, x] ∧ (∀ w ∈ [tx, x], wordB w = true) ∧ 2 ≤ tx.length ∧ tx.length ≤ 4 := by
  have hw : wordB tx = true ∧ 2 ≤ tx.length ∧ tx.length ≤ 4 := by
    rcases ht with h | ⟨_, rfl⟩
    · exact type_word h
    · decide
  refine ⟨?_, fun w hw' => ?_, hw.2⟩
  · rw [declaredW_mk]
    rcases ht with h | ⟨rfl, rfl⟩
    · simp [ifW, Tree.kind, Tree.num, Tree.kids, Tree.text, h]
    · simp [ifW, Tree.kind, Tree.num, Tree.kids, Tree.text]
  · simp only [List.mem_cons, List.not_mem_nil, or_false] at hw'
    rcases hw' with rfl | rfl
    · exact hw.1
    · exact word_name hx
theorem pi_local {l : List Tok} (hl : AllOk l) : PI SW l (localP l) := by
  unfold localP
  refine (pi_declared kLocal false hl).bind fun t l1 k h1 _ h => ?_
  obtain ⟨x, ln, co, ln', co', rfl, hty, hx, hx1, hx2, hx3, rfl⟩ := h
  have ht : typeB (hdT l).text = true := by rcases hty with h | h; cases h; exact h
  refine (pi_pass1 [59] h1).bind fun _ l2 k2 h2 _ h3 => PI.ok h2 ⟨deep1 (by have hty2 := (type_word ht).2.1; have := deep0 (k := kType) (x := (hdT l).text) (n := 0) (l := ln') (c := co') (j := 1) (by omega); omega), ⟨by decide, by omega, by decide, by decide, by simp, ⟨by decide, by omega, by decide, by decide, by simp, trivial⟩, trivial⟩, fun m hm => ?_⟩
  obtain ⟨a1, a2, a3, a4⟩ := decl_words (kind := kLocal) hx false (.inl ht) 0 ln co ln' co' []
  refine ⟨[(hdT l).text, x] ++ [[59]], ?_, all_app a2 (all_lit (by decide)), by rw [lenW_app]; simp [lenW]; omega⟩
  rw [stmtW_mk, if_neg (by decide), if_neg (by decide), if_pos (by decide), a1]
  simp [ifW, hx, semiW, catW]
theorem pi_action (H : RecI rec) (d : Int) {l : List Tok} (hl : AllOk l) : PI SW l (actionP rec n d l) := by
  unfold actionP
  split
  · refine (pi_call H d hl).bind fun t l1 k h1 _ h => ?_
    refine (pi_pass1 [59] h1).bind fun _ l2 k2 h2 _ h3 => PI.ok h2 ⟨by have := h.1; omega, h.2.1, fun m hm => ?_⟩
    obtain ⟨ws, a1, a2, a3⟩ := h.2.2 m hm
    refine ⟨ws ++ [[59]], ?_, all_app a2 (all_lit (by decide)), by rw [lenW_app]; simp [lenW] at h3 ⊢; omega⟩
    obtain ⟨k0, x, nm, ln, co, ks⟩ := t
    have hkc : k0 = kCall := by
      rw [callW_mk] at a1
      have := (ifW_some a1).1
      simp only [Bool.and_eq_true, beq_iff_eq] at this
      exact this.1
    subst hkc
    rw [stmtW_mk, if_neg (by decide), if_neg (by decide), if_neg (by decide), if_pos (by decide), a1]
    rfl
  · refine (pi_target H d hl).bind fun x l1 k h1 _ hx => ?_
    refine (pi_pass1 [61] h1).bind fun _ l2 k2 h2 _ h3 => ?_
    have hk2 : k2 = 1 := h3
    split
    · refine (pi_passN [kNondet, [40], [41]] (by decide) h2).bind fun _ l3 k3 h4 _ h5 => ?_
      refine (pi_pass1 [59] h4).bind fun _ l4 k4 h6 _ h7 => PI.ok h6 ⟨deep1 (by have := hx.1.1; omega), ⟨by decide, by simp, by decide, by decide, by simp, hx.1.2.1, trivial⟩, fun m hm => ?_⟩
      have hd := kid_deep (t := x) (ks := [x]) (by simp) kNondet [] 0 (hdT l).line (hdT l).col
      obtain ⟨wx, a1, a2, a3⟩ := hx.1.2.2 m (by omega)
      refine ⟨wx ++ [[61], kNondet, [40], [41]] ++ [[59]], ?_, all_app (all_app a2 (all_lit (by decide))) (all_lit (by decide)), by rw [lenW_app, lenW_app]; simp [lenW, kNondet] at h5 ⊢; omega⟩
      rw [stmtW_mk, if_neg (by decide), if_neg (by decide), if_neg (by decide), if_neg (by decide), if_neg (by decide), if_neg (by decide), giftW_mk]
      simp [ifW, semiW, a1, catW]
    split
    · refine (pi_call H d h2).bind fun y l3 k3 h4 _ hy => ?_
      refine (pi_pass1 [59] h4).bind fun _ l4 k4 h6 _ h7 => PI.ok h6 ⟨deep2 (by have := hx.1.1; omega) (by have := hy.1; omega), ⟨by decide, by simp, by decide, by decide, by simp, hx.1.2.1, hy.2.1, trivial⟩, fun m hm => ?_⟩
      have hd := kid_deep (t := x) (ks := [x, y]) (by simp) kResult [] 0 (hdT l).line (hdT l).col
      have hd2 := kid_deep (t := y) (ks := [x, y]) (by simp) kResult [] 0 (hdT l).line (hdT l).col
      obtain ⟨wx, a1, a2, a3⟩ := hx.1.2.2 m (by omega)
      obtain ⟨wy, b1, b2, b3⟩ := hy.2.2 m (by omega)
      refine ⟨wx ++ ([[61]] ++ wy) ++ [[59]], ?_, all_app (all_app a2 (all_app (all_lit (by decide)) b2)) (all_lit (by decide)), by rw [lenW_app, lenW_app, lenW_app]; simp [lenW] at h7 ⊢; omega⟩
      rw [stmtW_mk, if_neg (by decide), if_neg (by decide), if_neg (by decide), if_neg (by decide), if_neg (by decide), if_neg (by decide), giftW_mk]
      simp [ifW, semiW, a1, b1, catW, show (kResult == kAssign) = false by decide]
    · refine (pi_expr H d h2).bind fun y l3 k3 h4 _ hy => ?_
      refine (pi_pass1 [59] h4).bind fun _ l4 k4 h6 _ h7 => PI.ok h6 ⟨deep2 (by have := hx.1.1; omega) (by have := hy.1; omega), ⟨by decide, by simp, by decide, by decide, by simp, hx.1.2.1, hy.2.1, trivial⟩, fun m hm => ?_⟩
      have hd := kid_deep (t := x) (ks := [x, y]) (by simp) kAssign [] 0 (hdT l).line (hdT l).col
      have hd2 := kid_deep (t := y) (ks := [x, y]) (by simp) kAssign [] 0 (hdT l).line (hdT l).col
      obtain ⟨wx, a1, a2, a3⟩ := hx.1.2.2 m (by omega)
      obtain ⟨wy, b1, b2, b3⟩ := hy.rec (m := m) (by omega)
      refine ⟨wx ++ ([[61]] ++ wy) ++ [[59]], ?_, all_app (all_app a2 (all_app (all_lit (by decide)) b2)) (all_lit (by decide)), by rw [lenW_app, lenW_app, lenW_app]; simp [lenW] at h7 ⊢; omega⟩
      rw [stmtW_mk, if_neg (by decide), if_neg (by decide), if_neg (by decide), if_neg (by decide), if_neg (by decide), if_neg (by decide), giftW_mk]
      simp [ifW, semiW, a1, b1, catW]
theorem pi_stmt (H : RecI rec) (d : Int) {l : List Tok} (hl : AllOk l) : PI SW l (stmtP rec n d l) := by
  unfold stmtP
  split
  · exact pi_choice H d hl
  split
  · exact pi_while H d hl
  split
  · exact pi_leave H d hl
  split
  · rename_i hk; exact pi_claim H d hl hk
  split
  · exact pi_local hl
  · exact pi_action H d hl
theorem pl_deep {P : Tree → Nat → Prop} {j : Nat} : ∀ (ts : List Tree) (k : Nat), PL P ts k → (∀ t ∈ ts, deepT t ≤ j) → PL (fun t k => P t k ∧ deepT t ≤ j) ts k
  | [], _, _, _ => trivial
  | t :: r, _, ⟨a, b, h1, h2, h3⟩, hm => ⟨a, b, ⟨h1, hm t (by simp)⟩, pl_deep r b h2 (fun u hu => hm u (by simp [hu])), h3⟩
theorem pi_block (H : RecI rec) (d : Int) {l : List Tok} (hl : AllOk l) : PI BW l (blockP rec n d l) := by
  unfold blockP
  refine (pi_pass1 [123] hl).bind fun _ l1 k h1 e1 h => ?_
  refine (pi_many (fun l' hl' => pi_stmt H d hl') n [] l1 0 h1 trivial).bind fun ts l2 k2 h2 e2 hts => ?_
  refine (pi_pass1 [125] h2).bind fun _ l3 k3 h3 _ h4 => ?_
  have hch := hl.2
  have hn := hts.len (fun t k h => Nat.le_trans (deep_pos t) h.1)
  have hk : k = 1 := h
  have hk3 : k3 = 1 := h4
  refine PI.ok h3 ⟨deepN (by omega) (fun t ht => by obtain ⟨k1, h3, h4⟩ := hts.memle t ht; have := h3.1; omega), ⟨by decide, by simp, by decide, by decide, by omega, hts.neat fun t k h => h.2.1⟩, fun m hm => ?_⟩
  obtain ⟨ws, a1, a2, a3⟩ := many_w (g := stmtW (runW m)) (pl_deep (j := m) ts _ hts (fun t ht => by have := kid_deep ht kBlock [] 0 (hdT l).line (hdT l).col; omega)) (fun t _ k h => by
    obtain ⟨ws, c1, c2, c3⟩ := h.1.2.2 m (by have := h.2; omega)
    exact ⟨ws, c1, c2, by omega⟩)
  refine ⟨[[123]] ++ (ws ++ [[125]]), ?_, all_app (all_lit (by decide)) (all_app a2 (all_lit (by decide))), by rw [lenW_app, lenW_app]; simp [lenW]; omega⟩
  rw [blockW_mk, a1]
  rfl
end
theorem reci_all : ∀ n, RecI (runP n)
  | 0 => ⟨fun _ _ _ _ _ => PI.out, fun _ _ _ => PI.out, fun _ _ _ => PI.out⟩
  | n + 1 => ⟨fun k d l hk hl => pi_binary (reci_all n) k d hk hl, fun d l hl => pi_operand (reci_all n) d hl, fun d l hl => pi_block (reci_all n) d hl⟩
theorem fn_mk (rec : WT → Tree → Ws) (k x : List UInt8) (m ln co : Int) (u b : Tree) (ps : List Tree) : functionW rec (.mk k x m ln co (u :: (ps ++ [b]))) = ifW (isNameL x && m == 0) (catW (declaredW true (.mk k x m ln co (u :: (ps ++ [b])))) (catW (some [[40]]) (catW (commasW paramW ps) (catW (some [[41]]) (rec .block b))))) := by
  cases ps with
  | nil => rw [List.nil_append, functionW_mk]; rfl
  | cons p r =>
    rw [List.cons_append, functionW_mk]
    have h1 : (p :: (r ++ [b])).dropLast = p :: r := by rw [← List.cons_append, List.dropLast_concat]
    have h2 : (p :: (r ++ [b])).getLast (List.cons_ne_nil p (r ++ [b])) = b := by
      have := List.getLast_concat (a := b) (l := p :: r)
      exact this
    show ifW (isNameL x && m == 0) (catW (declaredW true (.mk k x m ln co (u :: p :: (r ++ [b])))) (catW (some [[40]]) (catW (commasW paramW ((p :: (r ++ [b])).dropLast)) (catW (some [[41]]) (rec .block ((p :: (r ++ [b])).getLast (List.cons_ne_nil p (r ++ [b])))))))) = _
    rw [h1, h2]
/-- An item of a program. -/
def itemW (rec : WT → Tree → Ws) (t : Tree) : Ws := if t.kind == kFunc then functionW rec t else globalW t
abbrev IW : Tree → Nat → Prop := PW itemW 0
theorem pi_param {l : List Tok} (hl : AllOk l) : PI (PW (fun _ => paramW) 4) l (declaredP kParam false l) := by
  refine (pi_declared kParam false hl).mono fun t k h => ?_
  obtain ⟨x, ln, co, ln', co', rfl, hty, hx, hx1, hx2, hx3, rfl⟩ := h
  have ht : typeB (hdT l).text = true := by rcases hty with h | h; cases h; exact h
  obtain ⟨a1, a2, a3, a4⟩ := decl_words (kind := kParam) hx false (.inl ht) 0 ln co ln' co' []
  refine ⟨deep1 (by have hty2 := (type_word ht).2.1; have := deep0 (k := kType) (x := (hdT l).text) (n := 0) (l := ln') (c := co') (j := 1) (by omega); omega), ⟨by decide, by omega, by decide, by decide, by simp, ⟨by decide, by omega, by decide, by decide, by simp, trivial⟩, trivial⟩, fun m hm => ⟨_, ?_, a2, by simp [lenW]; omega⟩⟩
  show paramW (.mk kParam x 0 ln co [.mk kType (hdT l).text 0 ln' co' []]) = _
  rw [paramW_mk, a1]
  simp [ifW, hx]
theorem pi_item (n : Nat) {l : List Tok} (hl : AllOk l) : PI IW l (itemP n l) := by
  unfold itemP
  refine (pi_declared kGlobal _ hl).bind fun t l1 k h1 e1 h => ?_
  obtain ⟨x, ln, co, ln', co', rfl, hty, hx, hx1, hx2, hx3, hk⟩ := h
  have htv : typeB (hdT l).text = true ∨ true = true ∧ (hdT l).text = kVoid := by
    rcases hty with h | h
    · exact .inr ⟨rfl, by simpa using h⟩
    · exact .inl h
  have hch := hl.2
  split
  · refine (pi_commas n (fun l' hl' => pi_param hl') h1).bind fun ps l2 k2 h2 e2 hps => ?_
    obtain ⟨k', hpl, hk'⟩ := hps
    refine (pi_deeper ((reci_all n).block (0 + 1) l2 h2)).bind fun b l3 k3 h3 _ hb => ?_
    obtain ⟨a1, a2, a3, a4⟩ := decl_words (kind := kFunc) hx true htv 0 ln co ln' co' (ps ++ [b])
    have hty0 : deepT (.mk kType (hdT l).text 0 ln' co' []) ≤ 1 := deep0 (by omega)
    refine PI.ok h3 ⟨(show deepT (.mk kFunc x 0 ln co ([.mk kType (hdT l).text 0 ln' co' []] ++ ps ++ [b])) ≤ _ from deepN (by omega) (fun t ht => by
      simp only [List.cons_append, List.nil_append, List.mem_cons, List.mem_append, List.not_mem_nil, or_false] at ht
      rcases ht with rfl | ht | rfl
      · omega
      · obtain ⟨j1, j2, j3⟩ := hpl.memle t ht
        have := j2.1
        omega
      · have := hb.1
        omega)), ⟨by simp [Tree.kind, kFunc], by simp only [Tree.text]; omega, by simp [Tree.num], by simp [Tree.num], by simp [Tree.kids]; omega, ?_⟩, fun m hm => ?_⟩
    · simp only [Tree.kids, List.cons_append, List.nil_append]
      refine ⟨⟨by decide, by omega, by decide, by decide, by simp, trivial⟩, NeatL.of fun t ht => ?_⟩
      rcases List.mem_append.1 ht with h | h
      · exact NeatL.mem (hpl.neat fun t k h => h.2.1) t h
      · obtain rfl : t = b := by simpa using h
        exact hb.2.1
    · simp only [Tree.text, Tree.num, Tree.line, Tree.col, Tree.kids, List.cons_append, List.nil_append] at hm ⊢
      have hd := kid_deep (t := b) (ks := .mk kType (hdT l).text 0 ln' co' [] :: (ps ++ [b])) (by simp) kFunc x 0 ln co
      obtain ⟨wb, b1, b2, b3⟩ := hb.rec (m := m) (by omega)
      obtain ⟨wc, c1, c2, c3⟩ := (com_w (g := paramW) (fun t k h => h.2.2 (deepT t) (by omega)) hpl).2
      refine ⟨[(hdT l).text, x] ++ ([[40]] ++ (wc ++ ([[41]] ++ wb))), ?_, all_app a2 (all_app (all_lit (by decide)) (all_app c2 (all_app (all_lit (by decide)) b2))), by rw [lenW_app, lenW_app, lenW_app, lenW_app]; simp [lenW]; omega⟩
      rw [itemW, if_pos (by rfl), fn_mk, a1, b1, c1]
      simp [ifW, hx, catW]
  split
  · rename_i hnf _
    have ht : typeB (hdT l).text = true := by
      rcases hty with h | h
      · simp only [Bool.or_eq_true, not_or] at hnf
        exact absurd h hnf.1
      · exact h
    refine (pi_pass1 [91] h1).bind fun _ l2 k2 h2 _ h3 => ?_
    refine (pi_number h2).bind fun m0 l3 k3 h4 _ hm0 => ?_
    refine (pi_pass1 [93] h4).bind fun _ l4 k4 h5 _ h6 => ?_
    refine (pi_pass1 [59] h5).bind fun _ l5 k5 h7 _ h8 => PI.ok h7 ⟨(show deepT (.mk kGlobal x 0 ln co [.mk kType (hdT l).text 0 ln' co' [], m0]) ≤ _ from deep2 (by have hty2 := (type_word ht).2.1; have := deep0 (k := kType) (x := (hdT l).text) (n := 0) (l := ln') (c := co') (j := 1) (by omega); omega) (by have := hm0.1.1; omega)), ⟨by simp [Tree.kind, kGlobal], by simp only [Tree.text]; omega, by simp [Tree.num], by simp [Tree.num], by simp [Tree.kids], ⟨by decide, by omega, by decide, by decide, by simp, trivial⟩, hm0.1.2.1, trivial⟩, fun m hm => ?_⟩
    obtain ⟨a1, a2, a3, a4⟩ := decl_words (kind := kGlobal) hx false (.inl ht) 0 ln co ln' co' [m0]
    obtain ⟨wn, b1, b2, b3⟩ := hm0.2.2.2 (deepT m0) (by omega)
    have j1 : k2 = 1 := h3
    have j2 : k4 = 1 := h6
    have j3 : k5 = 1 := h8
    refine ⟨([(hdT l).text, x] ++ ([[91]] ++ (wn ++ [[93]]))) ++ [[59]], ?_, all_app (all_app a2 (all_app (all_lit (by decide)) (all_app b2 (all_lit (by decide))))) (all_lit (by decide)), by rw [lenW_app, lenW_app, lenW_app, lenW_app]; simp [lenW]; omega⟩
    simp only [Tree.kind, Tree.text, Tree.num, Tree.line, Tree.col, Tree.kids, List.cons_append, List.nil_append]
    rw [itemW, if_neg (by simp only [Tree.kind]; decide), globalW_mk, a1]
    have b1' : numberW m0 = some wn := b1
    simp [ifW, hx, semiW, catW, b1']
  · rename_i hnf _
    have ht : typeB (hdT l).text = true := by
      rcases hty with h | h
      · simp only [Bool.or_eq_true, not_or] at hnf
        exact absurd h hnf.1
      · exact h
    refine (pi_pass1 [59] h1).bind fun _ l5 k5 h7 _ h8 => PI.ok h7 ⟨deep1 (by have hty2 := (type_word ht).2.1; have := deep0 (k := kType) (x := (hdT l).text) (n := 0) (l := ln') (c := co') (j := 1) (by omega); omega), ⟨by decide, by omega, by decide, by decide, by simp, ⟨by decide, by omega, by decide, by decide, by simp, trivial⟩, trivial⟩, fun m hm => ?_⟩
    obtain ⟨a1, a2, a3, a4⟩ := decl_words (kind := kGlobal) hx false (.inl ht) 0 ln co ln' co' []
    have j3 : k5 = 1 := h8
    refine ⟨[(hdT l).text, x] ++ [[59]], ?_, all_app a2 (all_lit (by decide)), by rw [lenW_app]; simp [lenW]; omega⟩
    rw [itemW, if_neg (by simp only [Tree.kind]; decide), globalW_mk, a1]
    simp [ifW, hx, semiW, catW]
/-- WHAT THE PARSER HANDS BACK CAN BE SHOWN, and that is not long. -/
theorem prog_words (n : Nat) (l : List Tok) (hl : AllOk l) (t : Tree) (l' : List Tok) (h : programP n l = .ok t l') :
    Neat t ∧ deepT t ≤ ch l + 1 ∧ ∃ ws, programW (deepT t) t = some ws ∧ (∀ w ∈ ws, wordB w = true) ∧ lenW ws ≤ 7 * ch l := by
  have key : PI (fun t k => Neat t ∧ deepT t ≤ k + 1 ∧ ∃ ws, programW (deepT t) t = some ws ∧ (∀ w ∈ ws, wordB w = true) ∧ lenW ws ≤ 7 * k) l (programP n l) := by
    unfold programP
    refine (pi_many (fun l' hl' => pi_item n hl') n [] l 0 hl trivial).bind fun ts l1 k h1 e1 hts => ?_
    have hch := hl.2
    have hn := hts.len (fun t k h => Nat.le_trans (deep_pos t) h.1)
    refine PI.ok h1 ⟨⟨by decide, by simp, by decide, by decide, by omega, hts.neat fun t k h => h.2.1⟩, deepN (by omega) (fun t ht => by obtain ⟨k1, h3, h4⟩ := hts.memle t ht; have := h3.1; omega), ?_⟩
    obtain ⟨ws, a1, a2, a3⟩ := many_w (g := itemW (runW (deepT (.mk kProgram [] 0 (hdT l).line (hdT l).col ts)))) (pl_deep (j := deepT (.mk kProgram [] 0 (hdT l).line (hdT l).col ts)) ts _ hts (fun t ht => by have := kid_deep ht kProgram [] 0 (hdT l).line (hdT l).col; omega)) (fun t _ k h => by
      obtain ⟨ws, c1, c2, c3⟩ := h.1.2.2 (deepT (.mk kProgram [] 0 (hdT l).line (hdT l).col ts)) (by have := h.2; omega)
      exact ⟨ws, c1, c2, by omega⟩)
    refine ⟨ws, ?_, a2, by omega⟩
    rw [programW_mk, show (manyW (fun k => if k.kind == kFunc then functionW (runW (deepT (.mk kProgram [] 0 (hdT l).line (hdT l).col ts))) k else globalW k) ts) = some ws from a1]
    rfl
  obtain ⟨_, k, h1, h2, hd, ws, h3, h4, h5⟩ := key t l' h
  exact ⟨h2, by omega, ws, h3, h4, by omega⟩
end Go.Proofs.YtnalgnklgmoepaaGreatDoor
