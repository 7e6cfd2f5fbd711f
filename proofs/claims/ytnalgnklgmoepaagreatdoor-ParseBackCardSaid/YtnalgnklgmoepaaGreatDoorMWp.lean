/- What the parser hands back can be shown (plain): its calls. -/
import Derived.Test.YtnalgnklgmoepaaGreatDoorMWo
set_option linter.all false
namespace Go.Proofs.YtnalgnklgmoepaaGreatDoor
open Go Go.RowKit

abbrev BW : Tree → Nat → Prop := PW blockW 0
theorem BW.rec {t : Tree} {k : Nat} (h : BW t k) {m : Nat} (hm : deepT t ≤ m) : ∃ ws, runW m .block t = some ws ∧ (∀ w ∈ ws, wordB w = true) ∧ lenW ws ≤ 7 * k := by
  have := deep_pos t
  obtain ⟨j, rfl⟩ : ∃ j, m = j + 1 := ⟨m - 1, by omega⟩
  exact h.2.2 j hm
/-- The words of nodes with commas between. -/
theorem com_w {P : Tree → Nat → Prop} {g : Tree → Ws} (hp : ∀ t k, P t k → ∃ ws, g t = some ws ∧ (∀ w ∈ ws, wordB w = true) ∧ lenW ws + 4 ≤ 7 * k) : ∀ {ts : List Tree} {k : Nat}, PL P ts k → (∃ ws, restW g ts = some ws ∧ (∀ w ∈ ws, wordB w = true) ∧ lenW ws ≤ 7 * k) ∧ ∃ ws, commasW g ts = some ws ∧ (∀ w ∈ ws, wordB w = true) ∧ lenW ws ≤ 7 * k
  | [], _, _ => ⟨⟨[], rfl, fun w hw => by simp at hw, by simp [lenW]⟩, ⟨[], rfl, fun w hw => by simp at hw, by simp [lenW]⟩⟩
  | t :: r, k, ⟨k1, k2, h1, h2, h3⟩ => by
    obtain ⟨wt, a1, a2, a3⟩ := hp t k1 h1
    obtain ⟨⟨wr, b1, b2, b3⟩, _⟩ := com_w hp h2
    refine ⟨⟨[[44]] ++ (wt ++ wr), by rw [restW, a1, b1]; rfl, all_app (all_lit (by decide)) (all_app a2 b2), by rw [lenW_app, lenW_app]; simp [lenW]; omega⟩, ⟨wt ++ wr, by rw [commasW, a1, b1]; rfl, all_app a2 b2, by rw [lenW_app]; omega⟩⟩
theorem many_w {P : Tree → Nat → Prop} {g : Tree → Ws} : ∀ {ts : List Tree} {k : Nat}, PL P ts k → (∀ t ∈ ts, ∀ k, P t k → ∃ ws, g t = some ws ∧ (∀ w ∈ ws, wordB w = true) ∧ lenW ws ≤ 7 * k) → ∃ ws, manyW g ts = some ws ∧ (∀ w ∈ ws, wordB w = true) ∧ lenW ws ≤ 7 * k
  | [], _, _, _ => ⟨[], rfl, fun w hw => by simp at hw, by simp [lenW]⟩
  | t :: r, k, ⟨k1, k2, h1, h2, h3⟩, hp => by
    obtain ⟨wt, a1, a2, a3⟩ := hp t (by simp) k1 h1
    obtain ⟨wr, b1, b2, b3⟩ := many_w h2 (fun u hu => hp u (by simp [hu]))
    exact ⟨wt ++ wr, by rw [manyW, a1, b1]; rfl, all_app a2 b2, by rw [lenW_app]; omega⟩
theorem PL.strip {P : Tree → Nat → Prop} : ∀ {ts : List Tree} {K : Nat}, PL (fun t k => ∃ k1, P t k1 ∧ k1 + 1 ≤ k) ts K → ∃ k', PL P ts k' ∧ k' + ts.length ≤ K
  | [], _, _ => ⟨0, trivial, by simp⟩
  | t :: r, K, ⟨k1, k2, ⟨k3, h1, h2⟩, h3, h4⟩ => by
    obtain ⟨k', h5, h6⟩ := PL.strip h3
    exact ⟨k3 + k', ⟨k3, k', h1, h5, Nat.le_refl _⟩, by simp; omega⟩
theorem PL.neat {P : Tree → Nat → Prop} (hp : ∀ t k, P t k → Neat t) : ∀ {ts : List Tree} {k : Nat}, PL P ts k → NeatL ts
  | [], _, _ => trivial
  | t :: r, _, ⟨k1, k2, h1, h2, _⟩ => ⟨hp t k1 h1, PL.neat hp h2⟩
theorem pi_commas {P : Tree → Nat → Prop} {p : List Tok → PR Tree} (n : Nat) (hp : ∀ l, AllOk l → PI P l (p l)) {l : List Tok} (hl : AllOk l) : PI (fun ts k => ∃ k', PL P ts k' ∧ k' + ts.length + 1 ≤ k) l (commasP n p l) := by
  unfold commasP
  refine (pi_pass1 [40] hl).bind fun _ l1 k h1 _ h => ?_
  split
  · exact (pi_pass1 [41] h1).bind fun _ l2 k2 h2 _ h' => PI.ok h2 ⟨0, trivial, by simp at h h' ⊢; omega⟩
  · refine (hp l1 h1).bind fun t l2 k2 h2 _ ht => ?_
    refine (pi_many (P := fun t k => ∃ k1, P t k1 ∧ k1 + 1 ≤ k) (fun l' hl' => (pi_pass1 [44] hl').bind fun _ l3 k3 h3 _ h4 => (hp l3 h3).mono fun u k4 hu => ⟨k4, hu, by simp at h4; omega⟩) n [t] l2 (k2 + 1) h2 ⟨k2 + 1, 0, ⟨k2, ht, Nat.le_refl _⟩, trivial, Nat.le_refl _⟩).bind fun ts l3 k3 h3 _ hts => ?_
    obtain ⟨k', h5, h6⟩ := hts.strip
    exact (pi_pass1 [41] h3).bind fun _ l4 k4 h4 _ h' => PI.ok h4 ⟨k', h5, by simp at h h'; omega⟩
theorem pi_declared (kind : List UInt8) (void : Bool) {l : List Tok} (hl : AllOk l) : PI (fun t k => ∃ x ln co ln' co', t = .mk kind x 0 ln co [.mk kType (hdT l).text 0 ln' co' []] ∧ (void = true ∨ typeB (hdT l).text = true) ∧ isNameL x = true ∧ 1 ≤ x.length ∧ x.length ≤ 65536 ∧ (hdT l).text.length ≤ 65536 ∧ k = (hdT l).text.length + x.length) l (declaredP kind void l) := by
  unfold declaredP
  refine (pi_take hl).bind fun t l1 k h1 _ h => ?_
  obtain ⟨rfl, hm, hok, rfl⟩ := h
  refine (pi_take h1).bind fun u l2 k2 h2 _ h' => ?_
  obtain ⟨rfl, hn, hok2, rfl⟩ := h'
  obtain ⟨hx, hx1⟩ := name_of hok2 hn
  exact PI.ok h2 ⟨_, _, _, _, _, rfl, by simpa using hm, hx, hx1, hok2.len, hok.len, by omega⟩
theorem pi_number {l : List Tok} (hl : AllOk l) : PI (fun t k => EW t k ∧ PW (fun _ => numberW) 4 t k) l (numberP l) := by
  unfold numberP
  refine (pi_take hl).bind fun t l1 k h1 _ h => ?_
  obtain ⟨rfl, hm, hok, rfl⟩ := h
  exact PI.ok h1 (ew_num _ hok (by simpa using hm))
section
variable {rec : NT → Int → List Tok → PR Tree} {n : Nat}
structure RecI (rec : NT → Int → List Tok → PR Tree) : Prop where
  binary : ∀ k d l, 0 ≤ k → AllOk l → PI EW l (rec (.binary k) d l)
  operand : ∀ d l, AllOk l → PI EW l (rec .operand d l)
  block : ∀ d l, AllOk l → PI BW l (rec .block d l)
theorem pi_target (H : RecI rec) (d : Int) {l : List Tok} (hl : AllOk l) : PI (fun t k => PW targetW 4 t k ∧ (t.kind = kName ∨ t.kind = kIndex)) l (targetP rec d l) := by
  unfold targetP
  refine (pi_take hl).bind fun t l1 k h1 _ h => ?_
  obtain ⟨rfl, hn, hok, rfl⟩ := h
  obtain ⟨hx, hx1⟩ := name_of hok hn
  split
  · refine (pi_pass1 [91] h1).bind fun _ l2 k2 h2 _ h3 => ?_
    refine (pi_deeper (H.binary 0 (d + 1) l2 (by decide) h2)).bind fun e l3 k3 h4 _ he => ?_
    exact (pi_pass1 [93] h4).bind fun _ l4 k4 h5 _ h6 => PI.ok h5 ⟨ew_index hx hx1 hok.len _ _ he (by simp at h3 h6; omega), .inr rfl⟩
  · exact PI.ok h1 ⟨ew_name hx hx1 hok.len _ _, .inl rfl⟩
theorem pi_paren (H : RecI rec) (d : Int) {l : List Tok} (hl : AllOk l) : PI EW l (parenP rec d l) := by
  unfold parenP
  refine (pi_take hl).bind fun t l1 k h1 _ h => ?_
  obtain ⟨rfl, hm, hok, rfl⟩ := h
  have hx : (hdT l).text.length = 1 := by have : (hdT l).text = [40] := by simpa using hm
                                          rw [this]; rfl
  split
  · rename_i hty
    refine (pi_take h1).bind fun u l2 k2 h2 _ h' => ?_
    obtain ⟨rfl, _, _, rfl⟩ := h'
    refine (pi_pass1 [41] h2).bind fun _ l3 k3 h3 _ h4 => ?_
    exact (pi_deeper (H.operand (d + 1) l3 h3)).bind fun e l4 k4 h5 _ he => PI.ok h5 (ew_cast hty _ _ he (by simp at h4; omega))
  · refine (pi_deeper (H.binary 0 (d + 1) l1 (by decide) h1)).bind fun e l2 k2 h2 _ he => ?_
    exact (pi_pass1 [41] h2).bind fun _ l3 k3 h3 _ h4 => PI.ok h3 (he.more (by omega))
theorem pi_operand (H : RecI rec) (d : Int) {l : List Tok} (hl : AllOk l) : PI EW l (operandP rec d l) := by
  unfold operandP
  split
  · exact (pi_number hl).mono fun _ _ h => h.1
  split
  · rename_i hk
    refine (pi_take hl).bind fun u l1 k h1 _ h => ?_
    obtain ⟨rfl, _, _, rfl⟩ := h
    exact PI.ok h1 (ew_true hk _ _)
  split
  · rename_i hu
    refine (pi_take hl).bind fun u l1 k h1 _ h => ?_
    obtain ⟨rfl, _, _, rfl⟩ := h
    have hx : (hdT l).text.length = 1 := by rcases unary_in hu with e | e | e <;> rw [e] <;> rfl
    exact (pi_deeper (H.operand (d + 1) l1 h1)).bind fun e l2 k2 h2 _ he => PI.ok h2 (ew_unary hu _ _ he (by omega))
  split
  · exact pi_paren H d hl
  · exact (pi_target H d hl).mono fun _ _ h => target_expr h.1 h.2
theorem pi_binLoop (H : RecI rec) (k d : Int) (hk : 0 ≤ k) : ∀ (m : Nat) (left : Tree) (l : List Tok) (k0 : Nat), AllOk l → EW left k0 → PI (fun t k1 => EW t (k0 + k1)) l (binLoop rec k d m left l)
  | 0, _, _, _, _, _ => PI.out
  | m + 1, left, l, k0, hl, he => by
    rw [binLoop]
    split
    · exact PI.ok hl he
    · rename_i hlv
      refine (pi_take hl).bind fun t l1 k1 h1 _ h => ?_
      obtain ⟨rfl, _, _, rfl⟩ := h
      refine (H.binary _ d l1 (by omega) h1).bind fun r l2 k2 h2 _ hr => ?_
      exact (pi_binLoop H k d hk m _ l2 (k0 + (hdT l).text.length + k2) h2 (ew_binary (by omega) _ _ he hr (by omega))).mono fun t k3 h3 => by
        rw [show k0 + ((hdT l).text.length + (k2 + k3)) = k0 + (hdT l).text.length + k2 + k3 by omega]
        exact h3
theorem pi_binary (H : RecI rec) (k d : Int) (hk : 0 ≤ k) {l : List Tok} (hl : AllOk l) : PI EW l (binaryP rec n k d l) := by
  unfold binaryP
  exact (H.operand d l hl).bind fun e l1 k1 h1 _ he => pi_binLoop H k d hk n e l1 k1 h1 he
theorem pi_expr (H : RecI rec) (d : Int) {l : List Tok} (hl : AllOk l) : PI EW l (exprP rec d l) := H.binary 0 d l (by decide) hl
theorem pi_call (H : RecI rec) (d : Int) {l : List Tok} (hl : AllOk l) : PI (PW callW 0) l (callP rec n d l) := by
  unfold callP
  refine (pi_take hl).bind fun t l1 k h1 e1 h => ?_
  obtain ⟨rfl, hn, hok, rfl⟩ := h
  obtain ⟨hx, hx1⟩ := name_of hok hn
  refine (pi_commas n (fun l' hl' => pi_deeper (H.binary 0 (d + 1) l' (by decide) hl')) h1).bind fun ts l2 k2 h2 e2 hts => ?_
  obtain ⟨k', hpl, hk'⟩ := hts
  have hch := hl.2
  have hlen := hpl.len (fun t k h => Nat.le_trans (deep_pos t) h.1)
  refine PI.ok h2 ⟨deepN (by omega) (fun t ht => by obtain ⟨k1, h3, h4⟩ := hpl.memle t ht; have := h3.1; omega), ⟨by decide, by have := hok.len; omega, by decide, by decide, by omega, hpl.neat fun t k h => h.2.1⟩, fun m hm => ?_⟩
  have hpl2 : PL (fun t k => EW t k ∧ deepT t ≤ m) ts k' := by
    have hall : ∀ t ∈ ts, deepT t ≤ m := fun t ht => by have := kid_deep ht kCall (hdT l).text 0 (hdT l).line (hdT l).col; omega
    have : ∀ (ts : List Tree) (k : Nat), PL EW ts k → (∀ t ∈ ts, deepT t ≤ m) → PL (fun t k => EW t k ∧ deepT t ≤ m) ts k := by
      intro ts
      induction ts with
      | nil => intro k _ _; trivial
      | cons t r ih => intro k ⟨a, b, h1, h2, h3⟩ hm; exact ⟨a, b, ⟨h1, hm t (by simp)⟩, ih b h2 (fun u hu => hm u (by simp [hu])), h3⟩
    exact this ts k' hpl hall
  obtain ⟨ws, a1, a2, a3⟩ := (com_w (g := runW m .expr) (fun t k h => h.1.rec h.2) hpl2).2
  refine ⟨[(hdT l).text, [40]] ++ (ws ++ [[41]]), ?_, all_app (fun w hw => ?_) (all_app a2 (all_lit (by decide))), by rw [lenW_app, lenW_app]; simp [lenW]; omega⟩
  · rw [callW_mk, a1]
    simp [ifW, hx, catW]
  · simp only [List.mem_cons, List.not_mem_nil, or_false] at hw
    rcases hw with rfl | rfl
    · exact word_name hx
    · decide
end
end Go.Proofs.YtnalgnklgmoepaaGreatDoor
