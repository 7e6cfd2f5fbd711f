/- A region whose order is drawn, in which loads go ahead of calls: one way serves all. -/
import Derived.OrdersHeld
import Derived.Deep.RegionHeld
namespace Go.Proofs.YtpfoaaiedfidbaaGreatDoor
open Go

section
variable {P : Program} {ops : Array Oper} {Q : Exit → Act → World → Prop} {md : Region.Mode} {S : World → Prop} {tail : Nat → Bool}

/-- Whatever order is picked from here on; S holds behind each operation that is carried out, but those of the tail. -/
def wpAnyT (P : Program) (md : Region.Mode) (ops : Array Oper) (Q : Exit → Act → World → Prop) (S : World → Prop) (tail : Nat → Bool) : Nat → Array Bool → Act → World → Prop
  | 0, listed, a, w => Region.ready md ops listed = [] ∧ Q .normal a w
  | fuel + 1, listed, a, w =>
    (Region.ready md ops listed = [] → Q .normal a w) ∧
    ∀ i ∈ Region.ready md ops listed, wpOp P ops Q i (fun a' w' => (tail i = false → S w') ∧ wpAnyT P md ops Q S tail fuel (listed.setIfInBounds i true) a' w') a w
theorem wpAny_of_T : ∀ (fuel : Nat) (listed : Array Bool) (a : Act) (w : World), wpAnyT P md ops Q S tail fuel listed a w → wpAny P md ops Q fuel listed a w
  | 0, _, _, _, h => h
  | fuel + 1, _, _, _, h => ⟨h.1, fun i hi => wpOp_mono (fun a' w' h' => wpAny_of_T fuel _ a' w' h'.2) (h.2 i hi)⟩
theorem wp_region_T {id : Nat} {a : Act} {w : World} (hm : P.follows .mixedOrders = true)
    (h : wpAnyT P .any ops Q S tail ops.size (Array.replicate ops.size false) a { w with drawn := w.drawn + 1 }) : (Code.region id ops true).wp P Q a w :=
  wp_region_any hm (wpAny_of_T _ _ _ _ h)
/-- Number j waits for number i. -/
def behind (md : Region.Mode) (ops : Array Oper) (i : Nat) : Nat → Nat → Bool
  | 0, _ => false
  | n + 1, j => ((ops[j]?).map fun o => o.after.any fun e => Region.binds md e && (e.on == i || behind md ops i n e.on)).getD false
/-- All of the tail waits for number i. -/
def tailBehind (md : Region.Mode) (ops : Array Oper) (tail : Nat → Bool) (i : Nat) : Bool := (List.range ops.size).all fun j => !tail j || behind md ops i ops.size j
/-- What has come up has come up behind all that it waits for. -/
def shutAll (md : Region.Mode) (ops : Array Oper) (listed : Array Bool) : Bool :=
  (List.range ops.size).all fun j => !listed.getD j false || ((ops[j]?).map fun o => o.after.all fun e => !Region.binds md e || listed.getD e.on false).getD false
theorem shut_at {listed : Array Bool} (h : shutAll md ops listed = true) {j : Nat} {o : Oper} (ho : ops[j]? = some o) (hl : listed.getD j false = true) : ∀ e ∈ o.after, Region.binds md e = true → listed.getD e.on false = true := by
  intro e he hb
  unfold shutAll at h
  rw [List.all_eq_true] at h
  have := h j (by simpa using (Array.getElem?_eq_some_iff.1 ho).1)
  rw [hl, ho] at this
  simp only [Bool.not_true, Bool.false_or, Option.map_some, Option.getD_some, Array.all_eq_true'] at this
  have := this e he
  rw [hb] at this
  simpa using this
theorem behind_listed {i : Nat} {listed : Array Bool} (h : shutAll md ops listed = true) : ∀ (n j : Nat) (o : Oper), ops[j]? = some o → (∀ e ∈ o.after, Region.binds md e = true → listed.getD e.on false = true) → behind md ops i n j = true → listed.getD i false = true := by
  intro n
  induction n with
  | zero => intro j o _ _ hb; simp [behind] at hb
  | succ n ih =>
    intro j o ho hall hb
    rw [behind, ho] at hb
    simp only [Option.map_some, Option.getD_some, Array.any_eq_true'] at hb
    obtain ⟨e, he, h2⟩ := hb
    simp only [Bool.and_eq_true, Bool.or_eq_true, beq_iff_eq] at h2
    have h3 := hall e he h2.1
    rcases h2.2 with h4 | h4
    · rw [← h4]; exact h3
    · cases ho2 : ops[e.on]? with
      | none =>
        cases n with
        | zero => simp [behind] at h4
        | succ n => simp [behind, ho2] at h4
      | some o2 => exact ih e.on o2 ho2 (shut_at h ho2 h3) h4
theorem tail_not_ready {i j : Nat} {listed : Array Bool} (hb : tailBehind md ops tail i = true) (ho : shutAll md ops listed = true) (hi : listed.getD i true = false) (hj : j ∈ Region.ready md ops listed) : tail j = false := by
  obtain ⟨hjun, oj, hoj, hall⟩ := mem_ready.1 hj
  have hjs : j < ops.size := (Array.getElem?_eq_some_iff.1 hoj).1
  cases ht : tail j with
  | false => rfl
  | true =>
    exfalso
    unfold tailBehind at hb
    rw [List.all_eq_true] at hb
    have h1 := hb j (by simpa using hjs)
    rw [ht] at h1
    have h2 := behind_listed ho ops.size j oj hoj hall (by simpa using h1)
    rcases Nat.lt_or_ge i listed.size with h' | h'
    · simp [h'] at h2 hi
      rw [h2] at hi
      cases hi
    · simp [Array.getElem?_eq_none h'] at h2
theorem shut_set {j : Nat} {listed : Array Bool} (ho : shutAll md ops listed = true) (hj : j ∈ Region.ready md ops listed) : shutAll md ops (listed.setIfInBounds j true) = true := by
  obtain ⟨hjun, oj, hoj, hall⟩ := mem_ready.1 hj
  unfold shutAll
  rw [List.all_eq_true]
  intro k hk
  have hks : k < ops.size := by simpa using hk
  obtain ⟨ok, hok⟩ : ∃ ok, ops[k]? = some ok := ⟨ops[k], Array.getElem?_eq_getElem hks⟩
  by_cases hl : (listed.setIfInBounds j true).getD k false = true
  · rw [hl, hok]
    simp only [Bool.not_true, Bool.false_or, Option.map_some, Option.getD_some, Array.all_eq_true']
    intro e he
    by_cases hb : Region.binds md e = true
    · rw [hb]
      simp only [Bool.not_true, Bool.false_or]
      refine getD_set_true ?_
      by_cases hjk : j = k
      · subst hjk
        rw [hoj] at hok
        cases hok
        exact hall e he hb
      · rw [getD_set_ne false hjk] at hl
        exact shut_at ho hok hl e he hb
    · simp [hb]
  · simp [hl]
/-- An operation that may come up, and yields its value in every world that meets S, may be taken first. -/
theorem wpAnyT_first {i : Nat} {oi : Oper} {v : Value} (hi : ops[i]? = some oi) (hsel : ∀ (j : Nat) (o : Oper) cs b, ops[j]? = some o → o.op ≠ .select cs b)
    (hQ : ∀ c a w, Q (.panic c) (a.put oi.dst v) w → Q (.panic c) a w) (htb : tailBehind md ops tail i = true) (hti : tail i = false) :
    ∀ (fuel : Nat) (listed : Array Bool) (a : Act) (w : World),
      (∀ j oj, ops[j]? = some oj → j ≠ i → listed.getD j true = false → (∀ e ∈ oj.after, Region.binds md e = true → e.on ≠ i) → oi.apart ops oj = true) →
      shutAll md ops listed = true → i ∈ Region.ready md ops listed → YieldsIf P ops S oi v a → S w →
      wpAnyT P md ops Q S tail fuel (listed.setIfInBounds i true) (a.put oi.dst v) w → wpAnyT P md ops Q S tail (fuel + 1) listed a w := by
  intro fuel
  induction fuel with
  | zero =>
    intro listed a w _ _ hr hy hS H
    refine ⟨fun h => (by rw [h] at hr; cases hr), fun j hj => ?_⟩
    by_cases hji : j = i
    · subst hji; exact hy.wpOp hi hS ⟨fun _ => hS, H⟩
    · have := ready_mono hj hji
      rw [H.1] at this
      cases this
  | succ fuel ih =>
    intro listed a w hfree hop hr hy hS H
    refine ⟨fun h => (by rw [h] at hr; cases hr), fun j hj => ?_⟩
    by_cases hji : j = i
    · subst hji; exact hy.wpOp hi hS ⟨fun _ => hS, H⟩
    · have htj := tail_not_ready htb hop (mem_ready.1 hr).1 hj
      have h1 := H.2 j (ready_mono hj hji)
      obtain ⟨hjun, oj, hoj, hall⟩ := mem_ready.1 hj
      have hnot : ∀ e ∈ oj.after, Region.binds md e = true → e.on ≠ i := fun e he hb heq => by
        have h1 := hall e he hb
        have h0 := (mem_ready.1 hr).1
        rw [heq] at h1
        rcases Nat.lt_or_ge i listed.size with h' | h'
        · simp [h'] at h0 h1; rw [h0] at h1; cases h1
        · simp [Array.getElem?_eq_none h'] at h1
      have h2 := wpOp_putIf hoj (hfree j oj hoj hji hjun hnot) (fun cs b => hsel i oi cs b hi) (fun cs b => hsel j oj cs b hoj) hQ hy h1
      have hfree' : ∀ k ok, ops[k]? = some ok → k ≠ i → (listed.setIfInBounds j true).getD k true = false →
          (∀ e ∈ ok.after, Region.binds md e = true → e.on ≠ i) → oi.apart ops ok = true := fun k ok hk hki hun hno => by
        refine hfree k ok hk hki ?_ hno
        by_cases hjk : j = k
        · subst hjk; exact hjun
        · rw [getD_set_ne true hjk] at hun; exact hun
      refine wpOp_mono (fun a' w' h3 => ⟨h3.2.1, ih (listed.setIfInBounds j true) a' w' hfree' (shut_set hop hj) (ready_mono hr (Ne.symm hji)) h3.1 (h3.2.1 htj) ?_⟩) h2
      rw [Array.setIfInBounds_comm _ _ hji]
      exact h3.2.2
theorem wpAnyT_take {i d : Nat} {oi : Oper} {v : Value} {fuel : Nat} {listed : Array Bool} {a : Act} {w : World} (hi : ops[i]? = some oi) (hd : oi.dst = some d)
    (hs : (Region.noSelect ops && Region.free md ops listed i && (Region.ready md ops listed).contains i && tailBehind md ops tail i && shutAll md ops listed && !tail i) = true)
    (hQ : ∀ c a w, Q (.panic c) (a.put oi.dst v) w → Q (.panic c) a w) (hw : Region.wanted oi (yielded ops a.tmps) = true) (hy : ∀ w, S w → (execOp a.eval oi).run P w = .ok (.value v) w) (hS : S w)
    (h : wpAnyT P md ops Q S tail fuel (listed.setIfInBounds i true) (a.put (some d) v) w) : wpAnyT P md ops Q S tail (fuel + 1) listed a w := by
  simp only [Bool.and_eq_true, Bool.not_eq_true'] at hs
  exact wpAnyT_first hi (Region.noSelect_spec hs.1.1.1.1.1) hQ hs.1.1.2 hs.2 fuel listed a w (Region.free_spec hi hs.1.1.1.1.2) hs.1.2 (by simpa using hs.1.1.1.2) (.inl ⟨hw, hy⟩) hS (by rw [hd]; exact h)
/-- The one operation that may come up. -/
theorem wpAnyT_one {i : Nat} {o : Oper} {fuel : Nat} {listed : Array Bool} {a : Act} {w : World} (hi : ops[i]? = some o) (hr : Region.ready md ops listed = [i]) (hw : Region.wanted o (yielded ops a.tmps) = true)
    (h : ∀ K : Act → World → Prop, Shut (∀ a' w', (tail i = false → S w') → wpAnyT P md ops Q S tail fuel (listed.setIfInBounds i true) a' w' → K a' w') → o.wp P a w K Q) : wpAnyT P md ops Q S tail (fuel + 1) listed a w := by
  refine ⟨fun h0 => (by rw [hr] at h0; cases h0), fun j hj => ?_⟩
  rw [hr] at hj
  obtain rfl : j = i := by simpa using hj
  unfold wpOp
  simp only [hi, hw, if_true]
  exact .inl (h _ (fun a' w' h1 h2 => ⟨h1, h2⟩))
theorem wpAnyT_done {listed : Array Bool} {a : Act} {w : World} (hr : Region.ready md ops listed = []) (h : Q .normal a w) :
    ∀ fuel, wpAnyT P md ops Q S tail fuel listed a w
  | 0 => ⟨hr, h⟩
  | _ + 1 => ⟨fun _ => h, by rw [hr]; simp⟩
theorem tk (i d : Nat) (v : Value) {oi : Oper} {fuel : Nat} {listed : Array Bool} {a : Act} {w : World} (hS : S w) (hy : ∀ w, S w → (execOp a.eval oi).run P w = .ok (.value v) w)
    (h : wpAnyT P md ops Q S tail fuel (listed.setIfInBounds i true) (a.put (some d) v) w) (hi : ops[i]? = some oi := by rfl) (hd : oi.dst = some d := by rfl)
    (hs : (Region.noSelect ops && Region.free md ops listed i && (Region.ready md ops listed).contains i && tailBehind md ops tail i && shutAll md ops listed && !tail i) = true := by kernel_rfl)
    (hQ : ∀ c a w, Q (.panic c) (a.put oi.dst v) w → Q (.panic c) a w := by exact fun _ _ _ h => h) (hw : Region.wanted oi (yielded ops a.tmps) = true := by rfl) : wpAnyT P md ops Q S tail (fuel + 1) listed a w :=
  wpAnyT_take hi hd hs hQ hw hy hS h
theorem sk (i d : Nat) {oi : Oper} {fuel : Nat} {listed : Array Bool} {a : Act} {w : World} (hS : S w) (h : wpAnyT P md ops Q S tail fuel (listed.setIfInBounds i true) (a.put (some d) undef) w)
    (hi : ops[i]? = some oi := by rfl) (hd : oi.dst = some d := by rfl)
    (hs : (Region.noSelect ops && Region.free md ops listed i && (Region.ready md ops listed).contains i && tailBehind md ops tail i && shutAll md ops listed && !tail i) = true := by kernel_rfl)
    (hQ : ∀ c a w, Q (.panic c) (a.put oi.dst undef) w → Q (.panic c) a w := by exact fun _ _ _ h => h) (hw : Region.wanted oi (yielded ops a.tmps) = false := by rfl) : wpAnyT P md ops Q S tail (fuel + 1) listed a w := by
  simp only [Bool.and_eq_true, Bool.not_eq_true'] at hs
  exact wpAnyT_first hi (Region.noSelect_spec hs.1.1.1.1.1) hQ hs.1.1.2 hs.2 fuel listed a w (Region.free_spec hi hs.1.1.1.1.2) hs.1.2 (by simpa using hs.1.1.1.2) (.inr ⟨hw, rfl⟩) hS (by rw [hd]; exact h)
/-- The one operation that may come up. -/
theorem on (i : Nat) {o : Oper} {fuel : Nat} {listed : Array Bool} {a : Act} {w : World}
    (h : ∀ K : Act → World → Prop, Shut (∀ a' w', (tail i = false → S w') → wpAnyT P md ops Q S tail fuel (listed.setIfInBounds i true) a' w' → K a' w') → o.wp P a w K Q)
    (hi : ops[i]? = some o := by rfl) (hr : Region.ready md ops listed = [i] := by kernel_rfl) (hw : Region.wanted o (yielded ops a.tmps) = true := by rfl) : wpAnyT P md ops Q S tail (fuel + 1) listed a w := wpAnyT_one hi hr hw h
theorem dn {listed : Array Bool} {a : Act} {w : World} {fuel : Nat} (h : Q .normal a w) (hr : Region.ready md ops listed = [] := by kernel_rfl) : wpAnyT P md ops Q S tail fuel listed a w := wpAnyT_done hr h fuel
/-- Two operations may come up. -/
theorem tw (i j : Nat) {o o' : Oper} {fuel : Nat} {listed : Array Bool} {a : Act} {w : World}
    (h : ∀ K : Act → World → Prop, Shut (∀ a' w', (tail i = false → S w') → wpAnyT P md ops Q S tail fuel (listed.setIfInBounds i true) a' w' → K a' w') → o.wp P a w K Q)
    (h' : ∀ K : Act → World → Prop, Shut (∀ a' w', (tail j = false → S w') → wpAnyT P md ops Q S tail fuel (listed.setIfInBounds j true) a' w' → K a' w') → o'.wp P a w K Q)
    (hi : ops[i]? = some o := by rfl) (hj : ops[j]? = some o' := by rfl) (hr : Region.ready md ops listed = [i, j] := by kernel_rfl) (hw : Region.wanted o (yielded ops a.tmps) = true := by rfl) (hw' : Region.wanted o' (yielded ops a.tmps) = true := by rfl) : wpAnyT P md ops Q S tail (fuel + 1) listed a w := by
  refine ⟨fun h0 => (by rw [hr] at h0; cases h0), fun k hk => ?_⟩
  rw [hr] at hk
  have hk' : k = i ∨ k = j := by simpa using hk
  rcases hk' with rfl | rfl
  · unfold wpOp
    simp only [hi, hw, if_true]
    exact .inl (h _ (fun a' w' h1 h2 => ⟨h1, h2⟩))
  · unfold wpOp
    simp only [hj, hw', if_true]
    exact .inl (h' _ (fun a' w' h1 h2 => ⟨h1, h2⟩))
end
/-- What a region leaves, whatever its order. -/
def CutPost {α : Type} (F : Act → α → Act) (a : Act) (I : α → World → Prop) (e : Exit) (a' : Act) (w' : World) : Prop :=
  match e with
  | .normal => ∃ N, a' = F a N ∧ I N w'
  | _ => False
theorem wp_cut {α : Type} {P : Program} {c : Code} {Q : Exit → Act → World → Prop} {a : Act} {w : World} (F : Act → α → Act) (I : α → World → Prop) (h : c.wp P (CutPost F a I) a w) (k : ∀ N w', I N w' → Q .normal (F a N) w') : c.wp P Q a w := by
  refine wp_mono h ?_
  intro e a' w' hq
  cases e with
  | normal =>
    obtain ⟨N, rfl, hI⟩ := hq
    exact k N w' hI
  | exit id => exact hq.elim
  | goto l => exact hq.elim
  | ret => exact hq.elim
  | panic ch => exact hq.elim
  | outgrown => exact hq.elim
end Go.Proofs.YtpfoaaiedfidbaaGreatDoor
