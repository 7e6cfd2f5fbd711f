/- Tables of what is true, way by way: the mathematics. Rows of bools that are appended to; the reference: the ways. The reference: a way's number; how many entries are true. The reference: whether a table asks a variable. The reference: a table with variables being somehow. -/
import Derived.Maps.AppendAt
import Derived.RegionTactic
import Derived.OwnWalk
import Derived.Test.YtailpphafoamfaaPzal
set_option linter.all false
namespace Go.Proofs.Ytailpphafoamfaa

/-- The way number i of n variables. -/
def way (n i v : Nat) : Bool := i.testBit (n - 1 - v)
def wayL (n i : Nat) : List Bool := (List.range n).map (way n i)
def atS (a : Nat) (b : Bool) : Nat := 2 * a + b.toNat
/-- The number of a way. -/
def atL (l : List Bool) : Nat := l.foldl atS 0
def Hangs (n : Nat) (F : (Nat → Bool) → Bool) : Prop := ∀ m m', (∀ x, x < n → m x = m' x) → F m = F m'
/-- What is true, way by way. -/
def tabF (n : Nat) (F : (Nat → Bool) → Bool) : List Bool := (List.range (2 ^ n)).map fun i => F (way n i)
theorem fold_bounds : ∀ (l : List Bool) (a : Nat), a * 2 ^ l.length ≤ l.foldl atS a ∧ l.foldl atS a < (a + 1) * 2 ^ l.length
  | [], a => by simp
  | b :: l, a => by
    have h := fold_bounds l (atS a b)
    have h1 : a * 2 ^ (b :: l).length = (2 * a) * 2 ^ l.length := by rw [List.length_cons, Nat.pow_succ, Nat.mul_comm 2 a, Nat.mul_assoc, Nat.mul_comm 2]
    have h2 : (a + 1) * 2 ^ (b :: l).length = (2 * a + 2) * 2 ^ l.length := by
      rw [List.length_cons, Nat.pow_succ, show 2 * a + 2 = (a + 1) * 2 from by omega, Nat.mul_assoc, Nat.mul_comm 2]
    have h3 : 2 * a * 2 ^ l.length ≤ atS a b * 2 ^ l.length := Nat.mul_le_mul_right _ (by unfold atS; omega)
    have h4 : (atS a b + 1) * 2 ^ l.length ≤ (2 * a + 2) * 2 ^ l.length := Nat.mul_le_mul_right _ (by unfold atS; cases b <;> simp)
    show _ ≤ l.foldl atS (atS a b) ∧ l.foldl atS (atS a b) < _
    rw [h1, h2]
    omega
theorem atL_lt (l : List Bool) : atL l < 2 ^ l.length := by
  have := (fold_bounds l 0).2
  simpa [atL] using this
theorem fold_div (l : List Bool) (a : Nat) : l.foldl atS a / 2 ^ l.length = a := by
  obtain ⟨h1, h2⟩ := fold_bounds l a
  have hp : 0 < 2 ^ l.length := Nat.two_pow_pos _
  exact Nat.le_antisymm (Nat.le_of_lt_succ ((Nat.div_lt_iff_lt_mul hp).2 h2)) ((Nat.le_div_iff_mul_le hp).2 h1)
theorem fold_bit : ∀ (l : List Bool) (a v : Nat), v < l.length → (l.foldl atS a).testBit (l.length - 1 - v) = l.getD v false
  | b :: l, a, 0, _ => by
    show (l.foldl atS (atS a b)).testBit (l.length + 1 - 1 - 0) = b
    rw [Nat.testBit_eq_decide_div_mod_eq, show l.length + 1 - 1 - 0 = l.length from by omega, fold_div]
    unfold atS
    cases b <;> simp <;> omega
  | b :: l, a, v + 1, h => by
    have := fold_bit l (atS a b) v (by simpa using h)
    show (l.foldl atS (atS a b)).testBit (l.length + 1 - 1 - (v + 1)) = l.getD v false
    rw [← this]
    congr 1
    omega
theorem way_at {n : Nat} {l : List Bool} (hl : l.length = n) {v : Nat} (hv : v < n) : way n (atL l) v = l.getD v false := by
  subst hl
  exact fold_bit l 0 v hv
theorem wayL_len (n i : Nat) : (wayL n i).length = n := by simp [wayL]
theorem wayL_get {n i v : Nat} (hv : v < n) : (wayL n i).getD v false = way n i v := by
  simp [wayL, List.getD_eq_getElem?_getD, hv]
theorem way_inj {n i j : Nat} (hi : i < 2 ^ n) (hj : j < 2 ^ n) (h : ∀ v, v < n → way n i v = way n j v) : i = j := by
  apply Nat.eq_of_testBit_eq
  intro k
  by_cases hk : k < n
  · have := h (n - 1 - k) (by omega)
    unfold way at this
    rw [show n - 1 - (n - 1 - k) = k from by omega] at this
    exact this
  · have hp : 2 ^ n ≤ 2 ^ k := Nat.pow_le_pow_right (by decide) (by omega)
    rw [Nat.testBit_lt_two_pow (Nat.lt_of_lt_of_le hi hp), Nat.testBit_lt_two_pow (Nat.lt_of_lt_of_le hj hp)]
theorem at_way {n i : Nat} (hi : i < 2 ^ n) : atL (wayL n i) = i := by
  have h1 := atL_lt (wayL n i)
  rw [wayL_len] at h1
  refine way_inj h1 hi fun v hv => ?_
  rw [way_at (wayL_len n i) hv, wayL_get hv]
theorem tab_len (n : Nat) (F : (Nat → Bool) → Bool) : (tabF n F).length = 2 ^ n := by simp [tabF]
theorem tab_get {n i : Nat} (F : (Nat → Bool) → Bool) (hi : i < 2 ^ n) : (tabF n F)[i]? = some (F (way n i)) := by
  simp [tabF, hi]
theorem tab_getD {n i : Nat} (F : (Nat → Bool) → Bool) (hi : i < 2 ^ n) : (tabF n F).getD i false = F (way n i) := by
  rw [List.getD_eq_getElem?_getD, tab_get F hi]; rfl
/-- A way's number: the entry there is what is true of it. -/
def noOf (n : Nat) (m : Nat → Bool) : Nat := atL ((List.range n).map m)
theorem noOf_lt (n : Nat) (m : Nat → Bool) : noOf n m < 2 ^ n := by
  have := atL_lt ((List.range n).map m)
  rw [List.length_map, List.length_range] at this
  exact this
theorem way_noOf {n : Nat} (m : Nat → Bool) {v : Nat} (hv : v < n) : way n (noOf n m) v = m v := by
  unfold noOf
  rw [way_at (by simp) hv]
  simp [List.getD_eq_getElem?_getD, hv]
theorem tab_noOf {n : Nat} {F : (Nat → Bool) → Bool} (h : Hangs n F) (m : Nat → Bool) : F (way n (noOf n m)) = F m := h _ _ fun _ hx => way_noOf m hx
theorem tab_inj {n : Nat} {F G : (Nat → Bool) → Bool} (hF : Hangs n F) (hG : Hangs n G) (h : tabF n F = tabF n G) (m : Nat → Bool) : F m = G m := by
  have hl := noOf_lt n m
  have h1 := tab_get F hl
  rw [h, tab_get G hl] at h1
  simp only [Option.some.injEq] at h1
  rw [tab_noOf hF, tab_noOf hG] at h1
  exact h1.symm
theorem tab_congr {n : Nat} {F G : (Nat → Bool) → Bool} (h : ∀ i, i < 2 ^ n → F (way n i) = G (way n i)) : tabF n F = tabF n G := by
  unfold tabF
  exact List.map_congr_left fun i hi => h i (by simpa using hi)
theorem tab_hang {n : Nat} {F G : (Nat → Bool) → Bool} (h : ∀ m, F m = G m) : tabF n F = tabF n G := tab_congr fun _ _ => h _
/-- The same way with one variable the other way. -/
def flipI (n i v : Nat) : Nat := i ^^^ 2 ^ (n - 1 - v)
def flipM (m : Nat → Bool) (v : Nat) : Nat → Bool := setM m v (!m v)
theorem flip_lt {n i v : Nat} (hi : i < 2 ^ n) (hv : v < n) : flipI n i v < 2 ^ n := Nat.xor_lt_two_pow hi (Nat.pow_lt_pow_right (by decide) (by omega))
theorem way_flip {n i v x : Nat} (hv : v < n) (hx : x < n) : way n (flipI n i v) x = flipM (way n i) v x := by
  unfold flipM
  by_cases e : x = v
  · subst e
    rw [setM_same]
    simp [way, flipI, Nat.testBit_xor, Nat.testBit_two_pow]
  · rw [setM_other _ _ e]
    have h2 : ¬ n - 1 - v = n - 1 - x := by omega
    simp [way, flipI, Nat.testBit_xor, Nat.testBit_two_pow, h2]
theorem flip_at {n : Nat} {F : (Nat → Bool) → Bool} (h : Hangs n F) {i v : Nat} (hv : v < n) : F (way n (flipI n i v)) = F (flipM (way n i) v) := h _ _ fun _ hx => way_flip hv hx
theorem flipM_flipM (m : Nat → Bool) (v : Nat) : flipM (flipM m v) v = m := by
  funext x
  by_cases e : x = v
  · subst e; simp [flipM, setM]
  · simp [flipM, setM, e]
theorem Hangs.flip {n : Nat} {F : (Nat → Bool) → Bool} (h : Hangs n F) (v : Nat) : Hangs n fun m => F (flipM m v) := fun m m' hm => h _ _ fun x hx => by
  by_cases e : x = v
  · subst e; simp [flipM, setM, hm x hx]
  · simp [flipM, setM, e, hm x hx]
/-- Does a table ask a variable? -/
def asksT (t : List Bool) (n v : Nat) : Bool := (List.range t.length).any fun i => t.getD i false != t.getD (flipI n i v) false
def Asks (F : (Nat → Bool) → Bool) (v : Nat) : Prop := ∃ m, F m ≠ F (flipM m v)
theorem asks_iff {n v : Nat} {F : (Nat → Bool) → Bool} (h : Hangs n F) (hv : v < n) : asksT (tabF n F) n v = true ↔ Asks F v := by
  unfold asksT
  rw [List.any_eq_true]
  constructor
  · rintro ⟨i, hi, hx⟩
    rw [tab_len] at hi
    have hi' : i < 2 ^ n := by simpa using hi
    rw [tab_getD F hi', tab_getD F (flip_lt hi' hv), flip_at h hv] at hx
    exact ⟨way n i, by simpa using hx⟩
  · rintro ⟨m, hm⟩
    have hl := noOf_lt n m
    refine ⟨noOf n m, by rw [tab_len]; simpa using hl, ?_⟩
    rw [tab_getD F hl, tab_getD F (flip_lt hl hv), flip_at h hv, tab_noOf h]
    have : F (flipM (way n (noOf n m)) v) = F (flipM m v) := h _ _ fun x hx => by
      by_cases e : x = v
      · subst e; simp [flipM, setM, way_noOf m hx]
      · simp [flipM, setM, e, way_noOf m hx]
    rw [this]
    simpa using hm
/-- What is not asked doesn't matter. -/
theorem asks_not {F : (Nat → Bool) → Bool} {v : Nat} (h : ¬ Asks F v) (m : Nat → Bool) (b : Bool) : F (setM m v b) = F m := by
  by_cases e : b = m v
  · have : setM m v b = m := by
      funext x
      by_cases ex : x = v
      · subst ex; rw [setM_same, e]
      · rw [setM_other _ _ ex]
    rw [this]
  · have hb : b = !m v := by cases b <;> cases hm : m v <;> simp_all
    rw [hb]
    apply Classical.byContradiction
    intro hc
    exact h ⟨m, fun e => hc e.symm⟩
theorem asks_agree {n : Nat} {F : (Nat → Bool) → Bool} (h : Hangs n F) : ∀ k, k ≤ n → ∀ m m', (∀ x, x < n → k ≤ x → m x = m' x) → (∀ x, x < n → Asks F x → m x = m' x) → F m = F m'
  | 0, _, m, m', h1, _ => h m m' fun x hx => h1 x hx (Nat.zero_le _)
  | k + 1, hk, m, m', h1, h2 => by
    have e : F (setM m k (m' k)) = F m := by
      by_cases ha : Asks F k
      · have : setM m k (m' k) = m := by
          funext x
          by_cases ex : x = k
          · subst ex; rw [setM_same, h2 x (by omega) ha]
          · rw [setM_other _ _ ex]
        rw [this]
      · exact asks_not ha m _
    rw [← e]
    refine asks_agree h k (by omega) _ m' (fun x hx hkx => ?_) (fun x hx ha => ?_)
    · by_cases ex : x = k
      · subst ex; rw [setM_same]
      · rw [setM_other _ _ ex]; exact h1 x hx (by omega)
    · by_cases ex : x = k
      · subst ex; rw [setM_same]
      · rw [setM_other _ _ ex]; exact h2 x hx ha
theorem Hangs.agree {n : Nat} {F : (Nat → Bool) → Bool} (h : Hangs n F) {m m' : Nat → Bool} (h2 : ∀ x, x < n → Asks F x → m x = m' x) : F m = F m' := asks_agree h n (Nat.le_refl _) m m' (fun x hx hk => by omega) h2
/-- A table with a variable being somehow. -/
def exT (t : List Bool) (n v : Nat) : List Bool := (List.range t.length).map fun i => t.getD i false || t.getD (flipI n i v) false
def ex1 (F : (Nat → Bool) → Bool) (v : Nat) (m : Nat → Bool) : Bool := F m || F (flipM m v)
theorem exT_tab {n v : Nat} {F : (Nat → Bool) → Bool} (h : Hangs n F) (hv : v < n) : exT (tabF n F) n v = tabF n (ex1 F v) := by
  unfold exT
  rw [tab_len]
  exact List.map_congr_left fun i hi => by
    have hi' : i < 2 ^ n := by simpa using hi
    rw [tab_getD F hi', tab_getD F (flip_lt hi' hv), flip_at h hv]
    rfl
theorem ex1_hangs {n v : Nat} {F : (Nat → Bool) → Bool} (h : Hangs n F) : Hangs n (ex1 F v) := fun m m' hm => by
  unfold ex1
  rw [h m m' hm, show F (flipM m v) = F (flipM m' v) from h.flip v m m' hm]
theorem ex1_iff (F : (Nat → Bool) → Bool) (v : Nat) (m : Nat → Bool) : ex1 F v m = true ↔ ∃ b, F (setM m v b) = true := by
  have h0 : setM m v (m v) = m := by
    funext x
    by_cases ex : x = v
    · subst ex; rw [setM_same]
    · rw [setM_other _ _ ex]
  unfold ex1 flipM
  rw [Bool.or_eq_true]
  constructor
  · rintro (h | h)
    · exact ⟨m v, by rw [h0]; exact h⟩
    · exact ⟨_, h⟩
  · rintro ⟨b, h⟩
    by_cases e : b = m v
    · left; rw [e, h0] at h; exact h
    · right
      have hb : b = !m v := by cases b <;> cases hm : m v <;> simp_all
      rw [← hb]; exact h
/-- One after the other is all at once. -/
theorem ex_list : ∀ (l : List Nat) (F : (Nat → Bool) → Bool) (m : Nat → Bool), l.foldl ex1 F m = true ↔ Some' (fun v => decide (v ∈ l)) F m
  | [], F, m => by
    constructor
    · intro h; exact ⟨m, fun _ _ => rfl, h⟩
    · rintro ⟨m', h1, h2⟩
      have : m' = m := funext fun x => h1 x (by simp)
      rw [this] at h2
      exact h2
  | v :: l, F, m => by
    show l.foldl ex1 (ex1 F v) m = true ↔ _
    rw [ex_list l (ex1 F v) m]
    constructor
    · rintro ⟨m', h1, h2⟩
      rw [ex1_iff] at h2
      obtain ⟨b, hb⟩ := h2
      refine ⟨_, fun x hx => ?_, hb⟩
      have hxv : x ≠ v := by rintro rfl; simp at hx
      rw [setM_other _ _ hxv]
      exact h1 x (by simp at hx ⊢; exact hx.2)
    · rintro ⟨m', h1, h2⟩
      refine ⟨setM m' v (m v), fun x hx => ?_, ?_⟩
      · by_cases ex : x = v
        · subst ex; rw [setM_same]
        · rw [setM_other _ _ ex]
          exact h1 x (by simp at hx ⊢; exact ⟨ex, hx⟩)
      · rw [ex1_iff]
        refine ⟨m' v, ?_⟩
        have : setM (setM m' v (m v)) v (m' v) = m' := by
          funext x
          by_cases ex : x = v
          · subst ex; rw [setM_same]
          · rw [setM_other _ _ ex, setM_other _ _ ex]
        rw [this]; exact h2
theorem exT_list {n : Nat} : ∀ (l : List Nat) (F : (Nat → Bool) → Bool), Hangs n F → (∀ v ∈ l, v < n) → l.foldl (fun t v => exT t n v) (tabF n F) = tabF n (l.foldl ex1 F) ∧ Hangs n (l.foldl ex1 F)
  | [], F, h, _ => ⟨rfl, h⟩
  | v :: l, F, h, hl => by
    have := exT_list l (ex1 F v) (ex1_hangs h) (fun u hu => hl u (by simp [hu]))
    refine ⟨?_, this.2⟩
    show l.foldl (fun t v => exT t n v) (exT (tabF n F) n v) = _
    rw [exT_tab h (hl v (by simp))]
    exact this.1
/-- A table renamed. -/
def oldL (t : List Bool) (n : Nat) (to : List Int) (i : Nat) : List Bool := (List.range n).map fun v => if asksT t n v = true then way n i (to.getD v 0).toNat else false
def renT (t : List Bool) (n : Nat) (to : List Int) : List Bool := (List.range t.length).map fun i => t.getD (atL (oldL t n to i)) false
theorem renT_tab {n : Nat} {F : (Nat → Bool) → Bool} (h : Hangs n F) (to : List Int) : renT (tabF n F) n to = tabF n fun m => F fun x => m (to.getD x 0).toNat := by
  unfold renT
  rw [tab_len]
  refine List.map_congr_left fun i hi => ?_
  have hl : (oldL (tabF n F) n to i).length = n := by simp [oldL]
  have hlt := atL_lt (oldL (tabF n F) n to i)
  rw [hl] at hlt
  rw [tab_getD F hlt]
  refine h.agree fun x hx ha => ?_
  rw [way_at hl hx]
  have : asksT (tabF n F) n x = true := (asks_iff h hx).2 ha
  simp [oldL, List.getD_eq_getElem?_getD, hx, this]
/-- May a table be renamed so? -/
def RenamesT (t : List Bool) (n : Nat) (to : List Int) : Prop := to.length = n ∧ (∀ v, v < n → 0 ≤ to.getD v 0 ∧ to.getD v 0 < (n : Int)) ∧ ∀ v w, v < n → w < v → to.getD v 0 = to.getD w 0 → asksT t n v = true → asksT t n w = true → False
end Go.Proofs.Ytailpphafoamfaa
namespace Go.Proofs.Ytailpphafoamfaa
open Go Go.RowKit Go.Maps


section
variable {P : Program} (w : World)
/-- append of one cell that lies alone in a block, onto a row of the call's own. -/
theorem wpList_push {ops : Array Oper} {rest : List Oper} {o : Oper} {a : Act} {Q : Exit → Act → World → Prop} (hgd : o.guard = none) (s x : Operand) (t : TypeId)
    (ho : o.op = .call { callee := .builtin .append, args := #[s, x], argTypes := #[t, t] }) (e : TypeId) (i : TypeInfo) (z : Value) (bytes : Nat) (ht : P.underlying t = some (.slice e)) (hi : P.info? e = some i) (hz : i.zero = some z) (hsize : i.size = 1) (hby : i.bytes = bytes) (hzs : z.cells.size = 1) (hbb : bytes ≤ 24)
    (base : Nat) (v : Value) (n : Nat) (us : List Value) (hs : a.eval s = v) (hown : w.ownsRow base e 1 v n us) (b c : Nat) (u : Value) (hx : a.eval x = .slice (some ⟨b, 0, none⟩) 1 c) (hu : w.cell? ⟨b, 0, none⟩ = some u) (h1 : u.oneCell' = true) (hl : n ≤ 1000000) (hbase : base ≤ w.heap.size)
    (h : ∀ v' w', w'.ownsRow base e 1 v' (n + 1) (us ++ [u]) → w.grownBy w' v.ownBlock → (v'.ownBlock = v.ownBlock ∨ v'.ownBlock = some w.heap.size) → wpList P ops Q rest (a.put o.dst v') w') : wpList P ops Q (o :: rest) a w :=
  wpList_append_own_at w hgd s x t ho base e i z 1 bytes ht hi hz hsize hby hzs (by decide) v n us hs hown ⟨b, 0, none⟩ 1 c [u] hx rfl (fun j y hy => by
    have : j = 0 := by have := (List.getElem?_eq_some_iff.1 hy).1; simpa using this
    subst this
    simp at hy
    subst hy
    exact hu) (fun y hy => by simp at hy; subst hy; exact h1) (by unfold maxLen; omega) (by
      have : (n + 1) * bytes ≤ (n + 1) * 24 := Nat.mul_le_mul_left _ hbb
      omega) hbase (fun v' w' g1 g2 _ g4 => h v' w' g1 g2 g4)
/-- append of one cell that lies alone in a block, onto a row of the call's own, where a guard says yes. -/
theorem wpList_push_want {ops : Array Oper} {rest : List Oper} {o : Oper} {a : Act} {Q : Exit → Act → World → Prop} (hw : Region.wanted o (yielded ops a.tmps) = true) (s x : Operand) (t : TypeId)
    (ho : o.op = .call { callee := .builtin .append, args := #[s, x], argTypes := #[t, t] }) (e : TypeId) (i : TypeInfo) (z : Value) (bytes : Nat) (ht : P.underlying t = some (.slice e)) (hi : P.info? e = some i) (hz : i.zero = some z) (hsize : i.size = 1) (hby : i.bytes = bytes) (hzs : z.cells.size = 1) (hbb : bytes ≤ 24)
    (base : Nat) (v : Value) (n : Nat) (us : List Value) (hs : a.eval s = v) (hown : w.ownsRow base e 1 v n us) (b c : Nat) (u : Value) (hx : a.eval x = .slice (some ⟨b, 0, none⟩) 1 c) (hu : w.cell? ⟨b, 0, none⟩ = some u) (h1 : u.oneCell' = true) (hl : n ≤ 1000000) (hbase : base ≤ w.heap.size)
    (h : ∀ v' w', w'.ownsRow base e 1 v' (n + 1) (us ++ [u]) → w.grownBy w' v.ownBlock → (v'.ownBlock = v.ownBlock ∨ v'.ownBlock = some w.heap.size) → wpList P ops Q rest (a.put o.dst v') w') : wpList P ops Q (o :: rest) a w := by
  refine BigFrame.wpList_want hw fun K hK => ?_
  obtain ⟨v', w', hr, h2, h3, h4, h5⟩ := run_append_own_at (P := P) w base t o.type e i z 1 bytes ht hi hz hsize hby hzs (by decide) v n us hown ⟨b, 0, none⟩ 1 c [u] rfl (fun j y hy => by
    have : j = 0 := by have := (List.getElem?_eq_some_iff.1 hy).1; simpa using this
    subst this
    simp at hy
    subst hy
    exact hu) (fun y hy => by simp at hy; subst hy; exact h1) (by unfold maxLen; omega) (by
      have : (n + 1) * bytes ≤ (n + 1) * 24 := Nat.mul_le_mul_left _ hbb
      omega) hbase
  unfold Oper.wp execOp
  simp only [ho, resolve, invoke, builtin, Sem.run_bind, Sem.run_pure, Result.andThen_ok, List.map_toArray, List.map_cons, List.map_nil, hs, hx, hr]
  exact hK _ _ (h v' w' h2 h3 h5)
end
theorem cell_new (w : World) (x : Value) (t : TypeId) : (w.alloc (.cells #[x] t)).cell? ⟨w.heap.size, 0, none⟩ = some x := by simp
/-- A row of bools of the call's own. -/
def BRow (base : Nat) (w : World) (v : Value) (l : List Bool) : Prop := w.ownsRow base 4 1 v l.length (l.map Value.bool)
/-- No slice is longer than its room. -/
def Cap (v : Value) : Prop := ∀ A n c, v = .slice A n c → n ≤ c
section
variable {w w' : World} {base : Nat} {v : Value} {l : List Bool}
theorem BRow.form (h : BRow base w v l) : ∃ A c, v = .slice A l.length c := by
  obtain ⟨-, h2⟩ := h
  rcases h2 with ⟨rfl, h3⟩ | ⟨g, cap, cur, rfl, -⟩
  · exact ⟨none, 0, by rw [h3]⟩
  · exact ⟨_, _, rfl⟩
theorem BRow.bools (h : BRow base w v l) : Bools w v l := by
  have h0 := h
  obtain ⟨-, h2⟩ := h
  rcases h2 with ⟨rfl, h3⟩ | ⟨g, cap, cur, rfl, hb, hh, h4, h5, h6, h7⟩
  · exact ⟨none, 0, by rw [h3], fun hne => absurd (List.eq_nil_of_length_eq_zero h3) hne⟩
  · refine ⟨_, _, rfl, fun _ => ⟨g, 0, rfl, (Array.getElem?_eq_some_iff.1 hh).1, fun j x hx => ?_⟩⟩
    have h8 := World.ownsRow.cells (g := g) h0 rfl j (.bool x) (by rw [List.getElem?_map, hx]; rfl)
    unfold Addr.add at h8
    by_cases e : j = 0
    · subst e; simpa using h8
    · simpa [e] using h8
theorem BRow.cap (h : BRow base w v l) : Cap v := by
  intro A n c e
  obtain ⟨-, h2⟩ := h
  rcases h2 with ⟨rfl, h3⟩ | ⟨g, cap, cur, rfl, hb, hh, h4, h5, h6, h7⟩
  · cases e; exact Nat.le_refl _
  · cases e; exact h4
theorem BRow.nil (w : World) (base : Nat) : BRow base w (.slice none 0 0) [] := World.ownsRow_nil _ _ _ _
theorem BRow.made (w : World) (hb : base ≤ w.heap.size) : BRow base (w.alloc (.cells #[] 4)) (.slice (some ⟨w.heap.size, 0, none⟩) 0 0) [] := World.ownsRow_made w #[] 0 hb (Nat.zero_le _) rfl
theorem BRow.lt (h : BRow base w v l) : ∀ k, v.ownBlock = some k → base ≤ k ∧ k < w.heap.size := World.ownsRow.lt h
theorem BRow.alloc (h : BRow base w v l) (o : Obj) : BRow base (w.alloc o) v l := World.ownsRow.alloc h o
theorem BRow.grown (h : BRow base w v l) (hg : w.grownBy w' none) : BRow base w' v l := World.ownsRow.kept h hg (by
  cases v.ownBlock with
  | none => exact .inl rfl
  | some k => exact .inr (by simp))
theorem BRow.drew (h : BRow base w v l) (n : Nat) : BRow base (w.drewN n) v l := h.grown (grown_drewN w n)
/-- What grew by a row of its own is as it was below. -/
theorem grown_own {w0 : World} (h : w0.grownBy w none) (hb : ∀ k, v.ownBlock = some k → w0.heap.size ≤ k) (hg : w.grownBy w' v.ownBlock) : w0.grownBy w' none :=
  ⟨hg.os.trans h.os, hg.tape.trans h.tape, hg.output.trans h.output, Nat.le_trans h.size hg.size, fun k hk _ =>
    (hg.block k (Nat.lt_of_lt_of_le hk h.size) (fun e => by have := hb k e.symm; omega)).trans (h.block k hk (by simp))⟩
end
theorem bit_fin : ∀ (i : Fin 64) (s : Fin 6), (bits BinOp.and .i64 (((i : Nat) : Int) / 2 ^ (s : Nat)) 1 == 1) = (i : Nat).testBit s := by decide +kernel
theorem bit_way {n i k : Nat} (hn : n ≤ 6) (hi : i < 64) (hk : k < n) : (bits BinOp.and .i64 ((i : Int) / 2 ^ (n - 1 - k)) 1 == 1) = way n i k := bit_fin ⟨i, hi⟩ ⟨n - 1 - k, by omega⟩
theorem xor_fin : ∀ (i : Fin 64) (s : Fin 6), bits BinOp.xor .i64 (((i : Nat) : Int)) (2 ^ (s : Nat)) = (((i : Nat) ^^^ 2 ^ (s : Nat) : Nat) : Int) := by decide +kernel
theorem info4b : (Try.prog.info? 4).map (fun i => (i.zero, i.size, i.bytes)) = some (some (.bool false), 1, 1) := info4
set_option maxHeartbeats 8000000 in
set_option maxRecDepth 100000 in
theorem way_any (n i : Nat) (hn : n ≤ 6) (hi : i < 64) (w : World) : Calls Try.prog 14 #[.int .i64 (n : Int), .int .i64 (i : Int)] w fun e w' => ∃ v, e = .returned v ∧ BRow w.heap.size w' v (wayL n i) ∧ w.grownBy w' none := by
  obtain ⟨i0, hi0, hz0, hz1, hz2⟩ := info_parts info4
  have HN := Lib.hid hn
  have HI := Lib.hid hi
  have qn : (n : Int) ≤ 6 := by omega
  have qi : (i : Int) < 64 := by omega
  clear hn hi
  go_enter Try.func14, Try.ntmps14
  go_wp2
  go_loopw [5, 6] (fun o j wr => ∃ k : Nat, j = .int .i64 (k : Int) ∧ k ≤ n ∧ Hid (BRow w.heap.size wr o ((List.range k).map (way n i))) ∧ Hid (w.grownBy wr none)) (fun _ j _ => n - (intOf j).toNat)
  case atStart => exact ⟨0, rfl, Nat.zero_le _, Lib.hid (BRow.made w (Nat.le_refl _)), Lib.hid (grown_alloc _ _)⟩
  case round =>
    obtain ⟨k, rfl, hk, hm, hb⟩ := hrel
    by_cases hlt : k < n
    · have HM := hm
      have HB := hb
      have q1 : (k : Int) < (n : Int) := by omega
      have q2 : (k : Int) ≤ 6 := by omega
      have HLT := Lib.hid hlt
      have QL := Lib.hid (show ((List.range k).map (way n i)).length ≤ 1000000 from by rw [List.length_map, List.length_range]; omega)
      have QB := Lib.hid (show w.heap.size ≤ (wr.alloc (.cells #[.bool (way n i k)] 4)).heap.size from by have := hb.out.size; simp; omega)
      have qb := bit_way HN.out HI.out hlt
      clear hk hm hb hlt
      go_wp2_with (at_builtin; (try rw [qb]); refine wpList_push _ rfl (.tmp 13) (.tmp 23) 32 rfl 4 i0 (.bool false) 1 Try.underlying32 hi0 hz0 hz1 hz2 rfl (by decide) w.heap.size u5 _ _ rfl (HM.out.alloc _) wr.heap.size 1 (.bool (way n i k)) rfl (cell_new _ _ _) rfl QL.out QB.out ?_; intro o2 w2 hown2 hgrow2 _; have HO2 := Lib.hid hown2; have HG2 := Lib.hid hgrow2; clear hown2 hgrow2)
      go_roundw
      case rel => exact ⟨k + 1, by go_num, HLT.out, Lib.hid (by unfold BRow; rw [List.range_succ, List.map_append, List.map_append]; simpa using HO2.out), Lib.hid (grown_own (grown_trans HB.out (grown_alloc wr _)) (fun b hb => (HM.out.lt b hb).1) HG2.out)⟩
      case measure => simp [intOf]; have := HLT.out; omega
    · obtain rfl : k = n := by omega
      have HM := hm
      have HB := hb
      have q1 : ¬ (k : Int) < (k : Int) := by omega
      clear hk hm hb hlt
      go_wp2
      go_ret
      exact ⟨_, rfl, HM.out, HB.out⟩

end Go.Proofs.Ytailpphafoamfaa
namespace Go.Proofs.Ytailpphafoamfaa
open Go Go.RowKit Go.Maps


section
variable {w : World} {va : Value} {l : List Bool}
def cntT (l : List Bool) : Nat := l.count true
theorem atL_snoc (l : List Bool) (b : Bool) : atL (l ++ [b]) = 2 * atL l + b.toNat := by simp [atL, atS, List.foldl_append]
theorem pow6 {k : Nat} (h : k ≤ 6) : 2 ^ k ≤ 64 := Nat.pow_le_pow_right (by decide) h
set_option maxHeartbeats 8000000 in
set_option maxRecDepth 100000 in
theorem rat_any (ha : Bools w va l) (hl : l.length ≤ 6) : Calls Try.prog 19 #[va] w fun e w' => e = .returned (.int .i64 (atL l : Int)) ∧ w.grownBy w' none := by
  obtain ⟨A, ca, rfl, hA⟩ := ha
  have HA := Lib.hid hA
  have HL := Lib.hid hl
  obtain ⟨n, hn⟩ : ∃ n, l.length = n := ⟨_, rfl⟩
  rw [hn]
  have HN := Lib.hid hn
  have hn6 : n ≤ 6 := by omega
  clear hA hl hn
  go_enter Try.func19, Try.ntmps19
  go_wp2
  go_loopw [3, 4] (fun a v wr => ∃ k : Nat, v = .int .i64 (k : Int) ∧ k ≤ n ∧ a = .int .i64 (atL (l.take k) : Int) ∧ wr = w) (fun _ v _ => n - (intOf v).toNat)
  case atStart => exact ⟨0, rfl, Nat.zero_le _, rfl, rfl⟩
  case round =>
    obtain ⟨k, rfl, hk, rfl, rfl⟩ := hrel
    by_cases hlt : k < n
    · have hkl : k < l.length := by rw [HN.out]; exact hlt
      obtain ⟨b, off, rfl, -, hcell⟩ := HA.out (by intro e; rw [e] at hkl; simp at hkl)
      obtain ⟨x, hx⟩ : ∃ x, l[k]? = some x := ⟨_, List.getElem?_eq_getElem hkl⟩
      have kx := hcell k x hx
      have HT := Lib.hid (show atL (l.take (k + 1)) = 2 * atL (l.take k) + x.toNat from by rw [take_next hx, atL_snoc])
      have hb := atL_lt (l.take k)
      have hp := pow6 (k := (l.take k).length) (by have := HN.out; rw [List.length_take]; omega)
      obtain ⟨y, hy⟩ : ∃ y, atL (l.take k) = y := ⟨_, rfl⟩
      rw [hy] at HT hb
      rw [hy]
      have qy : (y : Int) < 64 := by omega
      have q1 : (k : Int) < (n : Int) := by omega
      have HLT := Lib.hid hlt
      clear hcell hx hkl hk hb hp hy hlt
      cases x with
      | true =>
        go_wp2
        go_roundw
        case rel => exact ⟨k + 1, by go_num, HLT.out, by rw [HT.out]; simp, by first | rfl | trivial⟩
        case measure => simp [intOf]; have := HLT.out; omega
      | false =>
        go_wp2
        go_roundw
        case rel => exact ⟨k + 1, by go_num, HLT.out, by rw [HT.out]; simp, by first | rfl | trivial⟩
        case measure => simp [intOf]; have := HLT.out; omega
    · obtain rfl : k = n := by omega
      have HE := Lib.hid (show atL (l.take k) = atL l from by rw [List.take_of_length_le (by rw [HN.out]; exact Nat.le_refl _)])
      rw [HE.out]
      have q1 : ¬ (k : Int) < (k : Int) := by omega
      clear hk hlt
      go_wp2
      go_ret
      exact ⟨rfl, World.grownBy.refl _ _⟩
set_option maxHeartbeats 8000000 in
set_option maxRecDepth 100000 in
theorem rcount_any (ha : Bools w va l) (hl : l.length ≤ 64) : Calls Try.prog 18 #[va] w fun e w' => e = .returned (.int .u64 (cntT l : Int)) ∧ w.grownBy w' none := by
  obtain ⟨A, ca, rfl, hA⟩ := ha
  have HA := Lib.hid hA
  have HL := Lib.hid hl
  obtain ⟨n, hn⟩ : ∃ n, l.length = n := ⟨_, rfl⟩
  rw [hn]
  have HN := Lib.hid hn
  have hn6 : n ≤ 64 := by omega
  clear hA hl hn
  go_enter Try.func18, Try.ntmps18
  go_wp2
  go_loopw [3, 4] (fun a v wr => ∃ k : Nat, v = .int .i64 (k : Int) ∧ k ≤ n ∧ a = .int .u64 (cntT (l.take k) : Int) ∧ wr = w) (fun _ v _ => n - (intOf v).toNat)
  case atStart => exact ⟨0, rfl, Nat.zero_le _, rfl, rfl⟩
  case round =>
    obtain ⟨k, rfl, hk, rfl, rfl⟩ := hrel
    by_cases hlt : k < n
    · have hkl : k < l.length := by rw [HN.out]; exact hlt
      obtain ⟨b, off, rfl, -, hcell⟩ := HA.out (by intro e; rw [e] at hkl; simp at hkl)
      obtain ⟨x, hx⟩ : ∃ x, l[k]? = some x := ⟨_, List.getElem?_eq_getElem hkl⟩
      have kx := hcell k x hx
      have HT := Lib.hid (show cntT (l.take (k + 1)) = cntT (l.take k) + x.toNat from by unfold cntT; rw [take_next hx, List.count_append]; cases x <;> simp)
      have hb : cntT (l.take k) ≤ 64 := by have := List.count_le_length (a := true) (l := l.take k); rw [List.length_take] at this; unfold cntT; omega
      obtain ⟨y, hy⟩ : ∃ y, cntT (l.take k) = y := ⟨_, rfl⟩
      rw [hy] at HT hb
      rw [hy]
      have qy : (y : Int) ≤ 64 := by omega
      have q1 : (k : Int) < (n : Int) := by omega
      have HLT := Lib.hid hlt
      clear hcell hx hkl hk hb hy hlt
      cases x with
      | true =>
        go_wp2
        go_roundw
        case rel => exact ⟨k + 1, by go_num, HLT.out, by rw [HT.out]; simp, by first | rfl | trivial⟩
        case measure => simp [intOf]; have := HLT.out; omega
      | false =>
        go_wp2
        go_roundw
        case rel => exact ⟨k + 1, by go_num, HLT.out, by rw [HT.out]; simp, by first | rfl | trivial⟩
        case measure => simp [intOf]; have := HLT.out; omega
    · obtain rfl : k = n := by omega
      have HE := Lib.hid (show cntT (l.take k) = cntT l from by rw [List.take_of_length_le (by rw [HN.out]; exact Nat.le_refl _)])
      rw [HE.out]
      have q1 : ¬ (k : Int) < (k : Int) := by omega
      clear hk hlt
      go_wp2
      go_ret
      exact ⟨rfl, World.grownBy.refl _ _⟩
end

end Go.Proofs.Ytailpphafoamfaa
namespace Go.Proofs.Ytailpphafoamfaa
open Go Go.RowKit Go.Maps


section
variable {w : World} {va : Value} {l : List Bool}
theorem flip_fin {i s : Nat} (hi : i < 64) (hs : s < 6) : bits BinOp.xor .i64 (i : Int) (2 ^ s) = ((i ^^^ 2 ^ s : Nat) : Int) := xor_fin ⟨i, hi⟩ ⟨s, hs⟩
theorem wrap_pow {s : Nat} (h : s ≤ 6) : IntKind.i64.wrap (2 ^ s) = 2 ^ s := by
  have h1 := pow6 h
  have e : ((2 : Int) ^ s) = ((2 ^ s : Nat) : Int) := by simp
  rw [e]
  generalize 2 ^ s = z at h1 ⊢
  exact IntWalk.i64_in _ (by omega)
/-- No entry ahead is another one than its neighbour. -/
def quietT (t : List Bool) (n v k : Nat) : Prop := ∀ i, i < k → t.getD i false = t.getD (flipI n i v) false
theorem quiet_all {t : List Bool} {n v : Nat} (h : quietT t n v t.length) : asksT t n v = false := by
  unfold asksT
  rw [List.any_eq_false]
  intro i hi
  have := h i (by simpa using hi)
  rw [this]
  simp
theorem loud_one {t : List Bool} {n v i : Nat} (hi : i < t.length) (h : (t.getD i false != t.getD (flipI n i v) false) = true) : asksT t n v = true := by
  unfold asksT
  rw [List.any_eq_true]
  exact ⟨i, by simpa using hi, h⟩
set_option maxHeartbeats 8000000 in
set_option maxRecDepth 100000 in
theorem asks_any {n v : Nat} (ha : Bools w va l) (hn : n ≤ 6) (hv : v < n) (hl : l.length = 2 ^ n) : Calls Try.prog 55 #[va, .int .i64 (n : Int), .int .i64 (v : Int)] w fun e w' => e = .returned (.bool (asksT l n v)) ∧ w.grownBy w' none := by
  have HA := Lib.hid ha
  obtain ⟨A, c, rfl, -⟩ := ha
  have HL := Lib.hid hl
  have HV := Lib.hid hv
  have hp := pow6 hn
  obtain ⟨N, hN⟩ : ∃ N, l.length = N := ⟨_, rfl⟩
  rw [hN]
  have HN := Lib.hid hN
  have HN6 := Lib.hid hn
  have HP := Lib.hid (show N ≤ 64 from by omega)
  have qN : (N : Int) ≤ 64 := by omega
  have qn : (n : Int) ≤ 6 := by omega
  have qv : (v : Int) < (n : Int) := by omega
  obtain ⟨s, hs⟩ : ∃ s, n - 1 - v = s := ⟨_, rfl⟩
  have HS := Lib.hid hs
  have qs : (n : Int) - 1 - (v : Int) = (s : Int) := by omega
  have qs6 : (s : Int) < 6 := by omega
  clear hl hN hp hn hv hs
  go_enter Try.func55, Try.ntmps55
  go_wp2
  go_loopw [7] (fun j wr => ∃ k : Nat, j = .int .i64 (k : Int) ∧ k ≤ N ∧ Hid (quietT l n v k) ∧ Hid (w.grownBy wr none)) (fun j _ => N - (intOf j).toNat)
  case atStart => exact ⟨0, rfl, Nat.zero_le _, Lib.hid (fun i hi => by omega), Lib.hid (World.grownBy.refl _ _)⟩
  case round =>
    obtain ⟨i, rfl, hk, hm, hb⟩ := hrel
    have HM := hm
    have HB := hb
    by_cases hlt : i < N
    · have hkl : i < l.length := by rw [HN.out]; exact hlt
      have hfl : flipI n i v < l.length := by rw [HL.out]; exact flip_lt (by rw [← HL.out]; exact hkl) HV.out
      obtain ⟨A', c', hA', hcell⟩ := HA.out.grown HB.out
      rw [HN.out] at hA'
      simp at hA'
      obtain ⟨rfl, rfl⟩ := hA'
      obtain ⟨b, off, rfl, -, hcell⟩ := hcell (by intro e; rw [e] at hkl; simp at hkl)
      obtain ⟨x, hx⟩ : ∃ x, l[i]? = some x := ⟨_, List.getElem?_eq_getElem hkl⟩
      obtain ⟨y, hy⟩ : ∃ y, l[flipI n i v]? = some y := ⟨_, List.getElem?_eq_getElem hfl⟩
      have kx := hcell i x hx
      have ky := hcell _ y hy
      obtain ⟨f, hf⟩ : ∃ f, flipI n i v = f := ⟨_, rfl⟩
      have qf : bits BinOp.xor .i64 (i : Int) (2 ^ s) = (f : Int) := by
        rw [← hf]
        unfold flipI
        rw [HS.out]
        exact flip_fin (by have := HP.out; omega) (by omega)
      rw [hf] at ky
      obtain ⟨d, hd⟩ : ∃ d, (x != y) = d := ⟨_, rfl⟩
      have HD := Lib.hid hd
      have HXY := Lib.hid (show (l.getD i false != l.getD (flipI n i v) false) = d from by rw [List.getD_eq_getElem?_getD, List.getD_eq_getElem?_getD, hx, hy]; exact hd)
      have q1 : (i : Int) < (N : Int) := by omega
      have q2 : (f : Int) < (N : Int) := by rw [hf, HN.out] at hfl; omega
      have HG := Lib.hid (grown_trans HB.out (grown_drewN wr 1))
      have HLT := Lib.hid hlt
      have HKL := Lib.hid hkl
      have w7 : IntKind.i64.wrap ((n : Int) - 1) = (n : Int) - 1 := IntWalk.i64_in _ (by omega)
      have w9 : IntKind.i64.wrap ((n : Int) - 1 - (v : Int)) = (s : Int) := (IntWalk.i64_in _ (by omega)).trans qs
      have w10 : IntKind.u64.wrap (s : Int) = (s : Int) := IntWalk.u64_in _ (by omega)
      have w11 : IntKind.i64.wrap (2 ^ s) = 2 ^ s := wrap_pow (by omega)
      have w9' : IntKind.i64.wrap (s : Int) = (s : Int) := IntWalk.i64_in _ (by omega)
      clear hcell hx hy hkl hfl hf hd hm hb hk hlt
      go_wp2
      refine wp_region_T (S := fun w' => ∀ k ∈ [b], w'.heap[k]? = wr.heap[k]?) (tail := fun _ => false) (by kernel_rfl) ?_
      change wpAnyT _ _ _ _ _ _ _ _ _ (World.drew wr)
      have BD := Lib.hid (show ∀ k ∈ [b], (World.drew wr).heap[k]? = wr.heap[k]? from fun _ _ => rfl)
      refine tk 0 14 (.slice (some ⟨b, off, none⟩) N c) BD.out ?y0 ?_
      case y0 =>
        intro w' hw'
        go_simp
      try simp only [Act.put, List.setIfInBounds_toArray, List.set_cons_zero, List.set_cons_succ]
      refine tk 1 15 (.int .i64 ((i : Nat) : Int)) BD.out ?y1 ?_
      case y1 =>
        intro w' hw'
        go_simp
      try simp only [Act.put, List.setIfInBounds_toArray, List.set_cons_zero, List.set_cons_succ]
      refine tk 2 16 (.pointer (some ⟨b, off + i, none⟩)) BD.out ?y2 ?_
      case y2 =>
        intro w' hw'
        go_simp
      try simp only [Act.put, List.setIfInBounds_toArray, List.set_cons_zero, List.set_cons_succ]
      refine tk 3 17 (.bool x) BD.out ?y3 ?_
      case y3 =>
        intro w' hw'
        have z0 := (World.cell?_of_block (a := ⟨b, off + i, none⟩) (hw' b (by simp))).trans kx
        go_simp
      try simp only [Act.put, List.setIfInBounds_toArray, List.set_cons_zero, List.set_cons_succ]
      refine tk 4 18 (.slice (some ⟨b, off, none⟩) N c) BD.out ?y4 ?_
      case y4 =>
        intro w' hw'
        go_simp
      try simp only [Act.put, List.setIfInBounds_toArray, List.set_cons_zero, List.set_cons_succ]
      refine tk 5 19 (.int .i64 ((i : Nat) : Int)) BD.out ?y5 ?_
      case y5 =>
        intro w' hw'
        go_simp
      try simp only [Act.put, List.setIfInBounds_toArray, List.set_cons_zero, List.set_cons_succ]
      refine tk 6 20 (.int .i64 ((n : Nat) : Int)) BD.out ?y6 ?_
      case y6 =>
        intro w' hw'
        go_simp
      try simp only [Act.put, List.setIfInBounds_toArray, List.set_cons_zero, List.set_cons_succ]
      refine tk 7 21 (.int .i64 ((n : Int) - 1)) BD.out ?y7 ?_
      case y7 =>
        intro w' hw'
        go_simp
      try simp only [Act.put, List.setIfInBounds_toArray, List.set_cons_zero, List.set_cons_succ]
      refine tk 8 22 (.int .i64 ((v : Nat) : Int)) BD.out ?y8 ?_
      case y8 =>
        intro w' hw'
        go_simp
      try simp only [Act.put, List.setIfInBounds_toArray, List.set_cons_zero, List.set_cons_succ]
      refine tk 9 23 (.int .i64 (s : Int)) BD.out ?y9 ?_
      case y9 =>
        intro w' hw'
        go_simp
      try simp only [Act.put, List.setIfInBounds_toArray, List.set_cons_zero, List.set_cons_succ]
      refine tk 10 24 (.int .u64 (s : Int)) BD.out ?y10 ?_
      case y10 =>
        intro w' hw'
        go_simp
      try simp only [Act.put, List.setIfInBounds_toArray, List.set_cons_zero, List.set_cons_succ]
      refine tk 11 25 (.int .i64 (2 ^ s)) BD.out ?y11 ?_
      case y11 =>
        intro w' hw'
        go_simp
      try simp only [Act.put, List.setIfInBounds_toArray, List.set_cons_zero, List.set_cons_succ]
      refine tk 12 26 (.int .i64 (f : Int)) BD.out ?y12 ?_
      case y12 =>
        intro w' hw'
        go_simp
        try exact qf
      try simp only [Act.put, List.setIfInBounds_toArray, List.set_cons_zero, List.set_cons_succ]
      refine tk 13 27 (.pointer (some ⟨b, off + f, none⟩)) BD.out ?y13 ?_
      case y13 =>
        intro w' hw'
        go_simp
      try simp only [Act.put, List.setIfInBounds_toArray, List.set_cons_zero, List.set_cons_succ]
      refine tk 14 28 (.bool y) BD.out ?y14 ?_
      case y14 =>
        intro w' hw'
        have z0 := (World.cell?_of_block (a := ⟨b, off + f, none⟩) (hw' b (by simp))).trans ky
        go_simp
      try simp only [Act.put, List.setIfInBounds_toArray, List.set_cons_zero, List.set_cons_succ]
      refine tk 15 29 (.bool d) BD.out ?y15 ?_
      case y15 =>
        intro w' hw'
        go_simp
        rw [← HD.out]
        try (cases x <;> cases y <;> rfl)
      try simp only [Act.put, List.setIfInBounds_toArray, List.set_cons_zero, List.set_cons_succ]
      refine dn ?_
      cases d with
      | true =>
        have HE := Lib.hid (loud_one HKL.out HXY.out)
        go_wp2
        go_ret
        refine ⟨?_, HG.out⟩
        rw [HE.out]
        rfl
      | false =>
        have HQ := Lib.hid (show quietT l n v (i + 1) from fun j hj => by
          by_cases e : j = i
          · subst e
            have := HXY.out
            simpa using this
          · exact HM.out j (by omega))
        go_wp2
        go_roundw
        case rel => exact ⟨i + 1, by go_num, HLT.out, HQ, HG⟩
        case measure => simp [intOf]; have := HLT.out; omega
    · obtain rfl : i = N := by omega
      have HE := Lib.hid (show asksT l n v = false from quiet_all (by rw [HN.out]; exact HM.out))
      have q1 : ¬ (i : Int) < (i : Int) := by omega
      clear hk hlt hm hb
      go_wp2
      go_ret
      refine ⟨?_, HB.out⟩
      rw [HE.out]
      rfl
end

end Go.Proofs.Ytailpphafoamfaa
namespace Go.Proofs.Ytailpphafoamfaa
open Go Go.RowKit Go.Maps


section
variable {w : World} {va vv : Value} {t : List Bool}
theorem exT_len (t : List Bool) (n v : Nat) : (exT t n v).length = t.length := by simp [exT]
theorem exT_fold_len (n : Nat) : ∀ (l : List Nat) (t : List Bool), (l.foldl (fun t v => exT t n v) t).length = t.length
  | [], _ => rfl
  | v :: l, t => by
    show (l.foldl (fun t v => exT t n v) (exT t n v)).length = _
    rw [exT_fold_len n l, exT_len]
/-- An entry with a variable being somehow. -/
def exE (t : List Bool) (n v i : Nat) : Bool := t.getD i false || t.getD (flipI n i v) false
theorem exT_eq (t : List Bool) (n v : Nat) : exT t n v = (List.range t.length).map (exE t n v) := rfl
def Fresh (B : Nat) (v : Value) : Prop := (∀ k, v.ownBlock = some k → B ≤ k) ∧ Cap v
theorem BRow.fresh {base : Nat} {v : Value} {l : List Bool} (h : BRow base w v l) : Fresh base v := ⟨fun k hk => (h.lt k hk).1, h.cap⟩
theorem Bools.slice {v : Value} {l : List Bool} (h : Bools w v l) : ∃ A c, v = .slice A l.length c := by
  obtain ⟨A, c, h1, -⟩ := h
  exact ⟨A, c, h1⟩
/-- Where an entry lies. -/
theorem Bools.at_ {v : Value} {l : List Bool} (h : Bools w v l) {N : Nat} (hN : l.length = N) {i : Nat} (hi : i < N) : ∃ b off c, v = .slice (some ⟨b, off, none⟩) N c ∧ b < w.heap.size ∧ ∀ j, j < N → w.cell? ⟨b, off + j, none⟩ = some (.bool (l.getD j false)) := by
  obtain ⟨A, c, h1, h2⟩ := h
  obtain ⟨b, off, rfl, hb, hc⟩ := h2 (by intro e; rw [e] at hN; simp at hN; omega)
  refine ⟨b, off, c, by rw [h1, hN], hb, fun j hj => ?_⟩
  have hj' : j < l.length := by omega
  have := hc j l[j] (List.getElem?_eq_getElem hj')
  rw [this, List.getD_eq_getElem?_getD, List.getElem?_eq_getElem hj']
  rfl
theorem Nums.at_ {v : Value} {l : List Int} (h : Nums w v l) {N : Nat} (hN : l.length = N) {i : Nat} (hi : i < N) : ∃ b off c, v = .slice (some ⟨b, off, none⟩) N c ∧ b < w.heap.size ∧ ∀ j, j < N → w.cell? ⟨b, off + j, none⟩ = some (.int .i64 (l.getD j 0)) := by
  obtain ⟨A, c, h1, h2⟩ := h
  obtain ⟨b, off, rfl, hb, hc⟩ := h2 (by intro e; rw [e] at hN; simp at hN; omega)
  refine ⟨b, off, c, by rw [h1, hN], hb, fun j hj => ?_⟩
  have hj' : j < l.length := by omega
  have := hc j l[j] (List.getElem?_eq_getElem hj')
  rw [this, List.getD_eq_getElem?_getD, List.getElem?_eq_getElem hj']
  rfl
set_option maxHeartbeats 8000000 in
set_option maxRecDepth 100000 in
theorem rexists_any {n : Nat} {l : List Nat} (ha : Bools w va t) (hv : Nums w vv (l.map fun (x : Nat) => (x : Int))) (hl : ∀ v ∈ l, v < n) (hn : n ≤ 6) (ht : t.length = 2 ^ n) (hll : l.length ≤ 1000) :
    Calls Try.prog 44 #[va, .int .i64 (n : Int), vv] w fun e w' => ∃ v, e = .returned v ∧ Bools w' v (l.foldl (fun t v => exT t n v) t) ∧ w.grownBy w' none ∧ (v = va ∨ Fresh w.heap.size v) := by
  obtain ⟨i0, hi0, hz0, hz1, hz2⟩ := info_parts info4
  have HA := Lib.hid ha
  have HV := Lib.hid hv
  have HL := Lib.hid hl
  have HN := Lib.hid hn
  have HT := Lib.hid ht
  obtain ⟨Av, cv, rfl, -⟩ := hv
  rw [List.length_map]
  obtain ⟨K, hK⟩ : ∃ K, l.length = K := ⟨_, rfl⟩
  have HK := Lib.hid hK
  rw [hK]
  have qK : (K : Int) ≤ 1000 := by omega
  have qn : (n : Int) ≤ 6 := by omega
  clear ha hl hn ht hll hK
  go_enter Try.func44, Try.ntmps44
  go_wp2
  go_loopw [0, 7] (fun a j wr => ∃ k : Nat, j = .int .i64 (k : Int) ∧ k ≤ K ∧ Hid (Bools wr a ((l.take k).foldl (fun t v => exT t n v) t)) ∧ Hid (w.grownBy wr none) ∧ Hid (a = va ∨ Fresh w.heap.size a)) (fun _ j _ => K - (intOf j).toNat)
  case atStart => exact ⟨0, rfl, Nat.zero_le _, HA, Lib.hid (World.grownBy.refl _ _), Lib.hid (.inl rfl)⟩
  case round =>
    obtain ⟨k, rfl, hk, hm, hb, hf⟩ := hrel
    have HM := hm
    have HB := hb
    have HF := hf
    by_cases hlt : k < K
    · have q1 : (k : Int) < (K : Int) := by omega
      obtain ⟨N, hN⟩ : ∃ N, 2 ^ n = N := ⟨_, rfl⟩
      have HNN := Lib.hid hN
      have hN6 := pow6 HN.out
      have qN : (N : Int) ≤ 64 := by omega
      obtain ⟨T, hT⟩ : ∃ T, (l.take k).foldl (fun t v => exT t n v) t = T := ⟨_, rfl⟩
      have HTT := Lib.hid hT
      rw [hT] at HM
      have HTL := Lib.hid (show T.length = N from by rw [← hT, exT_fold_len, HT.out]; exact hN)
      obtain ⟨b, off, c, hs, hbl, hce⟩ := HM.out.at_ HTL.out (i := 0) (by rw [← hN]; exact Nat.two_pow_pos n)
      subst hs
      have HC := Lib.hid hce
      have HBL := Lib.hid hbl
      obtain ⟨bv, ov, cv2, hsv, hbv, hcv⟩ := (HV.out.grown HB.out).at_ (N := K) (by rw [List.length_map]; exact HK.out) hlt
      simp only [List.length_map, HK.out] at hsv
      simp at hsv
      obtain ⟨rfl, rfl⟩ := hsv
      have HCV := Lib.hid hcv
      have HBV := Lib.hid hbv
      obtain ⟨v, hvv⟩ : ∃ v, l[k]? = some v := ⟨_, List.getElem?_eq_getElem (by rw [HK.out]; exact hlt)⟩
      have HVV := Lib.hid hvv
      have hvn : v < n := HL.out v (List.mem_of_getElem? hvv)
      have HVN := Lib.hid hvn
      have e1 : (l.map fun (x : Nat) => (x : Int)).getD k 0 = (v : Int) := by rw [List.getD_eq_getElem?_getD, List.getElem?_map, hvv]; rfl
      have HE1 := Lib.hid e1
      have qv : (v : Int) < (n : Int) := by omega
      obtain ⟨s, hs⟩ : ∃ s, n - 1 - v = s := ⟨_, rfl⟩
      have HS := Lib.hid hs
      have qs : (n : Int) - 1 - (v : Int) = (s : Int) := by omega
      have qs6 : (s : Int) < 6 := by omega
      have w7 : IntKind.i64.wrap ((n : Int) - 1) = (n : Int) - 1 := IntWalk.i64_in _ (by omega)
      have w9 : IntKind.i64.wrap ((n : Int) - 1 - (v : Int)) = (s : Int) := (IntWalk.i64_in _ (by omega)).trans qs
      have w10 : IntKind.u64.wrap (s : Int) = (s : Int) := IntWalk.u64_in _ (by omega)
      have w11 : IntKind.i64.wrap (2 ^ s) = 2 ^ s := wrap_pow (by omega)
      have w9' : IntKind.i64.wrap (s : Int) = (s : Int) := IntWalk.i64_in _ (by omega)
      have HLT := Lib.hid hlt
      clear hN hN6 hT hce hbl hbv hcv hvv hvn e1 hs hlt hk hm hb hf
      obtain ⟨wo, rfl⟩ : ∃ wo, wo = wr := ⟨_, rfl⟩
      go_wp2
      go_loopw [8, 9] (fun a j WW => ∃ i : Nat, j = .int .i64 (i : Int) ∧ i ≤ N ∧ Hid (BRow wo.heap.size WW a ((List.range i).map (exE T n v))) ∧ Hid (wo.grownBy WW none)) (fun _ j _ => N - (intOf j).toNat)
      case atStart => exact ⟨0, rfl, Nat.zero_le _, Lib.hid (BRow.made wo (Nat.le_refl _)), Lib.hid (grown_alloc _ _)⟩
      case round =>
        obtain ⟨i, rfl, hk2, hm2, hb2⟩ := hrel
        have HM2 := hm2
        have HB2 := hb2
        by_cases hlt2 : i < N
        · have q2 : (i : Int) < (N : Int) := by omega
          obtain ⟨f, hf⟩ : ∃ f, flipI n i v = f := ⟨_, rfl⟩
          have HFF := Lib.hid hf
          have hfl : f < N := by rw [← hf, ← HNN.out]; exact flip_lt (by rw [HNN.out]; exact hlt2) HVN.out
          have qf : bits BinOp.xor .i64 (i : Int) (2 ^ s) = (f : Int) := by
            rw [← hf]
            unfold flipI
            rw [HS.out]
            exact flip_fin (by omega) (by omega)
          have q3 : (f : Int) < (N : Int) := by omega
          have kx := (World.cell?_of_block (a := ⟨b, off + i, none⟩) (grown_far HB2.out HBL.out)).trans (HC.out i hlt2)
          have ky := (World.cell?_of_block (a := ⟨b, off + f, none⟩) (grown_far HB2.out HBL.out)).trans (HC.out f hfl)
          have kv := (World.cell?_of_block (a := ⟨bv, ov + k, none⟩) (grown_far HB2.out HBV.out)).trans ((HCV.out k HLT.out).trans (by rw [HE1.out]))
          obtain ⟨x, hx⟩ : ∃ x, T.getD i false = x := ⟨_, rfl⟩
          obtain ⟨y, hy⟩ : ∃ y, T.getD f false = y := ⟨_, rfl⟩
          rw [hx] at kx
          rw [hy] at ky
          have HX := Lib.hid (show exE T n v i = (x || y) from by unfold exE; rw [hf, hx, hy])
          have QL := Lib.hid (show ((List.range i).map (exE T n v)).length ≤ 1000000 from by rw [List.length_map, List.length_range]; omega)
          have QB := fun o : Obj => Lib.hid (show wo.heap.size ≤ (wr.alloc o).heap.size from by have := hb2.out.size; simp; omega)
          have HLT2 := Lib.hid hlt2
          clear hf hfl hx hy hk2 hm2 hb2 hlt2
          cases x with
          | true =>
            go_wp2_with (at_builtin; refine wpList_push _ rfl (.tmp 23) (.tmp 44) 32 rfl 4 i0 (.bool false) 1 Try.underlying32 hi0 hz0 hz1 hz2 rfl (by decide) wo.heap.size _ _ _ rfl (HM2.out.alloc _) wr.heap.size 1 (.bool true) rfl (cell_new _ _ _) rfl QL.out (QB _).out ?_; intro o2 w3 hown2 hgrow2 _; have HO2 := Lib.hid hown2; have HG2 := Lib.hid hgrow2; clear hown2 hgrow2)
            go_roundw
            case rel => exact ⟨i + 1, by go_num, HLT2.out, Lib.hid (by unfold BRow; rw [List.range_succ, List.map_append, List.map_append]; simpa [HX.out] using HO2.out), Lib.hid (grown_own (grown_trans HB2.out (grown_alloc wr _)) (fun b hb => (HM2.out.lt b hb).1) HG2.out)⟩
            case measure => simp [intOf]; have := HLT2.out; omega
          | false =>
            go_wp2_with (at_builtin; refine wpList_push _ rfl (.tmp 23) (.tmp 44) 32 rfl 4 i0 (.bool false) 1 Try.underlying32 hi0 hz0 hz1 hz2 rfl (by decide) wo.heap.size _ _ _ rfl (HM2.out.alloc _) wr.heap.size 1 (.bool y) rfl (cell_new _ _ _) rfl QL.out (QB _).out ?_; intro o2 w3 hown2 hgrow2 _; have HO2 := Lib.hid hown2; have HG2 := Lib.hid hgrow2; clear hown2 hgrow2)
            go_roundw
            case rel => exact ⟨i + 1, by go_num, HLT2.out, Lib.hid (by unfold BRow; rw [List.range_succ, List.map_append, List.map_append]; simpa [HX.out] using HO2.out), Lib.hid (grown_own (grown_trans HB2.out (grown_alloc wr _)) (fun b hb => (HM2.out.lt b hb).1) HG2.out)⟩
            case measure => simp [intOf]; have := HLT2.out; omega
        · obtain rfl : i = N := by omega
          have q2 : ¬ (i : Int) < (i : Int) := by omega
          clear hk2 hlt2 hm2 hb2
          have HR := Lib.hid (show (l.take (k + 1)).foldl (fun t v => exT t n v) t = (List.range i).map (exE T n v) from by
            rw [List.take_succ_eq_append_getElem (by rw [HK.out]; exact HLT.out), List.foldl_append, HTT.out]
            have : l[k]'(by rw [HK.out]; exact HLT.out) = v := by have := HVV.out; rw [List.getElem?_eq_getElem (by rw [HK.out]; exact HLT.out)] at this; simpa using this
            rw [this]
            show exT T n v = _
            rw [exT_eq, HTL.out])
          go_wp2
          go_roundw
          case rel => exact ⟨k + 1, by go_num, HLT.out, Lib.hid (by rw [HR.out]; exact HM2.out.bools), Lib.hid (grown_trans HB.out HB2.out), Lib.hid (.inr ⟨fun b hb => Nat.le_trans HB.out.size ((HM2.out.lt b hb).1), HM2.out.cap⟩)⟩
          case measure => simp [intOf]; have := HLT.out; omega
    · obtain rfl : k = K := by omega
      have q1 : ¬ (k : Int) < (k : Int) := by omega
      have HR := Lib.hid (show (l.take k) = l from List.take_of_length_le (by rw [HK.out]; exact Nat.le_refl _))
      clear hk hlt hm hb hf
      go_wp2
      go_ret
      exact ⟨_, rfl, by have := HM.out; rw [HR.out] at this; exact this, HB.out, HF.out⟩
end

end Go.Proofs.Ytailpphafoamfaa
