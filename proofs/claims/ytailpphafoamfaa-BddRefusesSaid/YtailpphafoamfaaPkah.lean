/- A diagram is put into a store, node by node: it is what it was. What a node of a draft has become. -/
import Derived.Test.YtailpphafoamfaaPkag
set_option linter.all false
namespace Go.Proofs.Ytailpphafoamfaa

def numN (first : Nat) (kept : List Nat) (n : Nat) : Nat := if n < first then n else kept.getD (n - first) 0
structure KInv (V : Nat) (ns ds : List Nd) (m : List Bool) (i : Nat) (nsI : List Nd) (kept : List Nat) : Prop where
  wf : WF V nsI
  pre : ∃ K, nsI = ns ++ K
  kl : kept.length = ds.length
  ok : ∀ j n, j < i → ds[j]? = some n → m.getD j false = true → ns.length ≤ kept.getD j 0 ∧ kept.getD j 0 < nsI.length ∧ nsI[kept.getD j 0]? = some ⟨n.v, numN ns.length kept n.a, numN ns.length kept n.b⟩ ∧ ∀ w, ev nsI (kept.getD j 0) w = ev (ns ++ ds) (ns.length + j) w
  inj : ∀ j k, j < i → k < i → m.getD j false = true → m.getD k false = true → kept.getD j 0 = kept.getD k 0 → j = k
  sur : ∀ x, ns.length ≤ x → x < nsI.length → ∃ j, j < i ∧ m.getD j false = true ∧ kept.getD j 0 = x
  cnt : nsI.length = ns.length + wsum (fun _ => 1) m i
section
variable {V : Nat} {ns ds : List Nd} {m : List Bool} {i : Nat} {nsI : List Nd} {kept : List Nat}
theorem KInv.start (h : WF V ns) : KInv V ns ds m 0 ns (List.replicate ds.length 0) where
  wf := h
  pre := ⟨[], by simp⟩
  kl := by simp
  ok := fun j n hj => by omega
  inj := fun j k hj => by omega
  sur := fun x h1 h2 => by omega
  cnt := rfl
theorem KInv.skip (h : KInv V ns ds m i nsI kept) (hm : m.getD i false = false) : KInv V ns ds m (i + 1) nsI kept where
  wf := h.wf
  pre := h.pre
  kl := h.kl
  ok := fun j n hj hn hb => by
    by_cases e : j = i
    · subst e; rw [hm] at hb; cases hb
    · exact h.ok j n (by omega) hn hb
  inj := fun j k hj hk hb hb' => by
    have h1 : j ≠ i := fun e => by subst e; rw [hm] at hb; cases hb
    have h2 : k ≠ i := fun e => by subst e; rw [hm] at hb'; cases hb'
    exact h.inj j k (by omega) (by omega) hb hb'
  sur := fun x h1 h2 => by
    obtain ⟨j, hj, r⟩ := h.sur x h1 h2
    exact ⟨j, by omega, r⟩
  cnt := by
    unfold wsum
    rw [hm]
    exact h.cnt
theorem pre_le (h : ∃ K, nsI = ns ++ K) : ns.length ≤ nsI.length := by
  obtain ⟨K, rfl⟩ := h
  simp
/-- What a child that is there, or kept, has become. -/
structure ChildOk (ns ds nsI : List Nd) (kept : List Nat) (c : Nat) : Prop where
  lt : numN ns.length kept c < nsI.length
  ask : ask nsI (numN ns.length kept c) = ask (ns ++ ds) c
  ev : ∀ w, ev nsI (numN ns.length kept c) w = ev (ns ++ ds) c w
theorem KInv.child (hw : WF V (ns ++ ds)) (hns : WF V ns) (h : KInv V ns ds m i nsI kept) {c : Nat} (hc : c < ns.length + i) (hil : i ≤ ds.length) (hm : ns.length ≤ c → m.getD (c - ns.length) false = true) : ChildOk ns ds nsI kept c := by
  obtain ⟨K, hK⟩ := h.pre
  by_cases hlo : c < ns.length
  · have e : numN ns.length kept c = c := if_pos hlo
    refine ⟨?_, ?_, fun w => ?_⟩
    · rw [e, hK]; simp; omega
    · rw [e, hK, ask_app hlo, ask_app hlo]
    · have := h.wf
      rw [hK] at this
      rw [e, hK, ev_app hns this w c hlo, ev_app hns hw w c hlo]
  · have e : numN ns.length kept c = kept.getD (c - ns.length) 0 := if_neg hlo
    obtain ⟨n, hn⟩ := get_lt (L := ds) (i := c - ns.length) (by omega)
    obtain ⟨h1, h2, h3, h4⟩ := h.ok _ n (by omega) hn (hm (by omega))
    refine ⟨by rw [e]; exact h2, ?_, fun w => ?_⟩
    · rw [e, ask_at h3]
      have : (ns ++ ds)[c]? = some n := by rw [List.getElem?_append_right (by omega)]; exact hn
      rw [ask_at this]
    · rw [e, h4]
      congr 1
      omega
theorem KInv.num_inj (h : KInv V ns ds m i nsI kept) {a b : Nat} (ha : a < ns.length + i) (hb : b < ns.length + i) (hil : i ≤ ds.length) (ma : ns.length ≤ a → m.getD (a - ns.length) false = true) (mb : ns.length ≤ b → m.getD (b - ns.length) false = true) (he : numN ns.length kept a = numN ns.length kept b) : a = b := by
  have lo : ∀ c, c < ns.length + i → ns.length ≤ c → (ns.length ≤ c → m.getD (c - ns.length) false = true) → ns.length ≤ kept.getD (c - ns.length) 0 := fun c hc hle hm => by
    obtain ⟨n, hn⟩ := get_lt (L := ds) (i := c - ns.length) (by omega)
    exact (h.ok _ n (by omega) hn (hm hle)).1
  unfold numN at he
  by_cases h1 : a < ns.length
  · rw [if_pos h1] at he
    by_cases h2 : b < ns.length
    · rw [if_pos h2] at he; exact he
    · rw [if_neg h2] at he
      have := lo b hb (by omega) mb
      omega
  · rw [if_neg h1] at he
    by_cases h2 : b < ns.length
    · rw [if_pos h2] at he
      have := lo a ha (by omega) ma
      omega
    · rw [if_neg h2] at he
      have := h.inj _ _ (by omega) (by omega) (ma (by omega)) (mb (by omega)) he
      omega
theorem getD_set_ne {kept : List Nat} {i j x : Nat} (h : j ≠ i) : (kept.set i x).getD j 0 = kept.getD j 0 := by
  rw [List.getD_eq_getElem?_getD, List.getElem?_set_ne (Ne.symm h), ← List.getD_eq_getElem?_getD]
theorem getD_set_eq {kept : List Nat} {i x : Nat} (h : i < kept.length) : (kept.set i x).getD i 0 = x := by
  simp [List.getD_eq_getElem?_getD, h]
theorem numN_set {first : Nat} {i x c : Nat} (h : c < first + i) : numN first (kept.set i x) c = numN first kept c := by
  unfold numN
  by_cases h1 : c < first
  · rw [if_pos h1, if_pos h1]
  · rw [if_neg h1, if_neg h1, getD_set_ne (by omega)]
/-- A node that is needed is put: what is to be, and what is then. -/
theorem KInv.new (h2n : 2 ≤ ns.length) (hw : WF V (ns ++ ds)) (hns : WF V ns) (h : KInv V ns ds m i nsI kept) {n : Nd} (hn : ds[i]? = some n) (hm : m.getD i false = true) (clo : ∀ j n, ds[j]? = some n → m.getD j false = true → (ns.length ≤ n.a → m.getD (n.a - ns.length) false = true) ∧ (ns.length ≤ n.b → m.getD (n.b - ns.length) false = true)) :
    WF V (nsI ++ [⟨n.v, numN ns.length kept n.a, numN ns.length kept n.b⟩]) ∧ ∀ x, 2 ≤ x → nsI[x]? ≠ some ⟨n.v, numN ns.length kept n.a, numN ns.length kept n.b⟩ := by
  have hi := (List.getElem?_eq_some_iff.1 hn).1
  have hn' : (ns ++ ds)[ns.length + i]? = some n := by rw [List.getElem?_append_right (by omega), Nat.add_sub_cancel_left]; exact hn
  obtain ⟨a1, a2, a3, a4, a5, a6⟩ := hw.nd _ n (by omega) hn'
  obtain ⟨ha, hb⟩ := clo i n hn hm
  have ca := h.child hw hns a2 (Nat.le_of_lt hi) ha
  have cb := h.child hw hns a3 (Nat.le_of_lt hi) hb
  have hnew : ∀ x, 2 ≤ x → nsI[x]? ≠ some ⟨n.v, numN ns.length kept n.a, numN ns.length kept n.b⟩ := by
    intro x hx hxn
    have hxl := (List.getElem?_eq_some_iff.1 hxn).1
    by_cases hlo : x < ns.length
    · obtain ⟨K, hK⟩ := h.pre
      have hx2 : ns[x]? = some ⟨n.v, numN ns.length kept n.a, numN ns.length kept n.b⟩ := by rw [hK, List.getElem?_append_left hlo] at hxn; exact hxn
      obtain ⟨b1, b2, b3, -⟩ := hns.nd x _ hx hx2
      simp only at b2 b3
      have low : ∀ c, c < ns.length + i → (ns.length ≤ c → m.getD (c - ns.length) false = true) → numN ns.length kept c < ns.length → numN ns.length kept c = c := fun c hc hm hl => by
        by_cases hcl : c < ns.length
        · exact if_pos hcl
        · exfalso
          have e : numN ns.length kept c = kept.getD (c - ns.length) 0 := if_neg hcl
          obtain ⟨n', hn'⟩ := get_lt (L := ds) (i := c - ns.length) (by omega)
          have := (h.ok _ n' (by omega) hn' (hm (by omega))).1
          omega
      rw [low n.a a2 ha (by omega), low n.b a3 hb (by omega)] at hx2
      have : (ns ++ ds)[x]? = some n := by rw [List.getElem?_append_left hlo, hx2]
      have := hw.inj x (ns.length + i) n hx (by omega) this hn'
      omega
    · obtain ⟨j, hj, hmj, hkj⟩ := h.sur x (by omega) hxl
      obtain ⟨n', hn2⟩ := get_lt (L := ds) (i := j) (by omega)
      obtain ⟨-, -, h3, -⟩ := h.ok j n' hj hn2 hmj
      rw [hkj, hxn] at h3
      have hn2' : (ns ++ ds)[ns.length + j]? = some n' := by rw [List.getElem?_append_right (by omega), Nat.add_sub_cancel_left]; exact hn2
      obtain ⟨b1, b2, b3, -⟩ := hw.nd _ n' (by omega) hn2'
      simp only [Option.some.injEq, Nd.mk.injEq] at h3
      obtain ⟨e1, e2, e3⟩ := h3
      obtain ⟨ha', hb'⟩ := clo j n' hn2 hmj
      have q2 := h.num_inj a2 (by omega) (Nat.le_of_lt hi) ha ha' e2
      have q3 := h.num_inj a3 (by omega) (Nat.le_of_lt hi) hb hb' e3
      have : n = n' := by cases n; cases n'; simp_all
      subst this
      have := hw.inj _ _ n (by omega) (by omega) hn' hn2'
      omega
  exact ⟨h.wf.push a1 ca.lt cb.lt (fun e => a4 (h.num_inj a2 a3 (Nat.le_of_lt hi) ha hb e)) (by rw [ca.ask]; exact a5) (by rw [cb.ask]; exact a6) hnew, hnew⟩
theorem KInv.put (h2n : 2 ≤ ns.length) (hw : WF V (ns ++ ds)) (hns : WF V ns) (h : KInv V ns ds m i nsI kept) {n : Nd} (hn : ds[i]? = some n) (hm : m.getD i false = true) (clo : ∀ j n, ds[j]? = some n → m.getD j false = true → (ns.length ≤ n.a → m.getD (n.a - ns.length) false = true) ∧ (ns.length ≤ n.b → m.getD (n.b - ns.length) false = true)) :
    KInv V ns ds m (i + 1) (nsI ++ [⟨n.v, numN ns.length kept n.a, numN ns.length kept n.b⟩]) (kept.set i nsI.length) := by
  obtain ⟨hwf, hnew⟩ := h.new h2n hw hns hn hm clo
  have hi := (List.getElem?_eq_some_iff.1 hn).1
  have hik : i < kept.length := by rw [h.kl]; exact hi
  have hn' : (ns ++ ds)[ns.length + i]? = some n := by rw [List.getElem?_append_right (by omega), Nat.add_sub_cancel_left]; exact hn
  obtain ⟨a1, a2, a3, a4, a5, a6⟩ := hw.nd _ n (by omega) hn'
  obtain ⟨ha, hb⟩ := clo i n hn hm
  have ca := h.child hw hns a2 (Nat.le_of_lt hi) ha
  have cb := h.child hw hns a3 (Nat.le_of_lt hi) hb
  have hle := pre_le h.pre
  refine ⟨hwf, ?_, by rw [List.length_set]; exact h.kl, fun j n' hj hn2 hb2 => ?_, fun j k hj hk hb1 hb2 he => ?_, fun x h1 h2 => ?_, ?_⟩
  · obtain ⟨K, rfl⟩ := h.pre
    exact ⟨K ++ _, List.append_assoc _ _ _⟩
  · by_cases e : j = i
    · subst e
      rw [hn] at hn2
      cases hn2
      rw [getD_set_eq hik]
      refine ⟨hle, by simp, ?_, fun w => ?_⟩
      · rw [numN_set a2, numN_set a3]
        simp
      · have hx : (nsI ++ [(⟨n.v, numN ns.length kept n.a, numN ns.length kept n.b⟩ : Nd)])[nsI.length]? = some ⟨n.v, numN ns.length kept n.a, numN ns.length kept n.b⟩ := by simp
        rw [hwf.ev_node w (by omega) hx, hw.ev_node w (by omega) hn']
        simp only
        rw [ev_app h.wf hwf w _ ca.lt, ev_app h.wf hwf w _ cb.lt, ca.ev, cb.ev]
    · have hjl := (List.getElem?_eq_some_iff.1 hn2).1
      obtain ⟨c1, c2, c3, c4⟩ := h.ok j n' (by omega) hn2 hb2
      have hn2' : (ns ++ ds)[ns.length + j]? = some n' := by rw [List.getElem?_append_right (by omega), Nat.add_sub_cancel_left]; exact hn2
      obtain ⟨b1, b2, b3, -⟩ := hw.nd _ n' (by omega) hn2'
      rw [getD_set_ne e]
      refine ⟨c1, by rw [List.length_append]; omega, ?_, fun w => ?_⟩
      · rw [List.getElem?_append_left c2, numN_set (by omega), numN_set (by omega)]
        exact c3
      · rw [ev_app h.wf hwf w _ c2]
        exact c4 w
  · have lt : ∀ j, j < i → m.getD j false = true → kept.getD j 0 < nsI.length := fun j hj hb => by
      obtain ⟨n', hn2⟩ := get_lt (L := ds) (i := j) (by omega)
      exact (h.ok j n' hj hn2 hb).2.1
    by_cases e1 : j = i
    · by_cases e2 : k = i
      · omega
      · rw [e1, getD_set_eq hik, getD_set_ne e2] at he
        have := lt k (by omega) hb2
        omega
    · by_cases e2 : k = i
      · rw [e2, getD_set_eq hik, getD_set_ne e1] at he
        have := lt j (by omega) hb1
        omega
      · rw [getD_set_ne e1, getD_set_ne e2] at he
        exact h.inj j k (by omega) (by omega) hb1 hb2 he
  · by_cases e : x = nsI.length
    · exact ⟨i, by omega, hm, by rw [getD_set_eq hik, e]⟩
    · obtain ⟨j, hj, hmj, hkj⟩ := h.sur x h1 (by simp at h2; omega)
      exact ⟨j, by omega, hmj, by rw [getD_set_ne (by omega)]; exact hkj⟩
  · unfold wsum
    rw [hm]
    have := h.cnt
    simp
    omega
/-- Which nodes are new: the one itself, and those to which a new one leads. -/
def Src (lo : Nat) (L : List Nd) (r : Nat) : Prop := ∀ x, lo ≤ x → x < L.length → x = r ∨ ∃ y n, lo ≤ y ∧ L[y]? = some n ∧ (n.a = x ∨ n.b = x)
theorem KInv.src {f : Nat} (h : KInv V ns ds m ds.length nsI kept) (hl : Led ns.length f ds m) : Src ns.length nsI (numN ns.length kept f) := by
  intro x h1 h2
  obtain ⟨j, hj, hmj, hkj⟩ := h.sur x h1 h2
  rcases hl j hmj with e | ⟨k, n, hn, hmk, hc⟩
  · left
    unfold numN
    rw [if_neg (by omega), ← e, Nat.add_sub_cancel_left, hkj]
  · right
    obtain ⟨c1, c2, c3, -⟩ := h.ok k n (List.getElem?_eq_some_iff.1 hn).1 hn hmk
    have hx : numN ns.length kept (ns.length + j) = x := by
      unfold numN
      rw [if_neg (by omega), Nat.add_sub_cancel_left, hkj]
    refine ⟨kept.getD k 0, _, c1, c3, ?_⟩
    rcases hc with hc | hc
    · left; show numN ns.length kept n.a = x; rw [hc]; exact hx
    · right; show numN ns.length kept n.b = x; rw [hc]; exact hx
end
end Go.Proofs.Ytailpphafoamfaa
namespace Go.Proofs.Ytailpphafoamfaa
open Go Go.RowKit Go.Maps


def intC (m : List Nat) : Array Value := (m.map fun (n : Nat) => Value.int .i32 (n : Int)).toArray
section
variable {w w' : World} {d first b2 b8 bk n : Nat} {kept : List Nat}
/-- What the numbering closure has caught. -/
structure NumAt (w : World) (d first b2 b8 bk : Nat) (kept : List Nat) : Prop where
  c2 : w.cell? ⟨b2, 0, none⟩ = some (.pointer (some ⟨d, 0, none⟩))
  d1 : w.cell? ⟨d, 1, none⟩ = some (.int .i32 (first : Int))
  c8 : w.cell? ⟨b8, 0, none⟩ = some (.slice (some ⟨bk, 0, none⟩) kept.length kept.length)
  ck : w.heap[bk]? = some (.cells (intC kept) 21 (0, 0))
theorem intC_at {j : Nat} (h : j < kept.length) : (intC kept)[j]? = some (.int .i32 ((kept.getD j 0 : Nat) : Int)) := by
  simp [intC, List.getElem?_eq_getElem h]
def NumPost (w : World) (first : Nat) (kept : List Nat) (n : Nat) (e : Ending) (w' : World) : Prop := e = .returned (.int .i32 ((numN first kept n : Nat) : Int)) ∧ w.grownBy w' none
set_option maxHeartbeats 8000000 in
set_option maxRecDepth 100000 in
theorem num_low (h : NumAt w d first b2 b8 bk kept) (hn : n < first) : Calls Try.prog 61 #[.int .i32 (n : Int), .pointer (some ⟨b2, 0, none⟩), .pointer (some ⟨b8, 0, none⟩)] w (NumPost w first kept n) := by
  have c2 := h.c2
  have d1 := h.d1
  have q : (n : Int) < (first : Int) := by omega
  have HE := Lib.hid (show NumPost w first kept n (.returned (.int .i32 (n : Int))) w from ⟨by unfold numN; rw [if_pos hn], World.grownBy.refl _ _⟩)
  clear h hn
  go_enter Try.func61, Try.ntmps61
  go_wp2
  go_ret
  exact HE.out
set_option maxHeartbeats 8000000 in
set_option maxRecDepth 100000 in
theorem num_high (h : NumAt w d first b2 b8 bk kept) (hn : first ≤ n) (hl : n < first + kept.length) (hb : first + kept.length ≤ 33554432) : Calls Try.prog 61 #[.int .i32 (n : Int), .pointer (some ⟨b2, 0, none⟩), .pointer (some ⟨b8, 0, none⟩)] w (NumPost w first kept n) := by
  obtain ⟨j, rfl⟩ : ∃ j, n = first + j := ⟨n - first, by omega⟩
  have c2 := h.c2
  have d1 := h.d1
  have c8 := h.c8
  obtain ⟨x, hx⟩ : ∃ x, kept.getD j 0 = x := ⟨_, rfl⟩
  have cj : w.cell? ⟨bk, j, none⟩ = some (.int .i32 (x : Int)) := by rw [cell_of h.ck, intC_at (by omega), hx]
  have q1 : ¬ ((first + j : Nat) : Int) < (first : Int) := by omega
  have q3 : (j : Int) < (kept.length : Int) := by omega
  have QW := Lib.hid (show IntKind.i32.wrap (((first + j : Nat) : Int) - (first : Int)) = (j : Int) from (IntWalk.i32_in _ (by omega)).trans (by omega))
  have HE := Lib.hid (show NumPost w first kept (first + j) (.returned (.int .i32 (x : Int))) (World.drew w) from ⟨by unfold numN; rw [if_neg (by omega), Nat.add_sub_cancel_left, hx], grown_drewN w 1⟩)
  obtain ⟨kl, hkl⟩ : ∃ kl, kept.length = kl := ⟨_, rfl⟩
  rw [hkl] at c8 q3
  clear h hn hl hb hx hkl
  generalize first + j = n at *
  go_enter Try.func61, Try.ntmps61
  go_wp2
  refine wp_region_T (S := fun w' => ∀ k ∈ [b2, d, b8, bk], w'.heap[k]? = w.heap[k]?) (tail := fun _ => false) (by kernel_rfl) ?_
  change wpAnyT _ _ _ _ _ _ _ _ _ (World.drew w)
  have BD := Lib.hid (show ∀ k ∈ [b2, d, b8, bk], (World.drew w).heap[k]? = w.heap[k]? from fun _ _ => rfl)
  refine tk 0 12 (.slice (some ⟨bk, 0, none⟩) kl kl) BD.out ?y0 ?_
  case y0 =>
    intro w' hw'
    have y0 := (World.cell?_of_block (a := ⟨b8, 0, none⟩) (hw' _ (by simp))).trans c8
    go_simp
  try simp only [Act.put, List.setIfInBounds_toArray, List.set_cons_zero, List.set_cons_succ]
  refine tk 1 13 (.int .i32 ((n : Nat) : Int)) BD.out ?y1 ?_
  case y1 =>
    intro w' hw'
    go_simp
  try simp only [Act.put, List.setIfInBounds_toArray, List.set_cons_zero, List.set_cons_succ]
  refine tk 2 14 (.pointer (some ⟨d, 0, none⟩)) BD.out ?y2 ?_
  case y2 =>
    intro w' hw'
    have y0 := (World.cell?_of_block (a := ⟨b2, 0, none⟩) (hw' _ (by simp))).trans c2
    go_simp
  try simp only [Act.put, List.setIfInBounds_toArray, List.set_cons_zero, List.set_cons_succ]
  refine tk 3 15 (.pointer (some ⟨d, 0, none⟩)) BD.out ?y3 ?_
  case y3 =>
    intro w' hw'
    go_simp
  try simp only [Act.put, List.setIfInBounds_toArray, List.set_cons_zero, List.set_cons_succ]
  refine tk 4 16 (.pointer (some ⟨d, 1, none⟩)) BD.out ?y4 ?_
  case y4 =>
    intro w' hw'
    go_simp
  try simp only [Act.put, List.setIfInBounds_toArray, List.set_cons_zero, List.set_cons_succ]
  refine tk 5 17 (.int .i32 (first : Int)) BD.out ?y5 ?_
  case y5 =>
    intro w' hw'
    have y0 := (World.cell?_of_block (a := ⟨d, 1, none⟩) (hw' _ (by simp))).trans d1
    go_simp
  try simp only [Act.put, List.setIfInBounds_toArray, List.set_cons_zero, List.set_cons_succ]
  refine tk 6 18 (.int .i32 (j : Int)) BD.out ?y6 ?_
  case y6 =>
    intro w' hw'
    go_simp
    exact QW.out
  try simp only [Act.put, List.setIfInBounds_toArray, List.set_cons_zero, List.set_cons_succ]
  refine tk 7 19 (.pointer (some ⟨bk, j, none⟩)) BD.out ?y7 ?_
  case y7 =>
    intro w' hw'
    go_simp
  try simp only [Act.put, List.setIfInBounds_toArray, List.set_cons_zero, List.set_cons_succ]
  refine tk 8 20 (.int .i32 (x : Int)) BD.out ?y8 ?_
  case y8 =>
    intro w' hw'
    have y0 := (World.cell?_of_block (a := ⟨bk, j, none⟩) (hw' _ (by simp))).trans cj
    go_simp
  try simp only [Act.put, List.setIfInBounds_toArray, List.set_cons_zero, List.set_cons_succ]
  refine tk 9 4 (.int .i32 (x : Int)) BD.out ?y9 ?_
  case y9 =>
    intro w' hw'
    go_simp
  try simp only [Act.put, List.setIfInBounds_toArray, List.set_cons_zero, List.set_cons_succ]
  refine dn ?_
  go_wp2
  go_ret
  exact HE.out
theorem num_any (h : NumAt w d first b2 b8 bk kept) (hl : n < first + kept.length) (hb : first + kept.length ≤ 33554432) : Calls Try.prog 61 #[.int .i32 (n : Int), .pointer (some ⟨b2, 0, none⟩), .pointer (some ⟨b8, 0, none⟩)] w (NumPost w first kept n) := by
  by_cases hn : n < first
  · exact num_low h hn
  · exact num_high h (by omega) hl hb
end

end Go.Proofs.Ytailpphafoamfaa
