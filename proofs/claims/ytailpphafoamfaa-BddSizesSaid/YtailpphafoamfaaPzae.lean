/- What settles. Combining: what it has caught; one side of a variable. Combining: what is settled, what is done already. -/
import Derived.Test.YtailpphafoamfaaPzad
set_option linter.all false
namespace Go.Proofs.Ytailpphafoamfaa
open Go Go.RowKit Go.Maps


section
variable {w w' : World} {o o' : Nat → Nat} {g g' : SG} {D D' : DG}
theorem leads_any (n : Nd) (b : Bool) (w : World) : Calls Try.prog 37 #[ndV n, .bool b] w fun e w' => e = .returned (.int .i32 ((leadN n b : Nat) : Int)) ∧ w.grownBy w' none := by
  unfold ndV
  cases b
  all_goals
    go_enter Try.func37, Try.ntmps37
    go_wp2
    go_ret
    exact ⟨rfl, grown_alloc _ _⟩
theorem beq_cast (a b : Nat) : (((a : Nat) : Int) == ((b : Nat) : Int)) = (a == b) := by
  rw [Bool.eq_iff_iff]
  simp
  omega
theorem chosen_any (f g h : Nat) (w : World) : Calls Try.prog 59 #[.int .i32 (f : Int), .int .i32 (g : Int), .int .i32 (h : Int)] w fun e w' => e = .returned (.tuple #[.int .i32 (((chosenN f g h).1 : Nat) : Int), .bool (chosenN f g h).2]) ∧ w' = w := by
  obtain ⟨r, hr⟩ : ∃ r, chosenN f g h = r := ⟨_, rfl⟩
  rw [hr]
  have HR := Lib.hid hr
  clear hr
  go_enter Try.func59, Try.ntmps59
  go_wp2
  all_goals
    go_ret2
    refine ⟨?_, rfl⟩
    rw [← HR.out]
    clear HR
    unfold chosenN
    (repeat' split) <;> first | rfl | (simp at *; omega) | (exfalso; simp at *; omega)
theorem alike_any (f g h : Nat) (w : World) : Calls Try.prog 54 #[.int .i32 (f : Int), .int .i32 (g : Int), .int .i32 (h : Int)] w fun e w' => e = .returned (.tuple #[.int .i32 (((alikeN f g).1 : Nat) : Int), .bool (alikeN f g).2]) ∧ w' = w := by
  obtain ⟨r, hr⟩ : ∃ r, alikeN f g = r := ⟨_, rfl⟩
  rw [hr]
  have HR := Lib.hid hr
  clear hr
  go_enter Try.func54, Try.ntmps54
  go_wp2
  all_goals
    go_ret2
    refine ⟨?_, rfl⟩
    rw [← HR.out]
    clear HR
    unfold alikeN
    (repeat' split) <;> first | rfl | (exfalso; simp at *; omega) | (congr 4; rw [Bool.eq_iff_iff]; simp at *; omega) | (simp at *; rw [Bool.eq_iff_iff]; simp; omega) | (simp at *; omega)
def DecPost (w : World) (r : Nat) (e : Ending) (w' : World) : Prop := e = .returned (.int .i32 ((r : Nat) : Int)) ∧ w.grownBy w' none
set_option maxHeartbeats 8000000 in
set_option maxRecDepth 100000 in
theorem decided_any (h : DS w o g D) {f : Nat} (v : Nat) (b : Bool) (hf : f < (lst g D).length) : Calls Try.prog 72 #[.pointer (some ⟨D.d, 0, none⟩), .int .i32 (f : Int), .int .i32 (v : Int), .bool b] w (DecPost w (dec (lst g D) f v b)) := by
  obtain ⟨n, hn⟩ := get_lt hf
  have hd : dec (lst g D) f v b = if n.v = v then leadN n b else f := by unfold dec; rw [hn]
  rw [hd]
  have HA := Lib.hid (at_any h.st h.dr hn)
  clear h hf hn hd
  obtain ⟨y0, y1, y2⟩ : (∀ w1 : World, (w1.alloc (.cells #[.int .i32 (n.v : Int), .int .i32 (n.a : Int), .int .i32 (n.b : Int)] 63)).cell? ⟨w1.heap.size, 0, none⟩ = some (.int .i32 (n.v : Int))) ∧ (∀ w1 : World, (w1.alloc (.cells #[.int .i32 (n.v : Int), .int .i32 (n.a : Int), .int .i32 (n.b : Int)] 63)).cell? ⟨w1.heap.size, 1, none⟩ = some (.int .i32 (n.a : Int))) ∧ (∀ w1 : World, (w1.alloc (.cells #[.int .i32 (n.v : Int), .int .i32 (n.a : Int), .int .i32 (n.b : Int)] 63)).cell? ⟨w1.heap.size, 2, none⟩ = some (.int .i32 (n.b : Int))) :=
    ⟨fun w1 => (box3 w1 _ _ _ 63).1, fun w1 => (box3 w1 _ _ _ 63).2.1, fun w1 => (box3 w1 _ _ _ 63).2.2⟩
  by_cases hv : n.v = v
  · subst hv
    rw [if_pos rfl]
    go_enter Try.func72, Try.ntmps72
    go_wp2_with fail
    refine (HA.out).mono ?_
    rintro e w1 ⟨rfl, hg⟩
    have HG := Lib.hid hg
    clear hg HA
    unfold ndV
    have HL := Lib.hid (leads_any n b (w1.alloc (.cells #[.int .i32 (n.v : Int), .int .i32 (n.a : Int), .int .i32 (n.b : Int)] 63)))
    unfold ndV at HL
    go_wp2_with (go_at_call 37; refine (HL.out).mono ?_; rintro e w2 ⟨rfl, hg2⟩; have HG2 := Lib.hid hg2; clear hg2)
    go_ret
    exact ⟨rfl, grown_trans (grown_trans HG.out (grown_alloc _ _)) HG2.out⟩
  · rw [if_neg hv]
    have q : (((n.v : Nat) : Int) != ((v : Nat) : Int)) = true := by simp; omega
    clear hv
    go_enter Try.func72, Try.ntmps72
    go_wp2_with fail
    refine (HA.out).mono ?_
    rintro e w1 ⟨rfl, hg⟩
    have HG := Lib.hid hg
    clear hg HA
    unfold ndV
    go_wp2
    go_ret
    exact ⟨rfl, grown_trans HG.out (grown_alloc _ _)⟩
end
end Go.Proofs.Ytailpphafoamfaa
namespace Go.Proofs.Ytailpphafoamfaa
open Go Go.RowKit Go.Maps


/-- A function value that settles as st says. -/
def SetF (fv : Value) (st : Nat → Nat → Nat → Nat × Bool) : Prop :=
  ∃ fid, fv = .func (.func fid) #[] #[] ∧ (∀ args w, (callFunc fid args).run Try.prog w = .ok (.enter fid args) w) ∧
    ∀ (f g h : Nat) (w : World), Calls Try.prog fid #[.int .i32 (f : Int), .int .i32 (g : Int), .int .i32 (h : Int)] w fun e w' => e = .returned (.tuple #[.int .i32 (((st f g h).1 : Nat) : Int), .bool (st f g h).2]) ∧ w' = w
structure Env where
  b2 : Nat
  b3 : Nat
  b5 : Nat
  b6 : Nat
  bd : Nat
  fv : Value
def combV (E : Env) : Value := .func (.func 69) #[] #[.pointer (some ⟨E.b2, 0, none⟩), .pointer (some ⟨E.b3, 0, none⟩), .pointer (some ⟨E.b5, 0, none⟩), .pointer (some ⟨E.b6, 0, none⟩)]
/-- What the combining closure has caught. -/
structure CombAt (w : World) (o : Nat → Nat) (d : Nat) (E : Env) (mp : Value → Option Value) : Prop where
  c2 : w.cell? ⟨E.b2, 0, none⟩ = some (.pointer (some ⟨d, 0, none⟩))
  c3 : w.cell? ⟨E.b3, 0, none⟩ = some E.fv
  c5 : w.cell? ⟨E.b5, 0, none⟩ = some (.map (some E.bd))
  c6 : w.cell? ⟨E.b6, 0, none⟩ = some (combV E)
  o2 : o E.b2 = 0
  o3 : o E.b3 = 0
  o5 : o E.b5 = 0
  o6 : o E.b6 = 0
  od : o E.bd = 7
  map : MapIs 125 w E.bd mp
def key3 (f g h : Nat) : Value := .agg #[.int .i32 (f : Int), .int .i32 (g : Int), .int .i32 (h : Int)]
def DoneOk (op : Bool → Bool → Bool → Bool) (L : List Nd) (mp : Value → Option Value) : Prop :=
  ∀ v x, mp v = some x → ∃ f g h r : Nat, v = key3 f g h ∧ x = .int .i32 (r : Int) ∧ f < L.length ∧ g < L.length ∧ h < L.length ∧ CombIs op L f g h r
/-- The blocks of a store, its draft, and what is done. -/
def Tc (t : Nat) : Bool := decide (1 ≤ t ∧ t ≤ 7)
theorem tc_of {T : Nat → Bool} (ht : ∀ t, T t = true → 1 ≤ t ∧ t ≤ 7) : ∀ t, Tc t = false → T t = false := fun t h => by
  cases hT : T t with
  | false => rfl
  | true =>
    have := ht t hT
    unfold Tc at h
    rw [decide_eq_true this] at h
    cases h
theorem td_tc : ∀ t, Tc t = false → Td t = false := tc_of fun t h => by unfold Td at h; have := of_decide_eq_true h; omega
structure CombOut (op : Bool → Bool → Bool → Bool) (w : World) (o : Nat → Nat) (g : SG) (D : DG) (E : Env) (f g0 h r : Nat) (w' : World) (o' : Nat → Nat) (g' : SG) (D' : DG) (mp' : Value → Option Value) : Prop where
  ds : DS w' o' g' D'
  at_ : CombAt w' o' D.d E mp'
  mp : D'.full = true ∨ DoneOk op (lst g' D') mp'
  keep : Keep Tc w o w' o'
  ext : Ext g D g' D'
  lt : r < (lst g' D').length
  is : D'.full = true ∨ CombIs op (lst g' D') f g0 h r
  len : D'.ds.length + 1 ≤ D.ds.length + 2 ^ (g.V - m3 (lst g D) f g0 h)
  W : g'.W + 1 ≤ g.W + 2 ^ (g.V - m3 (lst g D) f g0 h)
def CombPost (op : Bool → Bool → Bool → Bool) (w : World) (o : Nat → Nat) (g : SG) (D : DG) (E : Env) (f g0 h : Nat) (e : Ending) (w' : World) : Prop :=
  ∃ (r : Nat) (o' : Nat → Nat) (g' : SG) (D' : DG) (mp' : Value → Option Value), e = .returned (.int .i32 (r : Int)) ∧ CombOut op w o g D E f g0 h r w' o' g' D' mp'
section
variable {st : Nat → Nat → Nat → Nat × Bool} {op : Bool → Bool → Bool → Bool} {w w' : World} {o o' : Nat → Nat} {g g' : SG} {D D' : DG} {E : Env} {d : Nat} {mp mp' : Value → Option Value}
theorem CombAt.keep {T : Nat → Bool} (h : CombAt w o d E mp) (k : Keep T w o w' o') (t0 : T 0 = false) (t7 : T 7 = false) : CombAt w' o' d E mp where
  c2 := k.cell h.c2 (by show T (o E.b2) = false; rw [h.o2]; exact t0)
  c3 := k.cell h.c3 (by show T (o E.b3) = false; rw [h.o3]; exact t0)
  c5 := k.cell h.c5 (by show T (o E.b5) = false; rw [h.o5]; exact t0)
  c6 := k.cell h.c6 (by show T (o E.b6) = false; rw [h.o6]; exact t0)
  o2 := (k.own _ (lt_cell h.c2)).trans h.o2
  o3 := (k.own _ (lt_cell h.c3)).trans h.o3
  o5 := (k.own _ (lt_cell h.c5)).trans h.o5
  o6 := (k.own _ (lt_cell h.c6)).trans h.o6
  od := (k.own _ h.map.lt).trans h.od
  map := h.map.move (k.blk _ h.map.lt (by rw [h.od]; exact t7))
theorem CombAt.grown (h : CombAt w o d E mp) (hg : w.grownBy w' none) : CombAt w' o d E mp := h.keep (T := fun _ => false) (keep_none _ o hg) rfl rfl
/-- A box stays as it is. -/
theorem Keep.box {T : Nat → Bool} (k : Keep T w o w' o') {b : Nat} {v : Value} (h : w.cell? ⟨b, 0, none⟩ = some v) (ho : o b = 0) (t0 : T 0 = false) : w'.cell? ⟨b, 0, none⟩ = some v ∧ o' b = 0 :=
  ⟨k.cell h (by show T (o b) = false; rw [ho]; exact t0), (k.own b (lt_cell h)).trans ho⟩
theorem DoneOk.app {L K : List Nd} {V : Nat} (h : DoneOk op L mp) (hw : WF V L) (hw' : WF V (L ++ K)) : DoneOk op (L ++ K) mp := fun v x hv => by
  obtain ⟨f, g, h', r, e1, e2, h1, h2, h3, h4⟩ := h v x hv
  exact ⟨f, g, h', r, e1, e2, by simp; omega, by simp; omega, by simp; omega, h4.app hw hw' h1 h2 h3⟩
theorem DS.wf (h : DS w o g D) : WF g.V (lst g D) := h.dr.wf
/-- What follows of a longer list. -/
theorem Ext.emore (e : Ext g D g' D') (h : DS w o g D) (h' : DS w' o' g' D') : ∃ K, lst g' D' = lst g D ++ K ∧ WF g.V (lst g D) ∧ WF g.V (lst g D ++ K) := by
  obtain ⟨K, hK⟩ := e.ex
  exact ⟨K, hK, h.wf, by rw [← hK, ← e.V]; exact h'.wf⟩
theorem Ext.len_le (e : Ext g D g' D') : (lst g D).length ≤ (lst g' D').length := by
  obtain ⟨K, hK⟩ := e.ex
  rw [hK]; simp
theorem Ext.em3 (e : Ext g D g' D') {a b c : Nat} (ha : a < (lst g D).length) (hb : b < (lst g D).length) (hc : c < (lst g D).length) : m3 (lst g' D') a b c = m3 (lst g D) a b c := by
  obtain ⟨K, hK⟩ := e.ex
  rw [hK]; exact m3_app ha hb hc
theorem Ext.edec (e : Ext g D g' D') {f v : Nat} {b : Bool} (hf : f < (lst g D).length) : dec (lst g' D') f v b = dec (lst g D) f v b := by
  obtain ⟨K, hK⟩ := e.ex
  rw [hK]; exact dec_app hf
theorem Ext.ecomb (e : Ext g D g' D') (h : DS w o g D) (h' : DS w' o' g' D') {a b c r : Nat} (ha : a < (lst g D).length) (hb : b < (lst g D).length) (hc : c < (lst g D).length) (hi : CombIs op (lst g D) a b c r) : CombIs op (lst g' D') a b c r := by
  obtain ⟨K, hK, h1, h2⟩ := e.emore h h'
  rw [hK]; exact hi.app h1 h2 ha hb hc
theorem Ext.edone (e : Ext g D g' D') (h : DS w o g D) (h' : DS w' o' g' D') (hd : DoneOk op (lst g D) mp) : DoneOk op (lst g' D') mp := by
  obtain ⟨K, hK, h1, h2⟩ := e.emore h h'
  rw [hK]; exact hd.app h1 h2
/-- The contract of combining, where n variables are left. -/
def CombC (st : Nat → Nat → Nat → Nat × Bool) (op : Bool → Bool → Bool → Bool) (n : Nat) : Prop :=
  ∀ (w : World) (o : Nat → Nat) (g : SG) (D : DG) (E : Env) (mp : Value → Option Value) (f g0 h : Nat), DS w o g D → CombAt w o D.d E mp → SetF E.fv st → (D.full = true ∨ DoneOk op (lst g D) mp) → f < (lst g D).length → g0 < (lst g D).length → h < (lst g D).length → g.V ≤ n + m3 (lst g D) f g0 h →
    Calls Try.prog 69 #[.int .i32 (f : Int), .int .i32 (g0 : Int), .int .i32 (h : Int), .pointer (some ⟨E.b2, 0, none⟩), .pointer (some ⟨E.b3, 0, none⟩), .pointer (some ⟨E.b5, 0, none⟩), .pointer (some ⟨E.b6, 0, none⟩)] w (CombPost op w o g D E f g0 h)
structure SideIn (w : World) (o : Nat → Nat) (g : SG) (D : DG) (f g0 h v bf bg bh bv : Nat) : Prop where
  cf : w.cell? ⟨bf, 0, none⟩ = some (.int .i32 (f : Int))
  cg : w.cell? ⟨bg, 0, none⟩ = some (.int .i32 (g0 : Int))
  ch : w.cell? ⟨bh, 0, none⟩ = some (.int .i32 (h : Int))
  cv : w.cell? ⟨bv, 0, none⟩ = some (.int .i32 (v : Int))
  of_ : o bf = 0
  og : o bg = 0
  oh : o bh = 0
  ov : o bv = 0
  lf : f < (lst g D).length
  lg : g0 < (lst g D).length
  lh : h < (lst g D).length
  lv : v < g.V
  mv : m3 (lst g D) f g0 h = v
theorem SideIn.keep {T : Nat → Bool} {f g0 h v bf bg bh bv : Nat} (s : SideIn w o g D f g0 h v bf bg bh bv) (k : Keep T w o w' o') (t0 : T 0 = false) (e : Ext g D g' D') : SideIn w' o' g' D' f g0 h v bf bg bh bv :=
  ⟨(k.box s.cf s.of_ t0).1, (k.box s.cg s.og t0).1, (k.box s.ch s.oh t0).1, (k.box s.cv s.ov t0).1, (k.box s.cf s.of_ t0).2, (k.box s.cg s.og t0).2, (k.box s.ch s.oh t0).2, (k.box s.cv s.ov t0).2,
   Nat.lt_of_lt_of_le s.lf e.len_le, Nat.lt_of_lt_of_le s.lg e.len_le, Nat.lt_of_lt_of_le s.lh e.len_le, by rw [e.V]; exact s.lv, by rw [e.em3 s.lf s.lg s.lh]; exact s.mv⟩
def SidePost (op : Bool → Bool → Bool → Bool) (w : World) (o : Nat → Nat) (g : SG) (D : DG) (E : Env) (f g0 h v : Nat) (b : Bool) (e : Ending) (w' : World) : Prop := CombPost op w o g D E (dec (lst g D) f v b) (dec (lst g D) g0 v b) (dec (lst g D) h v b) e w'
set_option maxHeartbeats 8000000 in
set_option maxRecDepth 100000 in
theorem side_any {n : Nat} (HC : CombC st op n) (hs : DS w o g D) (ha : CombAt w o D.d E mp) (hf : SetF E.fv st) (hd : D.full = true ∨ DoneOk op (lst g D) mp) {f g0 h v bf bg bh bv : Nat} (hi : SideIn w o g D f g0 h v bf bg bh bv) (b : Bool) (hn : g.V ≤ n + 1 + v) :
    Calls Try.prog 71 #[.bool b, .pointer (some ⟨E.b6, 0, none⟩), .pointer (some ⟨E.b2, 0, none⟩), .pointer (some ⟨bf, 0, none⟩), .pointer (some ⟨bv, 0, none⟩), .pointer (some ⟨bg, 0, none⟩), .pointer (some ⟨bh, 0, none⟩)] w (SidePost op w o g D E f g0 h v b) := by
  have cf := hi.cf
  have cg := hi.cg
  have ch := hi.ch
  have cv := hi.cv
  have c2 := ha.c2
  have c6 := ha.c6
  have HI := Lib.hid hi
  have HS := Lib.hid hs
  have HA := Lib.hid ha
  have HCC := Lib.hid HC
  have HF := Lib.hid hf
  have HDN := Lib.hid hd
  have HNN := Lib.hid hn
  have HL := Lib.hid (show bf < w.heap.size ∧ bg < w.heap.size ∧ bh < w.heap.size ∧ bv < w.heap.size ∧ E.b2 < w.heap.size ∧ E.b6 < w.heap.size from ⟨lt_cell cf, lt_cell cg, lt_cell ch, lt_cell cv, lt_cell c2, lt_cell c6⟩)
  unfold combV at c6
  clear hi hs ha HC hf hd hn
  go_enter Try.func71, Try.ntmps71
  go_wp2
  refine wp_region_T (S := fun w' => ∀ k ∈ [E.b6, E.b2, bf, bg, bh, bv], w'.heap[k]? = w.heap[k]?) (tail := fun j => decide (16 ≤ j)) (by kernel_rfl) ?_
  change wpAnyT _ _ _ _ _ _ _ _ _ (World.drew w)
  have BD := Lib.hid (show ∀ k ∈ [E.b6, E.b2, bf, bg, bh, bv], (World.drew w).heap[k]? = w.heap[k]? from fun _ _ => rfl)
  have HGwd := Lib.hid (grown_drewN w 1)
  change Hid (w.grownBy (World.drew w) none) at HGwd
  refine tk 0 9 (.func (.func 69) #[] #[.pointer (some ⟨E.b2, 0, none⟩), .pointer (some ⟨E.b3, 0, none⟩), .pointer (some ⟨E.b5, 0, none⟩), .pointer (some ⟨E.b6, 0, none⟩)]) BD.out ?y0 ?_
  case y0 =>
    intro w' hw'
    have y0 := (World.cell?_of_block (a := ⟨E.b6, 0, none⟩) (hw' _ (by simp))).trans c6
    go_simp
  try simp only [Act.put, List.setIfInBounds_toArray, List.set_cons_zero, List.set_cons_succ]
  refine tk 1 10 (.pointer (some ⟨D.d, 0, none⟩)) BD.out ?y1 ?_
  case y1 =>
    intro w' hw'
    have y0 := (World.cell?_of_block (a := ⟨E.b2, 0, none⟩) (hw' _ (by simp))).trans c2
    go_simp
  try simp only [Act.put, List.setIfInBounds_toArray, List.set_cons_zero, List.set_cons_succ]
  refine tk 2 11 (.int .i32 ((f : Nat) : Int)) BD.out ?y2 ?_
  case y2 =>
    intro w' hw'
    have y0 := (World.cell?_of_block (a := ⟨bf, 0, none⟩) (hw' _ (by simp))).trans cf
    go_simp
  try simp only [Act.put, List.setIfInBounds_toArray, List.set_cons_zero, List.set_cons_succ]
  refine tk 3 12 (.int .i32 ((v : Nat) : Int)) BD.out ?y3 ?_
  case y3 =>
    intro w' hw'
    have y0 := (World.cell?_of_block (a := ⟨bv, 0, none⟩) (hw' _ (by simp))).trans cv
    go_simp
  try simp only [Act.put, List.setIfInBounds_toArray, List.set_cons_zero, List.set_cons_succ]
  refine tk 4 13 (.bool b) BD.out ?y4 ?_
  case y4 =>
    intro w' hw'
    go_simp
  try simp only [Act.put, List.setIfInBounds_toArray, List.set_cons_zero, List.set_cons_succ]
  refine tk 6 15 (.pointer (some ⟨D.d, 0, none⟩)) BD.out ?y6 ?_
  case y6 =>
    intro w' hw'
    have y0 := (World.cell?_of_block (a := ⟨E.b2, 0, none⟩) (hw' _ (by simp))).trans c2
    go_simp
  try simp only [Act.put, List.setIfInBounds_toArray, List.set_cons_zero, List.set_cons_succ]
  refine tk 7 16 (.int .i32 ((g0 : Nat) : Int)) BD.out ?y7 ?_
  case y7 =>
    intro w' hw'
    have y0 := (World.cell?_of_block (a := ⟨bg, 0, none⟩) (hw' _ (by simp))).trans cg
    go_simp
  try simp only [Act.put, List.setIfInBounds_toArray, List.set_cons_zero, List.set_cons_succ]
  refine tk 8 17 (.int .i32 ((v : Nat) : Int)) BD.out ?y8 ?_
  case y8 =>
    intro w' hw'
    have y0 := (World.cell?_of_block (a := ⟨bv, 0, none⟩) (hw' _ (by simp))).trans cv
    go_simp
  try simp only [Act.put, List.setIfInBounds_toArray, List.set_cons_zero, List.set_cons_succ]
  refine tk 9 18 (.bool b) BD.out ?y9 ?_
  case y9 =>
    intro w' hw'
    go_simp
  try simp only [Act.put, List.setIfInBounds_toArray, List.set_cons_zero, List.set_cons_succ]
  refine tk 11 20 (.pointer (some ⟨D.d, 0, none⟩)) BD.out ?y11 ?_
  case y11 =>
    intro w' hw'
    have y0 := (World.cell?_of_block (a := ⟨E.b2, 0, none⟩) (hw' _ (by simp))).trans c2
    go_simp
  try simp only [Act.put, List.setIfInBounds_toArray, List.set_cons_zero, List.set_cons_succ]
  refine tk 12 21 (.int .i32 ((h : Nat) : Int)) BD.out ?y12 ?_
  case y12 =>
    intro w' hw'
    have y0 := (World.cell?_of_block (a := ⟨bh, 0, none⟩) (hw' _ (by simp))).trans ch
    go_simp
  try simp only [Act.put, List.setIfInBounds_toArray, List.set_cons_zero, List.set_cons_succ]
  refine tk 13 22 (.int .i32 ((v : Nat) : Int)) BD.out ?y13 ?_
  case y13 =>
    intro w' hw'
    have y0 := (World.cell?_of_block (a := ⟨bv, 0, none⟩) (hw' _ (by simp))).trans cv
    go_simp
  try simp only [Act.put, List.setIfInBounds_toArray, List.set_cons_zero, List.set_cons_succ]
  refine tk 14 23 (.bool b) BD.out ?y14 ?_
  case y14 =>
    intro w' hw'
    go_simp
  try simp only [Act.put, List.setIfInBounds_toArray, List.set_cons_zero, List.set_cons_succ]
  refine on 5 (fun K hK => ?_)
  go_simp
  refine (decided_any (HS.out.grown HGwd.out) v b HI.out.lf).mono ?_
  rintro e w1 ⟨rfl, hg⟩
  have HGw1 := Lib.hid (grown_trans HGwd.out hg)
  have Bw1 := Lib.hid (show ∀ k ∈ [E.b6, E.b2, bf, bg, bh, bv], w1.heap[k]? = w.heap[k]? from fun k hk => HGw1.out.block k (by
    have h1 := HL.out
    simp at hk
    rcases hk with rfl | rfl | rfl | rfl | rfl | rfl
    · exact h1.2.2.2.2.2
    · exact h1.2.2.2.2.1
    · exact h1.1
    · exact h1.2.1
    · exact h1.2.2.1
    · exact h1.2.2.2.1) (by simp))
  clear hg
  refine hK.out _ _ (fun _ => Bw1.out) ?_
  clear hK K
  try simp only [Act.put, List.setIfInBounds_toArray, List.set_cons_zero, List.set_cons_succ]
  refine on 10 (fun K hK => ?_)
  go_simp
  refine (decided_any (HS.out.grown HGw1.out) v b HI.out.lg).mono ?_
  rintro e w2 ⟨rfl, hg⟩
  have HGw2 := Lib.hid (grown_trans HGw1.out hg)
  have Bw2 := Lib.hid (show ∀ k ∈ [E.b6, E.b2, bf, bg, bh, bv], w2.heap[k]? = w.heap[k]? from fun k hk => HGw2.out.block k (by
    have h1 := HL.out
    simp at hk
    rcases hk with rfl | rfl | rfl | rfl | rfl | rfl
    · exact h1.2.2.2.2.2
    · exact h1.2.2.2.2.1
    · exact h1.1
    · exact h1.2.1
    · exact h1.2.2.1
    · exact h1.2.2.2.1) (by simp))
  clear hg
  refine hK.out _ _ (fun _ => Bw2.out) ?_
  clear hK K
  try simp only [Act.put, List.setIfInBounds_toArray, List.set_cons_zero, List.set_cons_succ]
  refine on 15 (fun K hK => ?_)
  go_simp
  refine (decided_any (HS.out.grown HGw2.out) v b HI.out.lh).mono ?_
  rintro e w3 ⟨rfl, hg⟩
  have HGw3 := Lib.hid (grown_trans HGw2.out hg)
  have Bw3 := Lib.hid (show ∀ k ∈ [E.b6, E.b2, bf, bg, bh, bv], w3.heap[k]? = w.heap[k]? from fun k hk => HGw3.out.block k (by
    have h1 := HL.out
    simp at hk
    rcases hk with rfl | rfl | rfl | rfl | rfl | rfl
    · exact h1.2.2.2.2.2
    · exact h1.2.2.2.2.1
    · exact h1.1
    · exact h1.2.1
    · exact h1.2.2.1
    · exact h1.2.2.2.1) (by simp))
  clear hg
  refine hK.out _ _ (fun _ => Bw3.out) ?_
  clear hK K
  try simp only [Act.put, List.setIfInBounds_toArray, List.set_cons_zero, List.set_cons_succ]
  refine on 16 (fun K hK => ?_)
  go_simp
  refine (HCC.out w3 o g D E mp (dec (lst g D) f v b) (dec (lst g D) g0 v b) (dec (lst g D) h v b) (HS.out.grown HGw3.out) (HA.out.grown HGw3.out) HF.out HDN.out (HS.out.wf.dec_lt b HI.out.lf HI.out.lv) (HS.out.wf.dec_lt b HI.out.lg HI.out.lv) (HS.out.wf.dec_lt b HI.out.lh HI.out.lv) (by
    have h1 := HS.out.wf.m3_dec b HI.out.lf HI.out.lg HI.out.lh HI.out.lv HI.out.mv
    have h2 := HNN.out
    omega)).mono ?_
  rintro e w4 ⟨r, o4, g4, D4, mp4, rfl, hout⟩
  have HR := Lib.hid (show SidePost op w o g D E f g0 h v b (.returned (.int .i32 (r : Int))) w4 from ⟨r, o4, g4, D4, mp4, rfl, hout.ds, hout.at_, hout.mp, (keep_none _ o HGw3.out).trans hout.keep, hout.ext, hout.lt, hout.is, hout.len, hout.W⟩)
  clear hout
  refine hK.out _ _ (fun h => absurd h (by decide)) ?_
  clear hK K
  try simp only [Act.put, List.setIfInBounds_toArray, List.set_cons_zero, List.set_cons_succ]
  refine tkM 17 8 (.int .i32 (r : Int)) ?y17 ?_
  case y17 =>
    intro w'
    go_simp
  try simp only [Act.put, List.setIfInBounds_toArray, List.set_cons_zero, List.set_cons_succ]
  refine dn ?_
  go_wp2
  go_ret
  exact HR.out
end

end Go.Proofs.Ytailpphafoamfaa
namespace Go.Proofs.Ytailpphafoamfaa
open Go Go.RowKit Go.Maps


section
variable {st : Nat → Nat → Nat → Nat × Bool} {op : Bool → Bool → Bool → Bool} {w w' : World} {o o' : Nat → Nat} {g g' : SG} {D D' : DG} {E : Env} {d : Nat} {mp mp' : Value → Option Value}
/-- What a call that makes nothing leaves. -/
theorem CombOut.same (hs : DS w o g D) (ha : CombAt w o D.d E mp) (hd : D.full = true ∨ DoneOk op (lst g D) mp) (hg : w.grownBy w' none) {f g0 h r : Nat} (hlt : r < (lst g D).length) (hi : D.full = true ∨ CombIs op (lst g D) f g0 h r) : CombOut op w o g D E f g0 h r w' o g D mp :=
  ⟨hs.grown hg, ha.grown hg, hd, keep_none _ o hg, Ext.refl _ _, hlt, hi, by have := pow_pos' (g.V - m3 (lst g D) f g0 h); omega, by have := pow_pos' (g.V - m3 (lst g D) f g0 h); omega⟩
def w3 (w : World) (f g0 h : Nat) : World := ((w.alloc (.cells #[.int .i32 (f : Int)] 21)).alloc (.cells #[.int .i32 (g0 : Int)] 21)).alloc (.cells #[.int .i32 (h : Int)] 21)
theorem w3_grown (w : World) (f g0 h : Nat) : w.grownBy (w3 w f g0 h) none := grown_trans (grown_trans (grown_alloc _ _) (grown_alloc _ _)) (grown_alloc _ _)
theorem w3_cells (w : World) (f g0 h : Nat) : (w3 w f g0 h).cell? ⟨w.heap.size, 0, none⟩ = some (.int .i32 (f : Int)) ∧ (w3 w f g0 h).cell? ⟨w.heap.size + 1, 0, none⟩ = some (.int .i32 (g0 : Int)) ∧ (w3 w f g0 h).cell? ⟨w.heap.size + 1 + 1, 0, none⟩ = some (.int .i32 (h : Int)) ∧ (w3 w f g0 h).heap.size = w.heap.size + 3 := by
  have e1 : (w.alloc (.cells #[.int .i32 (f : Int)] 21)).heap.size = w.heap.size + 1 := by simp
  have e2 : ((w.alloc (.cells #[.int .i32 (f : Int)] 21)).alloc (.cells #[.int .i32 (g0 : Int)] 21)).heap.size = w.heap.size + 1 + 1 := by simp
  have h1 := (MapKept.heap_alloc w (.cells #[.int .i32 (f : Int)] 21)).1
  have h2 := (MapKept.heap_alloc (w.alloc (.cells #[.int .i32 (f : Int)] 21)) (.cells #[.int .i32 (g0 : Int)] 21)).1
  have h3 := (MapKept.heap_alloc ((w.alloc (.cells #[.int .i32 (f : Int)] 21)).alloc (.cells #[.int .i32 (g0 : Int)] 21)) (.cells #[.int .i32 (h : Int)] 21)).1
  rw [e1] at h2
  rw [e2] at h3
  refine ⟨?_, ?_, ?_, by simp [w3]⟩
  · have : (w3 w f g0 h).heap[w.heap.size]? = some (.cells #[.int .i32 (f : Int)] 21 (0, 0)) := by
      unfold w3
      rw [heap_alloc_old (by omega), heap_alloc_old (by omega)]
      exact h1
    unfold World.cell?
    rw [this]
    rfl
  · have : (w3 w f g0 h).heap[w.heap.size + 1]? = some (.cells #[.int .i32 (g0 : Int)] 21 (0, 0)) := by
      unfold w3
      rw [heap_alloc_old (by omega)]
      exact h2
    unfold World.cell?
    rw [this]
    rfl
  · unfold World.cell? w3
    rw [h3]
    rfl
set_option maxHeartbeats 8000000 in
set_option maxRecDepth 100000 in
theorem comb_full {n : Nat} (w : World) (o : Nat → Nat) (g : SG) (D : DG) (E : Env) (mp : Value → Option Value) (f g0 h : Nat) (hs : DS w o g D) (ha : CombAt w o D.d E mp) (hd : D.full = true) :
    Calls Try.prog 69 #[.int .i32 (f : Int), .int .i32 (g0 : Int), .int .i32 (h : Int), .pointer (some ⟨E.b2, 0, none⟩), .pointer (some ⟨E.b3, 0, none⟩), .pointer (some ⟨E.b5, 0, none⟩), .pointer (some ⟨E.b6, 0, none⟩)] w (CombPost op w o g D E f g0 h) := by
  have h2 := hs.st.wf.two
  have HR := Lib.hid (show CombPost op w o g D E f g0 h (.returned (.int .i32 ((0 : Nat) : Int))) (w3 w f g0 h) from ⟨0, o, g, D, mp, rfl, CombOut.same hs ha (.inl hd) (w3_grown w f g0 h) (by unfold lst; simp; omega) (.inl hd)⟩)
  unfold w3 at HR
  have c2 := ha.c2
  have c5 := hs.dr.c5
  rw [hd] at c5
  have l2 : E.b2 < w.heap.size := lt_cell c2
  have l5 := hs.dr.ltd
  have m2 : E.b2 < w.heap.size + 1 := by omega
  have m5 : D.d < w.heap.size + 1 := by omega
  have n2 : E.b2 < w.heap.size + 1 + 1 := by omega
  have n5 : D.d < w.heap.size + 1 + 1 := by omega
  clear hs ha hd h2
  go_enter Try.func69, Try.ntmps69
  go_wp2
  go_ret
  exact HR.out
set_option maxHeartbeats 8000000 in
set_option maxRecDepth 100000 in
theorem comb_set {n : Nat} (S : Settles st op) (w : World) (o : Nat → Nat) (g : SG) (D : DG) (E : Env) (mp : Value → Option Value) (f g0 h : Nat) (hs : DS w o g D) (ha : CombAt w o D.d E mp) (hf : SetF E.fv st) (hfu : D.full = false) (hd : DoneOk op (lst g D) mp) (lf : f < (lst g D).length) (lg : g0 < (lst g D).length) (lh : h < (lst g D).length) (hn : g.V ≤ n + m3 (lst g D) f g0 h) (hst : (st f g0 h).2 = true) :
    Calls Try.prog 69 #[.int .i32 (f : Int), .int .i32 (g0 : Int), .int .i32 (h : Int), .pointer (some ⟨E.b2, 0, none⟩), .pointer (some ⟨E.b3, 0, none⟩), .pointer (some ⟨E.b5, 0, none⟩), .pointer (some ⟨E.b6, 0, none⟩)] w (CombPost op w o g D E f g0 h) := by
  obtain ⟨fid, hfv, hfe, hfc⟩ := id hf
  have c2 := ha.c2
  have c3 := ha.c3
  have c5 := ha.c5
  have c6 := ha.c6
  have d5 := hs.dr.c5
  rw [hfu] at d5
  rw [hfv] at c3
  have l2 : E.b2 < w.heap.size := lt_cell c2
  have l3 : E.b3 < w.heap.size := lt_cell c3
  have l5 : E.b5 < w.heap.size := lt_cell c5
  have l6 : E.b6 < w.heap.size := lt_cell c6
  have ld := hs.dr.ltd
  have l2' : E.b2 < w.heap.size + 1 := by omega
  have l2'' : E.b2 < w.heap.size + 1 + 1 := by omega
  have l3' : E.b3 < w.heap.size + 1 := by omega
  have l3'' : E.b3 < w.heap.size + 1 + 1 := by omega
  have l5' : E.b5 < w.heap.size + 1 := by omega
  have l5'' : E.b5 < w.heap.size + 1 + 1 := by omega
  have l6' : E.b6 < w.heap.size + 1 := by omega
  have l6'' : E.b6 < w.heap.size + 1 + 1 := by omega
  have ld' : D.d < w.heap.size + 1 := by omega
  have ld'' : D.d < w.heap.size + 1 + 1 := by omega
  have HFC := Lib.hid hfc
  have HFE := Lib.hid hfe
  have HS := Lib.hid hs
  have HA := Lib.hid ha
  have HD := Lib.hid hd
  have HFV := Lib.hid hfv
  have HL := Lib.hid (show f < (lst g D).length ∧ g0 < (lst g D).length ∧ h < (lst g D).length from ⟨lf, lg, lh⟩)
  have HN := Lib.hid hn
  have HFU := Lib.hid hfu
  have HSS := Lib.hid S
  obtain ⟨r, hr⟩ : ∃ r, (st f g0 h).1 = r := ⟨_, rfl⟩
  have HR := Lib.hid (show CombPost op w o g D E f g0 h (.returned (.int .i32 (r : Int))) (w3 w f g0 h) from (by
    obtain ⟨h1, h2, h3⟩ := S.yes hs.wf f g0 h lf lg lh hst
    rw [hr] at h1 h2 h3
    exact ⟨r, o, g, D, mp, rfl, CombOut.same hs ha (.inr hd) (w3_grown w f g0 h) h1 (.inr ⟨h1, h2, h3⟩)⟩))
  unfold w3 at HR
  have HC := Lib.hid (HFC.out f g0 h (((w.alloc (.cells #[.int .i32 (f : Int)] 21)).alloc (.cells #[.int .i32 (g0 : Int)] 21)).alloc (.cells #[.int .i32 (h : Int)] 21)))
  rw [hr, hst] at HC
  have hfe2 := HFE.out
  clear hs ha hf hd lf lg lh hn hfu S hr hst hfc hfv hfe HFC HSS
  go_enter Try.func69, Try.ntmps69
  go_wp2_with fail
  refine (HC.out).mono ?_
  rintro e w1 ⟨rfl, rfl⟩
  go_wp2
  go_ret
  exact HR.out
set_option maxHeartbeats 8000000 in
set_option maxRecDepth 100000 in
theorem comb_found {n : Nat} (S : Settles st op) (w : World) (o : Nat → Nat) (g : SG) (D : DG) (E : Env) (mp : Value → Option Value) (f g0 h : Nat) (hs : DS w o g D) (ha : CombAt w o D.d E mp) (hf : SetF E.fv st) (hfu : D.full = false) (hd : DoneOk op (lst g D) mp) (lf : f < (lst g D).length) (lg : g0 < (lst g D).length) (lh : h < (lst g D).length) (hn : g.V ≤ n + m3 (lst g D) f g0 h) (hst : (st f g0 h).2 = false) (x : Nat) (hx : mp (key3 f g0 h) = some (.int .i32 (x : Int))) :
    Calls Try.prog 69 #[.int .i32 (f : Int), .int .i32 (g0 : Int), .int .i32 (h : Int), .pointer (some ⟨E.b2, 0, none⟩), .pointer (some ⟨E.b3, 0, none⟩), .pointer (some ⟨E.b5, 0, none⟩), .pointer (some ⟨E.b6, 0, none⟩)] w (CombPost op w o g D E f g0 h) := by
  obtain ⟨fid, hfv, hfe, hfc⟩ := id hf
  have c2 := ha.c2
  have c3 := ha.c3
  have c5 := ha.c5
  have c6 := ha.c6
  have d5 := hs.dr.c5
  rw [hfu] at d5
  rw [hfv] at c3
  have l2 : E.b2 < w.heap.size := lt_cell c2
  have l3 : E.b3 < w.heap.size := lt_cell c3
  have l5 : E.b5 < w.heap.size := lt_cell c5
  have l6 : E.b6 < w.heap.size := lt_cell c6
  have ld := hs.dr.ltd
  have l2' : E.b2 < w.heap.size + 1 := by omega
  have l2'' : E.b2 < w.heap.size + 1 + 1 := by omega
  have l3' : E.b3 < w.heap.size + 1 := by omega
  have l3'' : E.b3 < w.heap.size + 1 + 1 := by omega
  have l5' : E.b5 < w.heap.size + 1 := by omega
  have l5'' : E.b5 < w.heap.size + 1 + 1 := by omega
  have l6' : E.b6 < w.heap.size + 1 := by omega
  have l6'' : E.b6 < w.heap.size + 1 + 1 := by omega
  have ld' : D.d < w.heap.size + 1 := by omega
  have ld'' : D.d < w.heap.size + 1 + 1 := by omega
  have HFC := Lib.hid hfc
  have HFE := Lib.hid hfe
  have HS := Lib.hid hs
  have HA := Lib.hid ha
  have HD := Lib.hid hd
  have HFV := Lib.hid hfv
  have HL := Lib.hid (show f < (lst g D).length ∧ g0 < (lst g D).length ∧ h < (lst g D).length from ⟨lf, lg, lh⟩)
  have HN := Lib.hid hn
  have HFU := Lib.hid hfu
  have HSS := Lib.hid S
  obtain ⟨r, hr⟩ : ∃ r, (st f g0 h).1 = r := ⟨_, rfl⟩
  have hke := isK125 (a := f) (b := g0) (c := h) (by have := HS.out.len; omega) (by have := HS.out.len; omega) (by have := HS.out.len; omega)
  have hlk := ((ha.grown (w3_grown w f g0 h)).map).look K125 Try.underlying124 (z21 _) hke
  unfold w3 i32 at hlk
  have hlk2 : mp (.agg #[.int .i32 (f : Int), .int .i32 (g0 : Int), .int .i32 (h : Int)]) = some (.int .i32 ((x : Nat) : Int)) := hx
  rw [hlk2] at hlk
  simp only [Option.getD_some, Option.isSome_some] at hlk
  have HR := Lib.hid (show CombPost op w o g D E f g0 h (.returned (.int .i32 (x : Int))) (w3 w f g0 h) from (by
    obtain ⟨f', g', h', r', e1, e2, l1, l2, l3, hc⟩ := hd _ _ hx
    simp only [key3, Value.agg.injEq, Array.mk.injEq, List.cons.injEq, Value.int.injEq, true_and, and_true] at e1
    simp only [Value.int.injEq, true_and] at e2
    have q1 : f = f' := by omega
    have q2 : g0 = g' := by omega
    have q3 : h = h' := by omega
    have q4 : x = r' := by omega
    subst q1 q2 q3 q4
    exact ⟨x, o, g, D, mp, rfl, CombOut.same hs ha (.inr hd) (w3_grown w f g0 h) hc.lt (.inr hc)⟩))
  unfold w3 at HR
  have HC := Lib.hid (HFC.out f g0 h (((w.alloc (.cells #[.int .i32 (f : Int)] 21)).alloc (.cells #[.int .i32 (g0 : Int)] 21)).alloc (.cells #[.int .i32 (h : Int)] 21)))
  rw [hr, hst] at HC
  have hfe2 := HFE.out
  clear hs ha hf hd lf lg lh hn hfu S hr hst hfc hfv hfe HFC HSS hke hlk2 hx
  go_enter Try.func69, Try.ntmps69
  go_wp2_with fail
  refine (HC.out).mono ?_
  rintro e w1 ⟨rfl, rfl⟩
  go_wp2
  go_ret
  exact HR.out
end

end Go.Proofs.Ytailpphafoamfaa
