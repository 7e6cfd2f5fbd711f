/- What a diagram needs: marked from its node on, and how many that can be. What is needed. What a diagram needs. -/
import Derived.IntWalk
import Derived.Test.YtailpphafoamfaaPkaf
set_option linter.all false
namespace Go.Proofs.Ytailpphafoamfaa

def needN (first : Nat) (m : List Bool) (many n : Nat) : List Bool × Nat := if first ≤ n ∧ m.getD (n - first) true = false then (m.set (n - first) true, many + 1) else (m, many)
def wsum (u : Nat → Nat) (m : List Bool) : Nat → Nat
  | 0 => 0
  | k + 1 => wsum u m k + if m.getD k false = true then u k else 0
theorem wsum_set (u : Nat → Nat) (m : List Bool) {k : Nat} (hk : k < m.length) (hf : m.getD k false = false) : ∀ i, wsum u (m.set k true) i = wsum u m i + if k < i then u k else 0
  | 0 => by simp [wsum]
  | i + 1 => by
    unfold wsum
    rw [wsum_set u m hk hf i]
    by_cases e : i = k
    · subst e
      have h1 : (m.set i true).getD i false = true := by simp [List.getD_eq_getElem?_getD, hk]
      rw [h1, hf]
      simp
    · have h1 : (m.set k true).getD i false = m.getD i false := by
        simp only [List.getD_eq_getElem?_getD]
        rw [List.getElem?_set_ne (Ne.symm e)]
      rw [h1]
      by_cases h : k < i
      · have hh : k < i + 1 := by omega
        simp only [if_pos h, if_pos hh]; omega
      · have hh : ¬ k < i + 1 := by omega
        simp only [if_neg h, if_neg hh]; omega
theorem wsum_le (m : List Bool) : ∀ i, wsum (fun _ => 1) m i ≤ i
  | 0 => Nat.le_refl _
  | i + 1 => by
    have := wsum_le m i
    unfold wsum
    split <;> omega
theorem wsum_rep (u : Nat → Nat) (n : Nat) : ∀ i, wsum u (List.replicate n false) i = 0
  | 0 => rfl
  | i + 1 => by
    unfold wsum
    rw [wsum_rep u n i]
    have : (List.replicate n false).getD i false = false := by
      rw [List.getD_eq_getElem?_getD, List.getElem?_replicate]
      split <;> rfl
    rw [this]
    rfl
/-- A node's weight. -/
def wgt (V : Nat) (ds : List Nd) (j : Nat) : Nat := 2 ^ (V - ((ds[j]?).map Nd.v).getD V) - 1
/-- Who is marked: the node itself, and those to which one that is marked leads. -/
def Led (first f : Nat) (ds : List Nd) (m : List Bool) : Prop := ∀ j, m.getD j false = true → first + j = f ∨ ∃ k n, ds[k]? = some n ∧ m.getD k false = true ∧ (n.a = first + j ∨ n.b = first + j)
structure NInv (V first f : Nat) (ds : List Nd) (B : Nat) (m : List Bool) (many i : Nat) : Prop where
  len : m.length = ds.length
  root : first ≤ f → m.getD (f - first) false = true
  clo : ∀ j n, i ≤ j → ds[j]? = some n → m.getD j false = true → (first ≤ n.a → m.getD (n.a - first) false = true) ∧ (first ≤ n.b → m.getD (n.b - first) false = true)
  wt : wsum (wgt V ds) m i + many + 1 ≤ B + wsum (fun _ => 1) m i
  many : many = wsum (fun _ => 1) m m.length
  led : Led first f ds m
theorem needN_cases {first : Nat} {m : List Bool} {many n : Nat} (hn : n < first + m.length) : (needN first m many n = (m, many) ∧ (first ≤ n → m.getD (n - first) false = true)) ∨ (first ≤ n ∧ needN first m many n = (m.set (n - first) true, many + 1) ∧ m.getD (n - first) false = false) := by
  unfold needN
  by_cases h1 : first ≤ n
  · have hk : n - first < m.length := by omega
    have e : ∀ d, m.getD (n - first) d = m[n - first] := fun d => by simp [List.getD_eq_getElem?_getD, hk]
    cases hb : m[n - first] with
    | true => exact .inl ⟨if_neg (by rw [e, hb]; simp), fun _ => by rw [e, hb]⟩
    | false => exact .inr ⟨h1, if_pos ⟨h1, by rw [e, hb]⟩, by rw [e, hb]⟩
  · exact .inl ⟨if_neg (by omega), fun h => absurd h h1⟩
theorem getD_set_mono {m : List Bool} {k j : Nat} (h : m.getD j false = true) : (m.set k true).getD j false = true := by
  by_cases e : k = j
  · subst e
    rw [List.getD_eq_getElem?_getD] at h ⊢
    by_cases hk : k < m.length
    · simp [hk]
    · simp [hk] at h
  · rw [List.getD_eq_getElem?_getD, List.getElem?_set_ne e, ← List.getD_eq_getElem?_getD]
    exact h
theorem needN_mono {first : Nat} {m : List Bool} {many n j : Nat} (hn : n < first + m.length) (h : m.getD j false = true) : (needN first m many n).1.getD j false = true := by
  rcases needN_cases (many := many) hn with ⟨e, -⟩ | ⟨-, e, -⟩
  · rw [e]; exact h
  · rw [e]; exact getD_set_mono h
theorem needN_new {first : Nat} {m : List Bool} {many n j : Nat} (hn : n < first + m.length) (h : (needN first m many n).1.getD j false = true) : m.getD j false = true ∨ first + j = n := by
  rcases needN_cases (many := many) hn with ⟨e, -⟩ | ⟨h0, e, -⟩
  · rw [e] at h; exact .inl h
  · rw [e] at h
    simp only at h
    by_cases ej : n - first = j
    · right; omega
    · left
      rw [List.getD_eq_getElem?_getD, List.getElem?_set_ne ej, ← List.getD_eq_getElem?_getD] at h
      exact h
theorem Led.need {first f : Nat} {ds : List Nd} {m : List Bool} {many c : Nat} (h : Led first f ds m) (hn : c < first + m.length) (hp : c = f ∨ ∃ k n, ds[k]? = some n ∧ m.getD k false = true ∧ (n.a = c ∨ n.b = c)) : Led first f ds (needN first m many c).1 := by
  intro j hj
  have up : (∃ k n, ds[k]? = some n ∧ m.getD k false = true ∧ (n.a = first + j ∨ n.b = first + j)) → ∃ k n, ds[k]? = some n ∧ (needN first m many c).1.getD k false = true ∧ (n.a = first + j ∨ n.b = first + j) := by
    rintro ⟨k, n, h1, h2, h3⟩
    exact ⟨k, n, h1, needN_mono hn h2, h3⟩
  rcases needN_new hn hj with h1 | h1
  · rcases h j h1 with h2 | h2
    · exact .inl h2
    · exact .inr (up h2)
  · rcases hp with h2 | h2
    · exact .inl (h1.trans h2)
    · rw [← h1] at h2
      exact .inr (up h2)
theorem needN_has {first : Nat} {m : List Bool} {many n : Nat} (hn : n < first + m.length) (h : first ≤ n) : (needN first m many n).1.getD (n - first) false = true := by
  rcases needN_cases (many := many) hn with ⟨e, h1⟩ | ⟨-, e, -⟩
  · rw [e]; exact h1 h
  · rw [e]
    have hk : n - first < m.length := by omega
    simp [List.getD_eq_getElem?_getD, hk]
theorem needN_len {first : Nat} {m : List Bool} {many n : Nat} : (needN first m many n).1.length = m.length := by
  unfold needN
  split <;> simp
theorem needN_many {first : Nat} {m : List Bool} {many n : Nat} (hn : n < first + m.length) (h : many = wsum (fun _ => 1) m m.length) : (needN first m many n).2 = wsum (fun _ => 1) (needN first m many n).1 m.length := by
  rcases needN_cases (many := many) hn with ⟨e, h1⟩ | ⟨h0, e, h1⟩
  · rw [e]; exact h
  · have hk : n - first < m.length := by omega
    rw [e]
    simp only
    rw [wsum_set _ _ hk h1, if_pos hk, h]
/-- The weight behind one mark more, of a node ahead of i. -/
theorem needN_wt {u : Nat → Nat} {first : Nat} {m : List Bool} {many n i c : Nat} (hn : n < first + m.length) (hi : first ≤ n → n - first < i) (hu : first ≤ n → u (n - first) ≤ c) :
    wsum u (needN first m many n).1 i + (needN first m many n).2 + wsum (fun _ => 1) m i ≤ wsum u m i + many + wsum (fun _ => 1) (needN first m many n).1 i + c := by
  rcases needN_cases (many := many) hn with ⟨e, h1⟩ | ⟨h0, e, h1⟩
  · rw [e]; simp only; omega
  · have hk : n - first < m.length := by omega
    have h2 := hi h0
    have h3 := hu h0
    rw [e]
    simp only
    rw [wsum_set _ _ hk h1, wsum_set _ _ hk h1, if_pos h2, if_pos h2]
    omega
section
variable {V first f : Nat} {ns ds : List Nd} {B : Nat} {m : List Bool} {many i : Nat}
theorem wgt_le (hw : WF V (ns ++ ds)) {c v : Nat} (hc : ns.length ≤ c) (hcl : c < (ns ++ ds).length) (hv : v < ask (ns ++ ds) c) : wgt V ds (c - ns.length) + 1 = 2 ^ (V - ask (ns ++ ds) c) := by
  obtain ⟨n, hn⟩ := get_lt hcl
  rw [ask_at hn]
  rw [List.getElem?_append_right hc] at hn
  unfold wgt
  rw [hn]
  simp only [Option.map_some, Option.getD_some]
  have := pow_pos' (V - n.v)
  omega
theorem NInv.skip (h : NInv V first f ds B m many (i + 1)) (hm : m.getD i false = false) : NInv V first f ds B m many i where
  len := h.len
  root := h.root
  clo := fun j n hj hn hb => by
    by_cases e : j = i
    · subst e; rw [hm] at hb; cases hb
    · exact h.clo j n (by omega) hn hb
  wt := by
    have := h.wt
    unfold wsum at this
    rw [hm] at this
    simpa using this
  many := h.many
  led := h.led
/-- A node that is needed: so are those to which it leads. -/
theorem NInv.step (h2n : 2 ≤ ns.length) (hw : WF V (ns ++ ds)) (h : NInv V ns.length f ds B m many (i + 1)) {n : Nd} (hn : ds[i]? = some n) (hm : m.getD i false = true) :
    NInv V ns.length f ds B (needN ns.length (needN ns.length m many n.a).1 (needN ns.length m many n.a).2 n.b).1 (needN ns.length (needN ns.length m many n.a).1 (needN ns.length m many n.a).2 n.b).2 i := by
  have hi := (List.getElem?_eq_some_iff.1 hn).1
  have hn' : (ns ++ ds)[ns.length + i]? = some n := by rw [List.getElem?_append_right (by omega), Nat.add_sub_cancel_left]; exact hn
  have h2 : 2 ≤ ns.length + i := by omega
  obtain ⟨a1, a2, a3, a4, a5, a6⟩ := hw.nd _ n h2 hn'
  have hla : n.a < ns.length + m.length := by rw [h.len]; omega
  have hlb : n.b < ns.length + (needN ns.length m many n.a).1.length := by rw [needN_len, h.len]; omega
  have hA : n.a < (ns ++ ds).length := by rw [List.length_append]; omega
  have hB : n.b < (ns ++ ds).length := by rw [List.length_append]; omega
  have pw := pow_two a1 a5 a6
  have wi : wgt V ds i + 1 = 2 ^ (V - n.v) := by
    unfold wgt
    rw [hn]
    have := pow_pos' (V - n.v)
    simp only [Option.map_some, Option.getD_some]
    omega
  have w1 := needN_wt (u := wgt V ds) (many := many) (i := i) (c := 2 ^ (V - ask (ns ++ ds) n.a) - 1) hla (by omega) (fun hc => by have := wgt_le hw hc hA a5; omega)
  have w2 := needN_wt (u := wgt V ds) (many := (needN ns.length m many n.a).2) (i := i) (c := 2 ^ (V - ask (ns ++ ds) n.b) - 1) hlb (by omega) (fun hc => by have := wgt_le hw hc hB a6; omega)
  have p1 := pow_pos' (V - ask (ns ++ ds) n.a)
  have p2 := pow_pos' (V - ask (ns ++ ds) n.b)
  refine ⟨by rw [needN_len, needN_len]; exact h.len, fun hf => needN_mono hlb (needN_mono hla (h.root hf)), fun j n' hj hn2 hb => ?_, ?_, ?_, ?_⟩
  · by_cases e : j = i
    · subst e
      rw [hn] at hn2
      cases hn2
      exact ⟨fun hc => needN_mono hlb (needN_has hla hc), fun hc => needN_has hlb hc⟩
    · -- a mark behind i was there
      have back : ∀ {m : List Bool} {many c : Nat}, c < ns.length + m.length → c < ns.length + i → (needN ns.length m many c).1.getD j false = true → m.getD j false = true := by
        intro m many c hc hci hg
        rcases needN_cases (many := many) hc with ⟨e1, -⟩ | ⟨h0, e1, -⟩
        · rw [e1] at hg; exact hg
        · rw [e1] at hg
          simp only at hg
          rw [List.getD_eq_getElem?_getD, List.getElem?_set_ne (by omega), ← List.getD_eq_getElem?_getD] at hg
          exact hg
      have hb0 := back hla (by omega) (back hlb (by omega) hb)
      obtain ⟨c1, c2⟩ := h.clo j n' (by omega) hn2 hb0
      exact ⟨fun hc => needN_mono hlb (needN_mono hla (c1 hc)), fun hc => needN_mono hlb (needN_mono hla (c2 hc))⟩
  · have hwt := h.wt
    unfold wsum at hwt
    rw [hm] at hwt
    simp only [if_true] at hwt
    omega
  · have e1 := needN_many hla h.many
    have e2 := needN_many (first := ns.length) (m := (needN ns.length m many n.a).1) (many := (needN ns.length m many n.a).2) (n := n.b) hlb (by rw [needN_len]; exact e1)
    rw [needN_len, needN_len]
    rw [needN_len] at e2
    exact e2
  · exact (h.led.need hla (.inr ⟨i, n, hn, hm, .inl rfl⟩)).need hlb (.inr ⟨i, n, hn, needN_mono hla hm, .inr rfl⟩)
theorem NInv.start (hw : WF V (ns ++ ds)) {f : Nat} (hf : f < (ns ++ ds).length) : NInv V ns.length f ds (2 ^ (V - ask (ns ++ ds) f)) (needN ns.length (List.replicate ds.length false) 0 f).1 (needN ns.length (List.replicate ds.length false) 0 f).2 ds.length := by
  have hl : f < ns.length + (List.replicate ds.length false).length := by simp at hf ⊢; omega
  have w1 := needN_wt (u := wgt V ds) (many := 0) (i := ds.length) (c := 2 ^ (V - ask (ns ++ ds) f) - 1) hl (by simp at hf; omega) (fun hc => by
    obtain ⟨n, hn⟩ := get_lt hf
    have e := ask_at hn
    rw [List.getElem?_append_right hc] at hn
    unfold wgt
    rw [hn, e]
    exact Nat.le_refl _)
  have p1 := pow_pos' (V - ask (ns ++ ds) f)
  refine ⟨by rw [needN_len]; simp, fun hc => needN_has hl hc, fun j n hj hn => ?_, ?_, ?_, ?_⟩
  · have := (List.getElem?_eq_some_iff.1 hn).1; omega
  · rw [wsum_rep, wsum_rep] at w1; omega
  · have := needN_many (many := 0) hl (by rw [wsum_rep])
    rw [needN_len]
    exact this
  · refine Led.need (fun j hj => ?_) hl (.inl rfl)
    rw [List.getD_eq_getElem?_getD, List.getElem?_replicate] at hj
    split at hj <;> simp at hj
end
end Go.Proofs.Ytailpphafoamfaa
namespace Go.Proofs.Ytailpphafoamfaa
open Go Go.RowKit Go.Maps


def boolC (m : List Bool) : Array Value := (m.map Value.bool).toArray
structure NEnv where
  d : Nat
  b2 : Nat
  b6 : Nat
  b7 : Nat
  bn : Nat
/-- What is marked as needed. -/
structure NeedAt (w0 w : World) (g : SG) (D : DG) (E : NEnv) (m : List Bool) (many : Nat) : Prop where
  gr : w0.grownBy w none
  hd : D.d < w0.heap.size
  c2 : w.heap[E.b2]? = some (.cells #[.pointer (some ⟨D.d, 0, none⟩)] 94 (0, 0))
  c6 : w.heap[E.b6]? = some (.cells #[.slice (some ⟨E.bn, 0, none⟩) m.length m.length] 32 (0, 0))
  c7 : w.heap[E.b7]? = some (.cells #[.int .i64 (many : Int)] 3 (0, 0))
  cn : w.heap[E.bn]? = some (.cells (boolC m) 4 (0, 0))
  ge : w0.heap.size ≤ E.b2 ∧ w0.heap.size ≤ E.b6 ∧ w0.heap.size ≤ E.b7 ∧ w0.heap.size ≤ E.bn
  ne : E.b2 ≠ E.b6 ∧ E.b2 ≠ E.b7 ∧ E.b2 ≠ E.bn ∧ E.b6 ≠ E.b7 ∧ E.b6 ≠ E.bn ∧ E.b7 ≠ E.bn
section
variable {w0 w w' : World} {o : Nat → Nat} {g : SG} {D : DG} {E : NEnv} {m : List Bool} {many : Nat}
theorem cell_of {w : World} {b i : Nat} {cs : Array Value} {t : TypeId} {fr : Nat × Nat} (h : w.heap[b]? = some (.cells cs t fr)) : w.cell? ⟨b, i, none⟩ = cs[i]? := by unfold World.cell?; rw [h]; rfl
theorem frz_of {w : World} {b i : Nat} {cs : Array Value} {t : TypeId} (h : w.heap[b]? = some (.cells cs t (0, 0))) : w.frozen? ⟨b, i, none⟩ = false := by unfold World.frozen?; rw [h]; simp
theorem grown_out {w w' : World} {b : Nat} (hg : w0.grownBy w none) (h : w.grownBy w' (some b)) (hb : w0.heap.size ≤ b) : w0.grownBy w' none :=
  ⟨h.os.trans hg.os, h.tape.trans hg.tape, h.output.trans hg.output, Nat.le_trans hg.size h.size, fun k hk _ => (h.block k (Nat.lt_of_lt_of_le hk hg.size) (by simp; omega)).trans (grown_far hg hk)⟩
theorem boolC_at {j : Nat} (h : j < m.length) : (boolC m)[j]? = some (.bool (m.getD j true)) := by
  simp [boolC, List.getElem?_eq_getElem h]
theorem NeedAt.drew (h : NeedAt w0 w g D E m many) : NeedAt w0 (World.drew w) g D E m many := ⟨grown_trans h.gr (grown_drewN w 1), h.hd, h.c2, h.c6, h.c7, h.cn, h.ge, h.ne⟩
/-- One more is marked. -/
theorem NeedAt.mark (h : NeedAt w0 w g D E m many) (j : Nat) : NeedAt w0 ((w.setCell ⟨E.bn, j, none⟩ (.bool true)).setCell ⟨E.b7, 0, none⟩ (.int .i64 ((many + 1 : Nat) : Int))) g D E (m.set j true) (many + 1) := by
  have g1 := grown_set w ⟨E.bn, j, none⟩ (.bool true)
  have g2 := grown_set (w.setCell ⟨E.bn, j, none⟩ (.bool true)) ⟨E.b7, 0, none⟩ (.int .i64 ((many + 1 : Nat) : Int))
  have lt : ∀ {b : Nat} {x : Obj}, w.heap[b]? = some x → b < w.heap.size := fun h => (Array.getElem?_eq_some_iff.1 h).1
  obtain ⟨n1, n2, n3, n4, n5, n6⟩ := h.ne
  have mv : ∀ {b : Nat} {x : Obj}, w.heap[b]? = some x → b ≠ E.bn → b ≠ E.b7 → ((w.setCell ⟨E.bn, j, none⟩ (.bool true)).setCell ⟨E.b7, 0, none⟩ (.int .i64 ((many + 1 : Nat) : Int))).heap[b]? = some x := fun {b x} hb h1 h2 =>
    (g2.block b (Nat.lt_of_lt_of_le (lt hb) g1.size) (by simpa using h2)).trans ((g1.block b (lt hb) (by simpa using h1)).trans hb)
  refine ⟨grown_out (grown_out h.gr g1 h.ge.2.2.2) g2 h.ge.2.2.1, h.hd, mv h.c2 n3 n2, by rw [List.length_set]; exact mv h.c6 n5 n4, ?_, ?_, h.ge, h.ne⟩
  · exact heap_set _ ((g1.block E.b7 (lt h.c7) (by simpa using n6)).trans h.c7)
  · rw [Below.heap_setCell _ _ _ _ (by simpa using n6.symm), heap_set _ h.cn]
    simp [boolC, List.map_set]
def NeedPost (w0 : World) (g : SG) (D : DG) (E : NEnv) (m : List Bool) (many n : Nat) (e : Ending) (w' : World) : Prop := e = .returned (.tuple #[]) ∧ NeedAt w0 w' g D E (needN g.ns.length m many n).1 (needN g.ns.length m many n).2
set_option maxHeartbeats 8000000 in
set_option maxRecDepth 100000 in
theorem need_low (h : NeedAt w0 w g D E m many) (hd : DraftAt w0 o g D) {n : Nat} (hm : m.length = D.ds.length) (hn : n < g.ns.length + D.ds.length) (hl : g.ns.length + D.ds.length ≤ 33554432) (hmany : many ≤ 33554432) (hlo : n < g.ns.length) : Calls Try.prog 73 #[.int .i32 (n : Int), .pointer (some ⟨E.b2, 0, none⟩), .pointer (some ⟨E.b6, 0, none⟩), .pointer (some ⟨E.b7, 0, none⟩)] w (NeedPost w0 g D E m many n) := by
  have c2 : w.cell? ⟨E.b2, 0, none⟩ = some (.pointer (some ⟨D.d, 0, none⟩)) := (cell_of h.c2).trans rfl
  have d1 : w.cell? ⟨D.d, 1, none⟩ = some (.int .i32 (g.ns.length : Int)) := (World.cell?_of_block (a := ⟨D.d, 1, none⟩) (grown_far h.gr h.hd)).trans hd.c1
  have HN := Lib.hid h
  have q1 : ¬ ((n : Nat) : Int) ≥ (g.ns.length : Int) := by omega
  have q2 : (n : Int) < (g.ns.length : Int) := by omega
  have e0 : needN g.ns.length m many n = (m, many) := if_neg (by omega)
  have HE := Lib.hid (show NeedPost w0 g D E m many n (.returned (.tuple #[])) (World.drew w) from ⟨rfl, by rw [e0]; exact h.drew⟩)
  clear h hd hm hn hl hmany hlo e0
  go_enter Try.func73, Try.ntmps73
  go_wp2
  refine wp_region_T (S := fun w' => ∀ k ∈ [E.b2, D.d], w'.heap[k]? = w.heap[k]?) (tail := fun _ => false) (by kernel_rfl) ?_
  change wpAnyT _ _ _ _ _ _ _ _ _ (World.drew w)
  have BD := Lib.hid (show ∀ k ∈ [E.b2, D.d], (World.drew w).heap[k]? = w.heap[k]? from fun _ _ => rfl)
  refine tk 0 5 (.int .i32 ((n : Nat) : Int)) BD.out ?y0 ?_
  case y0 =>
    intro w' hw'
    go_simp
  try simp only [Act.put, List.setIfInBounds_toArray, List.set_cons_zero, List.set_cons_succ]
  refine tk 1 6 (.pointer (some ⟨D.d, 0, none⟩)) BD.out ?y1 ?_
  case y1 =>
    intro w' hw'
    have y0 := (World.cell?_of_block (a := ⟨E.b2, 0, none⟩) (hw' _ (by simp))).trans c2
    go_simp
  try simp only [Act.put, List.setIfInBounds_toArray, List.set_cons_zero, List.set_cons_succ]
  refine tk 2 7 (.pointer (some ⟨D.d, 0, none⟩)) BD.out ?y2 ?_
  case y2 =>
    intro w' hw'
    go_simp
  try simp only [Act.put, List.setIfInBounds_toArray, List.set_cons_zero, List.set_cons_succ]
  refine tk 3 8 (.pointer (some ⟨D.d, 1, none⟩)) BD.out ?y3 ?_
  case y3 =>
    intro w' hw'
    go_simp
  try simp only [Act.put, List.setIfInBounds_toArray, List.set_cons_zero, List.set_cons_succ]
  refine tk 4 9 (.int .i32 (g.ns.length : Int)) BD.out ?y4 ?_
  case y4 =>
    intro w' hw'
    have y0 := (World.cell?_of_block (a := ⟨D.d, 1, none⟩) (hw' _ (by simp))).trans d1
    go_simp
  try simp only [Act.put, List.setIfInBounds_toArray, List.set_cons_zero, List.set_cons_succ]
  refine tk 5 10 (.bool false) BD.out ?y5 ?_
  case y5 =>
    intro w' hw'
    go_simp
    omega
  try simp only [Act.put, List.setIfInBounds_toArray, List.set_cons_zero, List.set_cons_succ]
  refine tk 6 11 (.bool false) BD.out ?y6 ?_
  case y6 =>
    intro w' hw'
    go_simp
  try simp only [Act.put, List.setIfInBounds_toArray, List.set_cons_zero, List.set_cons_succ]
  refine sk 7 12 BD.out ?_
  try simp only [Act.put, List.setIfInBounds_toArray, List.set_cons_zero, List.set_cons_succ]
  refine sk 8 13 BD.out ?_
  try simp only [Act.put, List.setIfInBounds_toArray, List.set_cons_zero, List.set_cons_succ]
  refine sk 9 14 BD.out ?_
  try simp only [Act.put, List.setIfInBounds_toArray, List.set_cons_zero, List.set_cons_succ]
  refine sk 10 15 BD.out ?_
  try simp only [Act.put, List.setIfInBounds_toArray, List.set_cons_zero, List.set_cons_succ]
  refine sk 11 16 BD.out ?_
  try simp only [Act.put, List.setIfInBounds_toArray, List.set_cons_zero, List.set_cons_succ]
  refine sk 12 17 BD.out ?_
  try simp only [Act.put, List.setIfInBounds_toArray, List.set_cons_zero, List.set_cons_succ]
  refine sk 13 18 BD.out ?_
  try simp only [Act.put, List.setIfInBounds_toArray, List.set_cons_zero, List.set_cons_succ]
  refine sk 14 19 BD.out ?_
  try simp only [Act.put, List.setIfInBounds_toArray, List.set_cons_zero, List.set_cons_succ]
  refine sk 15 20 BD.out ?_
  try simp only [Act.put, List.setIfInBounds_toArray, List.set_cons_zero, List.set_cons_succ]
  refine sk 16 21 BD.out ?_
  try simp only [Act.put, List.setIfInBounds_toArray, List.set_cons_zero, List.set_cons_succ]
  refine tk 17 22 (.bool false) BD.out ?y17 ?_
  case y17 =>
    intro w' hw'
    go_simp
  try simp only [Act.put, List.setIfInBounds_toArray, List.set_cons_zero, List.set_cons_succ]
  refine dn ?_
  go_wp2
  go_end0
  exact HE.out
set_option maxHeartbeats 8000000 in
set_option maxRecDepth 100000 in
theorem need_had (h : NeedAt w0 w g D E m many) (hd : DraftAt w0 o g D) {n : Nat} (hm : m.length = D.ds.length) (hn : n < g.ns.length + D.ds.length) (hl : g.ns.length + D.ds.length ≤ 33554432) (hmany : many ≤ 33554432) (hhi : g.ns.length ≤ n) (hmk : m.getD (n - g.ns.length) true = true) : Calls Try.prog 73 #[.int .i32 (n : Int), .pointer (some ⟨E.b2, 0, none⟩), .pointer (some ⟨E.b6, 0, none⟩), .pointer (some ⟨E.b7, 0, none⟩)] w (NeedPost w0 g D E m many n) := by
  have c2 : w.cell? ⟨E.b2, 0, none⟩ = some (.pointer (some ⟨D.d, 0, none⟩)) := (cell_of h.c2).trans rfl
  have d1 : w.cell? ⟨D.d, 1, none⟩ = some (.int .i32 (g.ns.length : Int)) := (World.cell?_of_block (a := ⟨D.d, 1, none⟩) (grown_far h.gr h.hd)).trans hd.c1
  have HN := Lib.hid h
  obtain ⟨j, rfl⟩ : ∃ j, n = g.ns.length + j := ⟨n - g.ns.length, by omega⟩
  have hj : j < m.length := by omega
  have c6 : w.cell? ⟨E.b6, 0, none⟩ = some (.slice (some ⟨E.bn, 0, none⟩) m.length m.length) := (cell_of h.c6).trans rfl
  have cj : w.cell? ⟨E.bn, j, none⟩ = some (.bool true) := by rw [cell_of h.cn, boolC_at hj]; have hmk' := hmk; rw [Nat.add_sub_cancel_left] at hmk'; rw [hmk']
  have q1 : ((g.ns.length + j : Nat) : Int) ≥ (g.ns.length : Int) := by omega
  have q2 : ¬ ((g.ns.length + j : Nat) : Int) < (g.ns.length : Int) := by omega
  have q3 : (j : Int) < (m.length : Int) := by omega
  have QW := Lib.hid (show IntKind.i32.wrap (((g.ns.length + j : Nat) : Int) - (g.ns.length : Int)) = (j : Int) from (IntWalk.i32_in _ (by omega)).trans (by omega))
  have hsub : g.ns.length + j - g.ns.length = j := by omega
  have e0 : needN g.ns.length m many (g.ns.length + j) = (m, many) := if_neg (by rw [hmk]; simp)
  have HE := Lib.hid (show NeedPost w0 g D E m many (g.ns.length + j) (.returned (.tuple #[])) (World.drew w) from ⟨rfl, by rw [e0]; exact h.drew⟩)
  clear h hd hm hn hl hmany hmk hhi e0 hsub hj
  generalize g.ns.length + j = n at *
  obtain ⟨ml, hml⟩ : ∃ ml, m.length = ml := ⟨_, rfl⟩
  rw [hml] at c6 q3
  clear hml
  go_enter Try.func73, Try.ntmps73
  go_wp2
  refine wp_region_T (S := fun w' => ∀ k ∈ [E.b2, D.d, E.b6, E.bn], w'.heap[k]? = w.heap[k]?) (tail := fun _ => false) (by kernel_rfl) ?_
  change wpAnyT _ _ _ _ _ _ _ _ _ (World.drew w)
  have BD := Lib.hid (show ∀ k ∈ [E.b2, D.d, E.b6, E.bn], (World.drew w).heap[k]? = w.heap[k]? from fun _ _ => rfl)
  refine tk 0 5 (.int .i32 ((n : Nat) : Int)) BD.out ?y0 ?_
  case y0 =>
    intro w' hw'
    go_simp
  try simp only [Act.put, List.setIfInBounds_toArray, List.set_cons_zero, List.set_cons_succ]
  refine tk 1 6 (.pointer (some ⟨D.d, 0, none⟩)) BD.out ?y1 ?_
  case y1 =>
    intro w' hw'
    have y0 := (World.cell?_of_block (a := ⟨E.b2, 0, none⟩) (hw' _ (by simp))).trans c2
    go_simp
  try simp only [Act.put, List.setIfInBounds_toArray, List.set_cons_zero, List.set_cons_succ]
  refine tk 2 7 (.pointer (some ⟨D.d, 0, none⟩)) BD.out ?y2 ?_
  case y2 =>
    intro w' hw'
    go_simp
  try simp only [Act.put, List.setIfInBounds_toArray, List.set_cons_zero, List.set_cons_succ]
  refine tk 3 8 (.pointer (some ⟨D.d, 1, none⟩)) BD.out ?y3 ?_
  case y3 =>
    intro w' hw'
    go_simp
  try simp only [Act.put, List.setIfInBounds_toArray, List.set_cons_zero, List.set_cons_succ]
  refine tk 4 9 (.int .i32 (g.ns.length : Int)) BD.out ?y4 ?_
  case y4 =>
    intro w' hw'
    have y0 := (World.cell?_of_block (a := ⟨D.d, 1, none⟩) (hw' _ (by simp))).trans d1
    go_simp
  try simp only [Act.put, List.setIfInBounds_toArray, List.set_cons_zero, List.set_cons_succ]
  refine tk 5 10 (.bool true) BD.out ?y5 ?_
  case y5 =>
    intro w' hw'
    go_simp
  try simp only [Act.put, List.setIfInBounds_toArray, List.set_cons_zero, List.set_cons_succ]
  refine tk 6 11 (.bool true) BD.out ?y6 ?_
  case y6 =>
    intro w' hw'
    go_simp
  try simp only [Act.put, List.setIfInBounds_toArray, List.set_cons_zero, List.set_cons_succ]
  refine tk 7 12 (.slice (some ⟨E.bn, 0, none⟩) ml ml) BD.out ?y7 ?_
  case y7 =>
    intro w' hw'
    have y0 := (World.cell?_of_block (a := ⟨E.b6, 0, none⟩) (hw' _ (by simp))).trans c6
    go_simp
  try simp only [Act.put, List.setIfInBounds_toArray, List.set_cons_zero, List.set_cons_succ]
  refine tk 8 13 (.int .i32 ((n : Nat) : Int)) BD.out ?y8 ?_
  case y8 =>
    intro w' hw'
    go_simp
  try simp only [Act.put, List.setIfInBounds_toArray, List.set_cons_zero, List.set_cons_succ]
  refine tk 9 14 (.pointer (some ⟨D.d, 0, none⟩)) BD.out ?y9 ?_
  case y9 =>
    intro w' hw'
    have y0 := (World.cell?_of_block (a := ⟨E.b2, 0, none⟩) (hw' _ (by simp))).trans c2
    go_simp
  try simp only [Act.put, List.setIfInBounds_toArray, List.set_cons_zero, List.set_cons_succ]
  refine tk 10 15 (.pointer (some ⟨D.d, 0, none⟩)) BD.out ?y10 ?_
  case y10 =>
    intro w' hw'
    go_simp
  try simp only [Act.put, List.setIfInBounds_toArray, List.set_cons_zero, List.set_cons_succ]
  refine tk 11 16 (.pointer (some ⟨D.d, 1, none⟩)) BD.out ?y11 ?_
  case y11 =>
    intro w' hw'
    go_simp
  try simp only [Act.put, List.setIfInBounds_toArray, List.set_cons_zero, List.set_cons_succ]
  refine tk 12 17 (.int .i32 (g.ns.length : Int)) BD.out ?y12 ?_
  case y12 =>
    intro w' hw'
    have y0 := (World.cell?_of_block (a := ⟨D.d, 1, none⟩) (hw' _ (by simp))).trans d1
    go_simp
  try simp only [Act.put, List.setIfInBounds_toArray, List.set_cons_zero, List.set_cons_succ]
  refine tk 13 18 (.int .i32 (j : Int)) BD.out ?y13 ?_
  case y13 =>
    intro w' hw'
    go_simp
    exact QW.out
  try simp only [Act.put, List.setIfInBounds_toArray, List.set_cons_zero, List.set_cons_succ]
  refine tk 14 19 (.pointer (some ⟨E.bn, j, none⟩)) BD.out ?y14 ?_
  case y14 =>
    intro w' hw'
    go_simp
  try simp only [Act.put, List.setIfInBounds_toArray, List.set_cons_zero, List.set_cons_succ]
  refine tk 15 20 (.bool true) BD.out ?y15 ?_
  case y15 =>
    intro w' hw'
    have y0 := (World.cell?_of_block (a := ⟨E.bn, j, none⟩) (hw' _ (by simp))).trans cj
    go_simp
  try simp only [Act.put, List.setIfInBounds_toArray, List.set_cons_zero, List.set_cons_succ]
  refine tk 16 21 (.bool false) BD.out ?y16 ?_
  case y16 =>
    intro w' hw'
    have hnot : ∀ (x : Bool) (w : World), (Op.unary .not (.bool x)).run Try.prog w = .ok (.bool (!x)) w := fun _ _ => rfl
    go_simp
  try simp only [Act.put, List.setIfInBounds_toArray, List.set_cons_zero, List.set_cons_succ]
  refine tk 17 22 (.bool false) BD.out ?y17 ?_
  case y17 =>
    intro w' hw'
    go_simp
  try simp only [Act.put, List.setIfInBounds_toArray, List.set_cons_zero, List.set_cons_succ]
  refine dn ?_
  go_wp2
  go_end0
  exact HE.out
set_option maxHeartbeats 8000000 in
set_option maxRecDepth 100000 in
theorem need_new (h : NeedAt w0 w g D E m many) (hd : DraftAt w0 o g D) {n : Nat} (hm : m.length = D.ds.length) (hn : n < g.ns.length + D.ds.length) (hl : g.ns.length + D.ds.length ≤ 33554432) (hmany : many ≤ 33554432) (hhi : g.ns.length ≤ n) (hmk : m.getD (n - g.ns.length) true = false) : Calls Try.prog 73 #[.int .i32 (n : Int), .pointer (some ⟨E.b2, 0, none⟩), .pointer (some ⟨E.b6, 0, none⟩), .pointer (some ⟨E.b7, 0, none⟩)] w (NeedPost w0 g D E m many n) := by
  have c2 : w.cell? ⟨E.b2, 0, none⟩ = some (.pointer (some ⟨D.d, 0, none⟩)) := (cell_of h.c2).trans rfl
  have d1 : w.cell? ⟨D.d, 1, none⟩ = some (.int .i32 (g.ns.length : Int)) := (World.cell?_of_block (a := ⟨D.d, 1, none⟩) (grown_far h.gr h.hd)).trans hd.c1
  have HN := Lib.hid h
  obtain ⟨j, rfl⟩ : ∃ j, n = g.ns.length + j := ⟨n - g.ns.length, by omega⟩
  have hj : j < m.length := by omega
  have c6 : w.cell? ⟨E.b6, 0, none⟩ = some (.slice (some ⟨E.bn, 0, none⟩) m.length m.length) := (cell_of h.c6).trans rfl
  have cj : w.cell? ⟨E.bn, j, none⟩ = some (.bool false) := by rw [cell_of h.cn, boolC_at hj]; have hmk' := hmk; rw [Nat.add_sub_cancel_left] at hmk'; rw [hmk']
  have q1 : ((g.ns.length + j : Nat) : Int) ≥ (g.ns.length : Int) := by omega
  have q2 : ¬ ((g.ns.length + j : Nat) : Int) < (g.ns.length : Int) := by omega
  have q3 : (j : Int) < (m.length : Int) := by omega
  have QW := Lib.hid (show IntKind.i32.wrap (((g.ns.length + j : Nat) : Int) - (g.ns.length : Int)) = (j : Int) from (IntWalk.i32_in _ (by omega)).trans (by omega))
  have hsub : g.ns.length + j - g.ns.length = j := by omega
  have e0 : needN g.ns.length m many (g.ns.length + j) = (m.set j true, many + 1) := by unfold needN; rw [if_pos ⟨by omega, hmk⟩, hsub]
  have HE := Lib.hid (show NeedPost w0 g D E m many (g.ns.length + j) (.returned (.tuple #[])) _ from ⟨rfl, by rw [e0]; exact (h.drew.drew).mark j⟩)
  have HW := Lib.hid (show wrap64 ((many : Int) + 1) = ((many + 1 : Nat) : Int) by unfold wrap64; omega)
  obtain ⟨m1, hm1⟩ : ∃ m1, many + 1 = m1 := ⟨_, rfl⟩
  rw [hm1] at HW HE
  clear hm1
  have c7 : w.cell? ⟨E.b7, 0, none⟩ = some (.int .i64 (many : Int)) := (cell_of h.c7).trans rfl
  have f7 : w.frozen? ⟨E.b7, 0, none⟩ = false := frz_of h.c7
  have fn : w.frozen? ⟨E.bn, j, none⟩ = false := frz_of h.cn
  have HNE := Lib.hid h.ne.2.2.2.2.2
  clear h hd hm hn hl hmany hmk hhi e0 hsub hj
  generalize g.ns.length + j = n at *
  obtain ⟨ml, hml⟩ : ∃ ml, m.length = ml := ⟨_, rfl⟩
  rw [hml] at c6 q3
  clear hml
  go_enter Try.func73, Try.ntmps73
  go_wp2
  refine wp_region_T (S := fun w' => ∀ k ∈ [E.b2, D.d, E.b6, E.bn], w'.heap[k]? = w.heap[k]?) (tail := fun _ => false) (by kernel_rfl) ?_
  change wpAnyT _ _ _ _ _ _ _ _ _ (World.drew w)
  have BD := Lib.hid (show ∀ k ∈ [E.b2, D.d, E.b6, E.bn], (World.drew w).heap[k]? = w.heap[k]? from fun _ _ => rfl)
  refine tk 0 5 (.int .i32 ((n : Nat) : Int)) BD.out ?y0 ?_
  case y0 =>
    intro w' hw'
    go_simp
  try simp only [Act.put, List.setIfInBounds_toArray, List.set_cons_zero, List.set_cons_succ]
  refine tk 1 6 (.pointer (some ⟨D.d, 0, none⟩)) BD.out ?y1 ?_
  case y1 =>
    intro w' hw'
    have y0 := (World.cell?_of_block (a := ⟨E.b2, 0, none⟩) (hw' _ (by simp))).trans c2
    go_simp
  try simp only [Act.put, List.setIfInBounds_toArray, List.set_cons_zero, List.set_cons_succ]
  refine tk 2 7 (.pointer (some ⟨D.d, 0, none⟩)) BD.out ?y2 ?_
  case y2 =>
    intro w' hw'
    go_simp
  try simp only [Act.put, List.setIfInBounds_toArray, List.set_cons_zero, List.set_cons_succ]
  refine tk 3 8 (.pointer (some ⟨D.d, 1, none⟩)) BD.out ?y3 ?_
  case y3 =>
    intro w' hw'
    go_simp
  try simp only [Act.put, List.setIfInBounds_toArray, List.set_cons_zero, List.set_cons_succ]
  refine tk 4 9 (.int .i32 (g.ns.length : Int)) BD.out ?y4 ?_
  case y4 =>
    intro w' hw'
    have y0 := (World.cell?_of_block (a := ⟨D.d, 1, none⟩) (hw' _ (by simp))).trans d1
    go_simp
  try simp only [Act.put, List.setIfInBounds_toArray, List.set_cons_zero, List.set_cons_succ]
  refine tk 5 10 (.bool true) BD.out ?y5 ?_
  case y5 =>
    intro w' hw'
    go_simp
  try simp only [Act.put, List.setIfInBounds_toArray, List.set_cons_zero, List.set_cons_succ]
  refine tk 6 11 (.bool true) BD.out ?y6 ?_
  case y6 =>
    intro w' hw'
    go_simp
  try simp only [Act.put, List.setIfInBounds_toArray, List.set_cons_zero, List.set_cons_succ]
  refine tk 7 12 (.slice (some ⟨E.bn, 0, none⟩) ml ml) BD.out ?y7 ?_
  case y7 =>
    intro w' hw'
    have y0 := (World.cell?_of_block (a := ⟨E.b6, 0, none⟩) (hw' _ (by simp))).trans c6
    go_simp
  try simp only [Act.put, List.setIfInBounds_toArray, List.set_cons_zero, List.set_cons_succ]
  refine tk 8 13 (.int .i32 ((n : Nat) : Int)) BD.out ?y8 ?_
  case y8 =>
    intro w' hw'
    go_simp
  try simp only [Act.put, List.setIfInBounds_toArray, List.set_cons_zero, List.set_cons_succ]
  refine tk 9 14 (.pointer (some ⟨D.d, 0, none⟩)) BD.out ?y9 ?_
  case y9 =>
    intro w' hw'
    have y0 := (World.cell?_of_block (a := ⟨E.b2, 0, none⟩) (hw' _ (by simp))).trans c2
    go_simp
  try simp only [Act.put, List.setIfInBounds_toArray, List.set_cons_zero, List.set_cons_succ]
  refine tk 10 15 (.pointer (some ⟨D.d, 0, none⟩)) BD.out ?y10 ?_
  case y10 =>
    intro w' hw'
    go_simp
  try simp only [Act.put, List.setIfInBounds_toArray, List.set_cons_zero, List.set_cons_succ]
  refine tk 11 16 (.pointer (some ⟨D.d, 1, none⟩)) BD.out ?y11 ?_
  case y11 =>
    intro w' hw'
    go_simp
  try simp only [Act.put, List.setIfInBounds_toArray, List.set_cons_zero, List.set_cons_succ]
  refine tk 12 17 (.int .i32 (g.ns.length : Int)) BD.out ?y12 ?_
  case y12 =>
    intro w' hw'
    have y0 := (World.cell?_of_block (a := ⟨D.d, 1, none⟩) (hw' _ (by simp))).trans d1
    go_simp
  try simp only [Act.put, List.setIfInBounds_toArray, List.set_cons_zero, List.set_cons_succ]
  refine tk 13 18 (.int .i32 (j : Int)) BD.out ?y13 ?_
  case y13 =>
    intro w' hw'
    go_simp
    exact QW.out
  try simp only [Act.put, List.setIfInBounds_toArray, List.set_cons_zero, List.set_cons_succ]
  refine tk 14 19 (.pointer (some ⟨E.bn, j, none⟩)) BD.out ?y14 ?_
  case y14 =>
    intro w' hw'
    go_simp
  try simp only [Act.put, List.setIfInBounds_toArray, List.set_cons_zero, List.set_cons_succ]
  refine tk 15 20 (.bool false) BD.out ?y15 ?_
  case y15 =>
    intro w' hw'
    have y0 := (World.cell?_of_block (a := ⟨E.bn, j, none⟩) (hw' _ (by simp))).trans cj
    go_simp
  try simp only [Act.put, List.setIfInBounds_toArray, List.set_cons_zero, List.set_cons_succ]
  refine tk 16 21 (.bool true) BD.out ?y16 ?_
  case y16 =>
    intro w' hw'
    have hnot : ∀ (x : Bool) (w : World), (Op.unary .not (.bool x)).run Try.prog w = .ok (.bool (!x)) w := fun _ _ => rfl
    go_simp
  try simp only [Act.put, List.setIfInBounds_toArray, List.set_cons_zero, List.set_cons_succ]
  refine tk 17 22 (.bool true) BD.out ?y17 ?_
  case y17 =>
    intro w' hw'
    go_simp
  try simp only [Act.put, List.setIfInBounds_toArray, List.set_cons_zero, List.set_cons_succ]
  refine dn ?_
  clear BD
  obtain ⟨wa, hwa⟩ : ∃ wa, World.drew w = wa := ⟨_, rfl⟩
  replace c2 := (show (World.drew w).cell? _ = _ from c2)
  replace d1 := (show (World.drew w).cell? _ = _ from d1)
  replace c6 := (show (World.drew w).cell? _ = _ from c6)
  replace c7 := (show (World.drew w).cell? _ = _ from c7)
  replace cj := (show (World.drew w).cell? _ = _ from cj)
  replace f7 := (show (World.drew w).frozen? _ = _ from f7)
  replace fn := (show (World.drew w).frozen? _ = _ from fn)
  rw [hwa] at HE c2 d1 c6 c7 cj f7 fn ⊢
  clear hwa
  go_wp2
  refine wp_region_T (S := fun w' => ∀ k ∈ [E.b2, D.d, E.b6, E.bn], w'.heap[k]? = wa.heap[k]?) (tail := fun j => decide (8 ≤ j)) (by kernel_rfl) ?_
  change wpAnyT _ _ _ _ _ _ _ _ _ (World.drew wa)
  have BD := Lib.hid (show ∀ k ∈ [E.b2, D.d, E.b6, E.bn], (World.drew wa).heap[k]? = wa.heap[k]? from fun _ _ => rfl)
  refine tk 0 23 (.slice (some ⟨E.bn, 0, none⟩) ml ml) BD.out ?y0 ?_
  case y0 =>
    intro w' hw'
    have y0 := (World.cell?_of_block (a := ⟨E.b6, 0, none⟩) (hw' _ (by simp))).trans c6
    go_simp
  try simp only [Act.put, List.setIfInBounds_toArray, List.set_cons_zero, List.set_cons_succ]
  refine tk 1 24 (.int .i32 ((n : Nat) : Int)) BD.out ?y1 ?_
  case y1 =>
    intro w' hw'
    go_simp
  try simp only [Act.put, List.setIfInBounds_toArray, List.set_cons_zero, List.set_cons_succ]
  refine tk 2 25 (.pointer (some ⟨D.d, 0, none⟩)) BD.out ?y2 ?_
  case y2 =>
    intro w' hw'
    have y0 := (World.cell?_of_block (a := ⟨E.b2, 0, none⟩) (hw' _ (by simp))).trans c2
    go_simp
  try simp only [Act.put, List.setIfInBounds_toArray, List.set_cons_zero, List.set_cons_succ]
  refine tk 3 26 (.pointer (some ⟨D.d, 0, none⟩)) BD.out ?y3 ?_
  case y3 =>
    intro w' hw'
    go_simp
  try simp only [Act.put, List.setIfInBounds_toArray, List.set_cons_zero, List.set_cons_succ]
  refine tk 4 27 (.pointer (some ⟨D.d, 1, none⟩)) BD.out ?y4 ?_
  case y4 =>
    intro w' hw'
    go_simp
  try simp only [Act.put, List.setIfInBounds_toArray, List.set_cons_zero, List.set_cons_succ]
  refine tk 5 28 (.int .i32 (g.ns.length : Int)) BD.out ?y5 ?_
  case y5 =>
    intro w' hw'
    have y0 := (World.cell?_of_block (a := ⟨D.d, 1, none⟩) (hw' _ (by simp))).trans d1
    go_simp
  try simp only [Act.put, List.setIfInBounds_toArray, List.set_cons_zero, List.set_cons_succ]
  refine tk 6 29 (.int .i32 (j : Int)) BD.out ?y6 ?_
  case y6 =>
    intro w' hw'
    go_simp
    exact QW.out
  try simp only [Act.put, List.setIfInBounds_toArray, List.set_cons_zero, List.set_cons_succ]
  refine tk 7 30 (.pointer (some ⟨E.bn, j, none⟩)) BD.out ?y7 ?_
  case y7 =>
    intro w' hw'
    go_simp
  try simp only [Act.put, List.setIfInBounds_toArray, List.set_cons_zero, List.set_cons_succ]
  have c7x : (World.drew wa).cell? ⟨E.b7, 0, none⟩ = some (.int .i64 (many : Int)) := c7
  have f7x : (World.drew wa).frozen? ⟨E.b7, 0, none⟩ = false := f7
  have cjx : (World.drew wa).cell? ⟨E.bn, j, none⟩ = some (.bool false) := cj
  have fnx : (World.drew wa).frozen? ⟨E.bn, j, none⟩ = false := fn
  clear c7 f7 cj fn
  generalize World.drew wa = wb at *
  refine on 8 (fun K hK => ?_)
  go_simp
  refine hK.out _ _ (fun h => absurd h (by decide)) ?_
  clear hK K
  try simp only [Act.put, List.setIfInBounds_toArray, List.set_cons_zero, List.set_cons_succ]
  refine dn ?_
  have c7' : (wb.setCell ⟨E.bn, j, none⟩ (.bool true)).cell? ⟨E.b7, 0, none⟩ = some (.int .i64 (many : Int)) := (World.cell?_setCell_other _ _ _ _ (fun e => HNE.out.symm (congrArg Addr.block e))).trans c7x
  have qw := HW.out
  go_wp2
  go_end0
  exact HE.out
theorem need_any (h : NeedAt w0 w g D E m many) (hd : DraftAt w0 o g D) {n : Nat} (hm : m.length = D.ds.length) (hn : n < g.ns.length + D.ds.length) (hl : g.ns.length + D.ds.length ≤ 33554432) (hmany : many ≤ 33554432) : Calls Try.prog 73 #[.int .i32 (n : Int), .pointer (some ⟨E.b2, 0, none⟩), .pointer (some ⟨E.b6, 0, none⟩), .pointer (some ⟨E.b7, 0, none⟩)] w (NeedPost w0 g D E m many n) := by
  by_cases hlo : n < g.ns.length
  · exact need_low h hd hm hn hl hmany hlo
  · cases hmk : m.getD (n - g.ns.length) true with
    | true => exact need_had h hd hm hn hl hmany (by omega) hmk
    | false => exact need_new h hd hm hn hl hmany (by omega) hmk
end

end Go.Proofs.Ytailpphafoamfaa
namespace Go.Proofs.Ytailpphafoamfaa
open Go Go.RowKit Go.Maps


section
variable {w0 w w' : World} {o : Nat → Nat} {g : SG} {D : DG} {E : NEnv} {m : List Bool} {many f k : Nat}
theorem info4 : (Try.prog.info? 4).map (fun i => (i.zero, i.size, i.bytes)) = some (some (.bool false), 1, 1) := by kernel_rfl
theorem mk_bools (n : Nat) (hn : n ≤ 33554432) (w : World) : (Instr.makeSlice 32 (.int .i64 (n : Int)) (.int .i64 (n : Int))).run Try.prog w = .ok (.slice (some ⟨w.heap.size, 0, none⟩) n n) (w.alloc (.cells (boolC (List.replicate n false)) 4)) := by
  obtain ⟨i0, hi, hz0, hz1, hz2⟩ := info_parts info4
  have hr := run_make (P := Try.prog) w 32 4 i0 (.bool false) Try.underlying32 hi hz0 .i64 .i64 n n (by omega) (Int.le_refl _) (by rw [hz2]; omega) (by omega)
  simp only [Int.toNat_natCast] at hr
  rw [hr, hz1]
  have e : madeCells (Value.bool false).cells (n * 1) = boolC (List.replicate n false) := by
    apply Array.toList_inj.1
    rw [Nat.mul_one]
    exact (toList_madeCells_one (.bool false) n).trans (by simp [boolC])
  rw [e]
def needW0 (w : World) (d n : Nat) : World := (((w.alloc (.cells #[.pointer (some ⟨d, 0, none⟩)] 94)).alloc (.cells (boolC (List.replicate n false)) 4)).alloc (.cells #[.slice (some ⟨w.heap.size + 1, 0, none⟩) n n] 32)).alloc (.cells #[.int .i64 0] 3)
theorem needW0_at (hs : DS w o g D) : NeedAt w (needW0 w D.d D.ds.length) g D ⟨D.d, w.heap.size, w.heap.size + 1 + 1, w.heap.size + 1 + 1 + 1, w.heap.size + 1⟩ (List.replicate D.ds.length false) 0 := by
  have s1 : ∀ (w : World) (x : Obj), (w.alloc x).heap = w.heap.push x := fun _ _ => rfl
  have hg : w.grownBy (needW0 w D.d D.ds.length) none := grown_trans (grown_trans (grown_trans (grown_alloc _ _) (grown_alloc _ _)) (grown_alloc _ _)) (grown_alloc _ _)
  refine ⟨hg, hs.dr.ltd, ?_, ?_, ?_, ?_, ⟨by simp, by simp; omega, by simp; omega, by simp⟩, ⟨by simp only [ne_eq]; omega, by simp only [ne_eq]; omega, by simp, by simp, by simp only [ne_eq]; omega, by simp only [ne_eq]; omega⟩⟩
  · unfold needW0
    simp only [s1, Array.size_push, Array.getElem?_push]
    rw [if_neg (by omega), if_neg (by omega), if_neg (by omega), if_pos trivial]
  · unfold needW0
    simp only [s1, Array.size_push, Array.getElem?_push, List.length_replicate]
    rw [if_neg (by omega), if_pos trivial]
  · unfold needW0
    simp only [s1, Array.size_push, Array.getElem?_push]
    rw [if_pos trivial]
    simp
  · unfold needW0
    simp only [s1, Array.size_push, Array.getElem?_push]
    rw [if_neg (by omega), if_neg (by omega), if_pos trivial]
def slotI : Nat → Value
  | 0 => .int .i64 (-1)
  | j + 1 => .int .i64 (j : Int)
structure LoopIn (w wr : World) (g : SG) (D : DG) (E : NEnv) (f k : Nat) (m : List Bool) (many : Nat) : Prop where
  at_ : NeedAt w wr g D E m many
  inv : NInv g.V g.ns.length f D.ds (2 ^ (g.V - ask (lst g D) f)) m many k
  le : k ≤ D.ds.length
theorem LoopIn.cap (h : LoopIn w w' g D E f k m many) (hd : DS w o g D) : many ≤ 16777216 := by
  have := h.inv.many
  have h2 := wsum_le m m.length
  have h3 := h.inv.len
  have h4 := hd.dr.most
  omega
def NeededPost (w : World) (g : SG) (D : DG) (f : Nat) (e : Ending) (w' : World) : Prop :=
  ∃ (bn : Nat) (m : List Bool) (many : Nat), e = .returned (.tuple #[.slice (some ⟨bn, 0, none⟩) m.length m.length, .int .i64 (many : Int)]) ∧ w.grownBy w' none ∧ w'.heap[bn]? = some (.cells (boolC m) 4 (0, 0)) ∧ w.heap.size ≤ bn ∧ NInv g.V g.ns.length f D.ds (2 ^ (g.V - ask (lst g D) f)) m many 0
set_option maxHeartbeats 8000000 in
set_option maxRecDepth 100000 in
theorem needed_any (hs : DS w o g D) {f : Nat} (hf : f < (lst g D).length) : Calls Try.prog 60 #[.pointer (some ⟨D.d, 0, none⟩), .int .i32 (f : Int)] w (NeededPost w g D f) := by
  have hmk := fun w => mk_bools D.ds.length (by have := hs.dr.most; omega) w
  have hmf : ∀ (fn : Fn) (first cap : Array Value) (w : World), (Instr.makeFunc fn first cap).run Try.prog w = .ok (.func fn first cap) w := fun _ _ _ _ => rfl
  have c2 := hs.dr.c2
  obtain ⟨A, c, hv0⟩ : ∃ A c, D.val = .slice A D.ds.length c := by
    obtain ⟨-, h1⟩ := hs.dr.row
    rcases h1 with ⟨h1, h3⟩ | ⟨gx, cap, cur, h1, -⟩
    · exact ⟨none, 0, by rw [h1, h3]⟩
    · exact ⟨_, _, h1⟩
  rw [hv0] at c2
  have ld := hs.dr.ltd
  have HC2 := Lib.hid c2
  have HS := Lib.hid hs
  have HF := Lib.hid hf
  have hmost := hs.dr.most
  have qn : (D.ds.length : Int) ≤ 16777216 := by omega
  clear hs hf hmost
  go_enter Try.func60, Try.ntmps60
  go_wp2_with fail
  change Calls _ _ _ (needW0 w D.d D.ds.length) _
  refine (need_any (needW0_at HS.out) HS.out.dr (by simp) (by have := HF.out; unfold lst at this; simpa using this) (by have := HS.out.len; unfold lst at this; simpa using this) (by decide)).mono ?_
  rintro e w1 ⟨rfl, h1⟩
  have HI := Lib.hid (show LoopIn w w1 g D ⟨D.d, w.heap.size, w.heap.size + 1 + 1, w.heap.size + 1 + 1 + 1, w.heap.size + 1⟩ f D.ds.length _ _ from ⟨h1, NInv.start HS.out.wf HF.out, Nat.le_refl _⟩)
  obtain ⟨B, hB⟩ : ∃ B, w.heap.size = B := ⟨_, rfl⟩
  rw [hB] at HI ⊢
  have HBS := Lib.hid hB
  obtain ⟨b6, hb6⟩ : ∃ b6, B + 1 + 1 = b6 := ⟨_, rfl⟩
  obtain ⟨b7, hb7⟩ : ∃ b7, B + 1 + 1 + 1 = b7 := ⟨_, rfl⟩
  obtain ⟨bn, hbn⟩ : ∃ bn, B + 1 = bn := ⟨_, rfl⟩
  obtain ⟨E, hE⟩ : ∃ E : NEnv, (⟨D.d, B, b6, b7, bn⟩ : NEnv) = E := ⟨_, rfl⟩
  have HEE := Lib.hid (show E.b2 = B ∧ E.b6 = b6 ∧ E.b7 = b7 ∧ E.bn = bn from by rw [← hE]; exact ⟨rfl, rfl, rfl, rfl⟩)
  rw [hb7, hb6, hbn, hE] at HI
  rw [hb7, hb6, hbn]
  obtain ⟨m1, hm1⟩ : ∃ m1, (needN g.ns.length (List.replicate D.ds.length false) 0 f).1 = m1 := ⟨_, rfl⟩
  obtain ⟨k1, hk1⟩ : ∃ k1, (needN g.ns.length (List.replicate D.ds.length false) 0 f).2 = k1 := ⟨_, rfl⟩
  rw [hm1, hk1] at HI
  clear hm1 hk1 h1 hE hb6 hb7 hbn hB c2 ld hmk
  have c2 : w1.cell? ⟨B, 0, none⟩ = some (.pointer (some ⟨D.d, 0, none⟩)) := by
    have := HI.out.at_.c2
    rw [HEE.out.1] at this
    exact (cell_of this).trans rfl
  have d2 : w1.cell? ⟨D.d, 2, none⟩ = some (.slice A D.ds.length c) := (World.cell?_of_block (a := ⟨D.d, 2, none⟩) (grown_far HI.out.at_.gr HI.out.at_.hd)).trans HC2.out
  go_wp2
  have HSV := Lib.hid hv0
  clear hv0 c2 d2
  go_loopw [9] (fun v wr => ∃ (k : Nat) (m : List Bool) (many : Nat), v = .int .i64 ((k : Int) - 1) ∧ Hid (LoopIn w wr g D E f k m many)) (fun v _ => (intOf v + 1).toNat)
  case atStart => exact ⟨D.ds.length, m1, k1, rfl, HI⟩
  case round =>
    obtain ⟨k, m, many, hvk, hI⟩ := hrel
    have HIR := hI
    have lc := HIR.out.at_
    have c2 : wr.cell? ⟨B, 0, none⟩ = some (.pointer (some ⟨D.d, 0, none⟩)) := by
      have := lc.c2
      rw [HEE.out.1] at this
      exact (cell_of this).trans rfl
    have d2 : wr.cell? ⟨D.d, 2, none⟩ = some (.slice A D.ds.length c) := (World.cell?_of_block (a := ⟨D.d, 2, none⟩) (grown_far lc.gr lc.hd)).trans HC2.out
    have c6 : wr.cell? ⟨b6, 0, none⟩ = some (.slice (some ⟨bn, 0, none⟩) D.ds.length D.ds.length) := by
      have := lc.c6
      rw [HEE.out.2.1, HEE.out.2.2.2, HIR.out.inv.len] at this
      exact (cell_of this).trans rfl
    have c7 : wr.cell? ⟨b7, 0, none⟩ = some (.int .i64 (many : Int)) := by
      have := lc.c7
      rw [HEE.out.2.2.1] at this
      exact (cell_of this).trans rfl
    clear lc hI
    rcases k with _ | j
    · have e : ((0 : Nat) : Int) - 1 = -1 := rfl
      rw [e] at hvk
      subst hvk
      have HR := Lib.hid (show NeededPost w g D f (.returned (.tuple #[.slice (some ⟨bn, 0, none⟩) D.ds.length D.ds.length, .int .i64 (many : Int)])) (World.drew wr) from ⟨bn, m, many, by rw [HIR.out.inv.len], grown_trans HIR.out.at_.gr (grown_drewN wr 1), by have := HIR.out.at_.cn; rw [HEE.out.2.2.2] at this; exact this, by have := HIR.out.at_.ge.2.2.2; rw [HEE.out.2.2.2] at this; exact this, HIR.out.inv⟩)
      clear c2 d2
      go_wp2
      refine wp_region_T (S := fun w' => ∀ k ∈ [b6, b7], w'.heap[k]? = wr.heap[k]?) (tail := fun _ => false) (by kernel_rfl) ?_
      change wpAnyT _ _ _ _ _ _ _ _ _ (World.drew wr)
      have BD := Lib.hid (show ∀ k ∈ [b6, b7], (World.drew wr).heap[k]? = wr.heap[k]? from fun _ _ => rfl)
      refine tk 0 54 (.slice (some ⟨bn, 0, none⟩) D.ds.length D.ds.length) BD.out ?y0 ?_
      case y0 =>
        intro w' hw'
        have y0 := (World.cell?_of_block (a := ⟨b6, 0, none⟩) (hw' _ (by simp))).trans c6
        go_simp
      try simp only [Act.put, List.setIfInBounds_toArray, List.set_cons_zero, List.set_cons_succ]
      refine tk 1 55 (.int .i64 ((many : Nat) : Int)) BD.out ?y1 ?_
      case y1 =>
        intro w' hw'
        have y0 := (World.cell?_of_block (a := ⟨b7, 0, none⟩) (hw' _ (by simp))).trans c7
        go_simp
      try simp only [Act.put, List.setIfInBounds_toArray, List.set_cons_zero, List.set_cons_succ]
      refine tk 2 4 (.slice (some ⟨bn, 0, none⟩) D.ds.length D.ds.length) BD.out ?y2 ?_
      case y2 =>
        intro w' hw'
        go_simp
      try simp only [Act.put, List.setIfInBounds_toArray, List.set_cons_zero, List.set_cons_succ]
      refine tk 3 5 (.int .i64 ((many : Nat) : Int)) BD.out ?y3 ?_
      case y3 =>
        intro w' hw'
        go_simp
      try simp only [Act.put, List.setIfInBounds_toArray, List.set_cons_zero, List.set_cons_succ]
      refine dn ?_
      go_wp2
      go_ret2
      exact HR.out
    · have e : ((j + 1 : Nat) : Int) - 1 = (j : Int) := by omega
      rw [e] at hvk
      subst hvk
      have hjl : j < D.ds.length := HIR.out.le
      obtain ⟨n, hn⟩ := get_lt hjl
      obtain ⟨gx, cc, hvv, k0, k1', k2, hx⟩ := row_node HS.out.dr.row hn
      have hAc : A = some ⟨gx, 0, none⟩ ∧ c = cc := by
        have := HSV.out.symm.trans hvv
        simp at this
        exact this
      obtain ⟨rfl, rfl⟩ := hAc
      have r1 := (World.cell?_of_block (a := ⟨gx, j * 3 + 1, none⟩) (grown_far HIR.out.at_.gr hx)).trans k1'
      have HK2 := Lib.hid k2
      have HX := Lib.hid hx
      have HNN := Lib.hid hn
      have q1 : (j : Int) < (D.ds.length : Int) := by omega
      have HQ := Lib.hid (show (j : Int) ≤ 16777216 from by omega)
      have cj : ∀ b, m.getD j true = b → wr.cell? ⟨bn, j, none⟩ = some (.bool b) := fun b hb => by
        have := HIR.out.at_.cn
        rw [HEE.out.2.2.2] at this
        rw [cell_of this, boolC_at (by rw [HIR.out.inv.len]; exact hjl), hb]
      have hgd : m.getD j false = m.getD j true := by
        have : j < m.length := by rw [HIR.out.inv.len]; exact hjl
        simp [List.getD_eq_getElem?_getD, this]
      cases hmb : m.getD j true with
      | false =>
        have cjb := cj false hmb
        have HI2 := Lib.hid (show LoopIn w wr g D E f j m many from ⟨HIR.out.at_, HIR.out.inv.skip (hgd.trans hmb), by omega⟩)
        clear hvv k0 k1' k2 hx hn hjl cj hmb hgd r1 d2 c2 c7 e
        have qj := HQ.out
        go_wp2
        go_roundw
        case rel => exact ⟨j, m, many, rfl, HI2⟩
        case measure => simp [intOf]
      | true =>
        have cjb := cj true hmb
        have HMB := Lib.hid (hgd.trans hmb)
        have HLL := Lib.hid (show n.a < g.ns.length + D.ds.length ∧ n.b < g.ns.length + D.ds.length ∧ g.ns.length + D.ds.length ≤ 33554432 from by
          have hn' : (lst g D)[g.ns.length + j]? = some n := by unfold lst; rw [List.getElem?_append_right (by omega), Nat.add_sub_cancel_left]; exact hn
          have h2 := HS.out.st.wf.two
          have h3 := HS.out.wf.nd _ n (by omega) hn'
          have h4 := HS.out.len
          unfold lst at h4
          rw [List.length_append] at h4
          omega)
        have HNA := Lib.hid (need_any (n := n.a) HIR.out.at_ HS.out.dr HIR.out.inv.len HLL.out.1 HLL.out.2.2 (Nat.le_trans (HIR.out.cap HS.out) (by decide)))
        rw [HEE.out.1, HEE.out.2.1, HEE.out.2.2.1] at HNA
        clear hvv k0 k1' k2 hx hn hjl cj hmb hgd c7 e
        go_wp2_with fail
        refine (HNA.out).mono ?_
        rintro ee w5 ⟨rfl, h5⟩
        have H5 := Lib.hid h5
        have c2' : w5.cell? ⟨B, 0, none⟩ = some (.pointer (some ⟨D.d, 0, none⟩)) := by
          have := h5.c2
          rw [HEE.out.1] at this
          exact (cell_of this).trans rfl
        have d2' : w5.cell? ⟨D.d, 2, none⟩ = some (.slice (some ⟨gx, 0, none⟩) D.ds.length c) := (World.cell?_of_block (a := ⟨D.d, 2, none⟩) (grown_far h5.gr h5.hd)).trans HC2.out
        have r2 := (World.cell?_of_block (a := ⟨gx, j * 3 + 2, none⟩) (grown_far h5.gr HX.out)).trans HK2.out
        have HNB := Lib.hid (need_any (n := n.b) h5 HS.out.dr (by rw [needN_len]; exact HIR.out.inv.len) HLL.out.2.1 HLL.out.2.2 (by
          have h1 := needN_many (n := n.a) (first := g.ns.length) (many := many) (m := m) (by rw [HIR.out.inv.len]; exact HLL.out.1) HIR.out.inv.many
          have h2 := wsum_le (needN g.ns.length m many n.a).1 m.length
          have h3 := HIR.out.inv.len
          have h4 := HS.out.dr.most
          omega))
        rw [HEE.out.1, HEE.out.2.1, HEE.out.2.2.1] at HNB
        clear h5 c2 d2 c6 r1 cjb HNA
        go_wp2_with fail
        refine (HNB.out).mono ?_
        rintro ee w6 ⟨rfl, h6⟩
        have HI2 := Lib.hid (show LoopIn w w6 g D E f j _ _ from ⟨h6, HIR.out.inv.step HS.out.st.wf.two HS.out.wf HNN.out HMB.out, by have := HIR.out.le; omega⟩)
        clear h6 c2' d2' r2 HNB
        have qj := HQ.out
        go_wp2
        go_roundw
        case rel => exact ⟨j, _, _, rfl, HI2⟩
        case measure => simp [intOf]
end

end Go.Proofs.Ytailpphafoamfaa
