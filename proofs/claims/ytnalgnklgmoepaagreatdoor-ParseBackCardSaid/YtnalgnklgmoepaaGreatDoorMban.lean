/- The writer in memory; the contract of put. A call of the writer: where it stands, and the kids of a node in memory. The contract of target. The contract of declared. The contract of number. The contract of operand. -/
import Derived.Test.YtnalgnklgmoepaaGreatDoorMbam
set_option linter.all false
namespace Go.Proofs.YtnalgnklgmoepaaGreatDoor
open Go Go.RowKit

/-- The writer lies at block B, and has put these words. -/
structure WAt (lo B : Nat) (acc : List (List UInt8)) (w : World) : Prop where
  row : ∃ v, w.heap[B]? = some (.cells #[v] 73 (0, 0)) ∧ w.ownsRow (B + 1) 9 1 v acc.length (strVs acc)
  tab : Tabs lo w
  hlo : lo ≤ B
  pow : Pow w
  h4 : 4 < lo
theorem heap_lt {w : World} {b : Nat} {o : Obj} (h : w.heap[b]? = some o) : b < w.heap.size := by
  rcases Nat.lt_or_ge b w.heap.size with h' | h'
  · exact h'
  · simp [Array.getElem?_eq_none h'] at h
theorem WAt.lt {lo B : Nat} {acc : List (List UInt8)} {w : World} (h : WAt lo B acc w) : B < w.heap.size := by
  obtain ⟨v, h1, _⟩ := h.row
  exact heap_lt h1
theorem WAt.below {lo B : Nat} {acc : List (List UInt8)} {w w' : World} (h : WAt lo B acc w) (hb : Below w.heap.size w w') : WAt lo B acc w' := by
  have hlt := h.lt
  have hl := h.hlo
  obtain ⟨v, h1, h2⟩ := h.row
  exact ⟨⟨v, (hb.block B hlt).trans h1, h2.kept (below_grown hb none) (by cases v.ownBlock; exact .inl rfl; exact .inr (by simp))⟩, h.tab.under (hb.mono (by omega)), hl, h.pow.under (hb.mono (Nat.le_of_lt hlt)) (by have := h.h4; omega), h.h4⟩
theorem WAt.alloc {lo B : Nat} {acc : List (List UInt8)} {w : World} (h : WAt lo B acc w) (o : Obj) : WAt lo B acc (w.alloc o) := h.below ((Below.refl _ _).alloc (Nat.le_refl _) o)
theorem Tryz.info9 : (Tryz.prog.info? 9).map (fun i => (i.zero, i.size, i.bytes)) = some (some (.string ⟨#[]⟩), 1, 16) := by kernel_rfl
theorem strVs_append (a b : List (List UInt8)) : strVs (a ++ b) = strVs a ++ strVs b := by simp [strVs]
theorem Keep.grown {B n : Nat} {u v : World} {x : Value} {xs : List Value} (hown : u.ownsRow (B + 1) 9 1 x n xs) (hg : u.grownBy v x.ownBlock) (hB : B < u.heap.size) : Keep B u v := by
  refine ⟨(Below.refl B u).grown hg (by omega) (fun k hk => by have := (hown.lt k hk).1; omega), fun i cs T fr _ h2 h3 => ?_⟩
  rw [hg.block i (heap_lt h3) (fun e => Lib.ownBlock_ne hown h3 h2 e.symm)]
  exact h3
theorem Keep.setCell {B : Nat} {u v : World} (h : Keep B u v) (o : Nat) (x : Value) : Keep B u (v.setCell ⟨B, o, none⟩ x) := by
  refine ⟨h.below.setCell (p := ⟨B, o, none⟩) (Nat.le_refl _) x, fun i cs T fr h1 h2 h3 => ?_⟩
  rw [Below.heap_setCell v ⟨B, o, none⟩ x i h1]
  exact h.high i cs T fr h1 h2 h3
theorem set_block {w : World} {B : Nat} {v : Value} (h : w.heap[B]? = some (.cells #[v] 73 (0, 0))) (v' : Value) : (w.setCell ⟨B, 0, none⟩ v').heap[B]? = some (.cells #[v'] 73 (0, 0)) := by
  obtain ⟨hlt, he⟩ := Array.getElem?_eq_some_iff.1 h
  simp [World.setCell, hlt, Array.getElem_modify, he]

set_option maxHeartbeats 2000000 in
set_option maxRecDepth 100000 in
theorem put_any (lo B S c : Nat) (acc xs : List (List UInt8)) (w : World) (h : WAt lo B acc w) (hx : xs ≠ []) (hnews : ∀ (j : Nat) (u : Value), (strVs xs)[j]? = some u → w.cell? ((⟨S, 0, none⟩ : Addr).add j) = some u) (hn : acc.length + xs.length ≤ 1000000000) :
    Calls Tryz.prog 79 #[.pointer (some ⟨B, 0, none⟩), .slice (some ⟨S, 0, none⟩) xs.length c] w fun e w' => e = .returned (.tuple #[]) ∧ WAt lo B (acc ++ xs) w' ∧ Keep B w w' := by
  obtain ⟨i0, hi, hz0, hz1, hz2⟩ := info_parts Tryz.info9
  obtain ⟨v, hbk, hown⟩ := h.row
  have hlt := h.lt
  have HT := Lib.hid h
  have HN := Lib.hid hnews
  have c0 : w.cell? ⟨B, 0, none⟩ = some v := by rw [Lib.cell_of_heap hbk]; rfl
  have hxl : 0 < xs.length := by cases xs with | nil => exact absurd rfl hx | cons => simp
  clear h hnews
  go_enter Tryz.func79, Tryz.ntmps79
  go_wp2_with (at_builtin; refine wpList_append_own _ rfl _ _ 46 rfl (B + 1) 9 i0 (.string ⟨#[]⟩) 1 16 Tryz.underlying46 hi hz0 hz1 hz2 rfl (by decide) _ _ _ rfl hown ⟨S, 0, none⟩ xs.length c (strVs xs) rfl (by simp [strVs]) ?c1 ?c2 ?c3 ?c4 ?c5 ?_)
  case c1 => exact HN.out
  case c2 => intro u hu; simp [strVs] at hu; obtain ⟨x, _, rfl⟩ := hu; rfl
  case c3 => unfold maxLen; omega
  case c4 => omega
  case c5 => omega
  intro v' w2 hown' hgrow _
  have hK := Keep.grown hown hgrow hlt
  have hne : some B ≠ v.ownBlock := fun e => by have := (hown.lt B e.symm).1; omega
  have hb2 : w2.heap[B]? = some (.cells #[v] 73 (0, 0)) := by rw [hgrow.block B hlt hne]; exact hbk
  have d0 : w2.cell? ⟨B, 0, none⟩ = some v := by rw [Lib.cell_of_heap hb2]; rfl
  have f0 : w2.frozen? ⟨B, 0, none⟩ = false := Lib.frozen_of_heap hb2 0
  obtain ⟨ao, n', cap, rfl⟩ : ∃ ao n' cap, v' = .slice ao n' cap := by
    rcases hown'.2 with ⟨hv, _⟩ | ⟨g, cap, cur, hv, _⟩
    · exact ⟨_, _, _, hv⟩
    · exact ⟨_, _, _, hv⟩
  go_wp2
  go_end0
  refine ⟨rfl, ⟨⟨_, set_block hb2 _, ?_⟩, ?_, HT.out.hlo, HT.out.pow.under ((hK.setCell 0 _).below.mono HT.out.hlo) HT.out.h4, HT.out.h4⟩, hK.setCell _ _⟩
  · rw [strVs_append, List.length_append]
    refine hown'.kept (grown_setB w2 B 0 _) (.inr ?_)
    intro e
    have := (hown'.lt B e).1
    omega
  · exact HT.out.tab.under ((hK.setCell 0 _).below.mono HT.out.hlo)
/-- put of words that are laid for it. -/
theorem put_lit {lo B S : Nat} {acc : List (List UInt8)} {w : World} (xs : List (List UInt8)) (h : WAt lo B acc w) (hx : xs ≠ []) (hS : w.heap.size = S) (hn : acc.length + xs.length ≤ 1000000000) :
    Calls Tryz.prog 79 #[.pointer (some ⟨B, 0, none⟩), .slice (some ⟨S, 0, none⟩) xs.length xs.length] (w.alloc (.cells (strVs xs).toArray 9)) fun e w' => e = .returned (.tuple #[]) ∧ WAt lo B (acc ++ xs) w' ∧ Keep B w w' := by
  subst hS
  refine (put_any lo B w.heap.size xs.length acc xs (w.alloc (.cells (strVs xs).toArray 9)) (h.alloc _) hx ?_ hn).mono ?_
  · intro j u hj
    have hjl : j < (strVs xs).length := (List.getElem?_eq_some_iff.1 hj).1
    have : (strVs xs).toArray[j]? = some u := by simpa using hj
    rw [Lib.add_plain, World.cell?_alloc_new, Nat.zero_add]
    simpa using hj
  · rintro e w' ⟨rfl, h1, h2⟩
    exact ⟨rfl, h1, (Keep.of_below ((Below.refl _ _).alloc (Nat.le_refl _) _) (Nat.le_of_lt h.lt)).trans h2⟩
end Go.Proofs.YtnalgnklgmoepaaGreatDoor
namespace Go.Proofs.YtnalgnklgmoepaaGreatDoor
open Go Go.RowKit

/-- A node's six cells. -/
structure CNode (g o : Nat) (t : Tree) (v : Value) (w : World) : Prop where
  c0 : w.cell? ⟨g, o, none⟩ = some (.string ⟨t.kind.toArray⟩)
  c1 : w.cell? ⟨g, o + 1, none⟩ = some (.string ⟨t.text.toArray⟩)
  c2 : w.cell? ⟨g, o + 2, none⟩ = some (.int .u64 t.num)
  c3 : w.cell? ⟨g, o + 3, none⟩ = some (.int .i64 t.line)
  c4 : w.cell? ⟨g, o + 4, none⟩ = some (.int .i64 t.col)
  c5 : w.cell? ⟨g, o + 5, none⟩ = some v
/-- Nodes lie one behind the other, in blocks below B. -/
def RowN (B : Nat) (w : World) (ts : List Tree) (g off : Nat) : Prop := g < B ∧ ∀ i (h : i < ts.length), ∃ q n c, Lies w (· < B) ts[i] (.slice q n c) ∧ CNode g (off + i * 6) ts[i] (.slice q n c) w
theorem Lies.shape {w : World} {ok : Nat → Prop} {t : Tree} {v : Value} (h : Lies w ok t v) : ∃ q c, v = .slice q t.kids.length c ∧ t.kids.length ≤ c ∧ c ≤ maxLen := by
  cases t with
  | mk k x n l c ks =>
    obtain ⟨vs, _, h2, _⟩ := h
    rcases h2.2 with ⟨rfl, h0⟩ | ⟨g, cap, cur, rfl, _, _, h3, h4, _⟩
    · exact ⟨none, 0, by rw [show (Tree.mk k x n l c ks).kids = ks from rfl, h0], by rw [show (Tree.mk k x n l c ks).kids = ks from rfl, h0]; exact Nat.le_refl _, by unfold maxLen; omega⟩
    · exact ⟨_, _, rfl, h3, h4⟩
theorem rowC_at : ∀ (ts : List Tree) (vs : List Value) (i k : Nat) (hi : i < ts.length) (hv : i < vs.length), k < 6 → (rowC ts vs)[i * 6 + k]? = (nodeC ts[i] vs[i])[k]?
  | t :: ts, v :: vs, 0, k, _, _, hk => by
    rw [rowC, Nat.zero_mul, Nat.zero_add, List.getElem?_append_left (by simp [nodeC]; omega)]
    rfl
  | t :: ts, v :: vs, i + 1, k, hi, hv, hk => by
    rw [rowC, List.getElem?_append_right (by simp [nodeC]; omega)]
    have e : (i + 1) * 6 + k - (nodeC t v).length = i * 6 + k := by simp [nodeC]; omega
    rw [e]
    exact rowC_at ts vs i k (by simpa using hi) (by simpa using hv) hk
  | [], _, i, _, hi, _, _ => by simp at hi
  | _ :: _, [], i, _, _, hv, _ => by simp at hv
theorem LiesL.at {w : World} {ok : Nat → Prop} : ∀ {ts : List Tree} {vs : List Value}, LiesL w ok ts vs → ∀ i (h : i < ts.length) (h' : i < vs.length), Lies w ok ts[i] vs[i]
  | _ :: _, _ :: _, hL, 0, _, _ => hL.1
  | _ :: _, _ :: _, hL, i + 1, h, h' => LiesL.at hL.2 i (by simpa using h) (by simpa using h')
  | [], _, _, _, h, _ => by simp at h
  | _ :: _, [], hL, _, _, _ => hL.elim
theorem Lies.row {B : Nat} {w : World} {t : Tree} {v : Value} (h : Lies w (· < B) t v) (hk : t.kids ≠ []) : ∃ g c, v = .slice (some ⟨g, 0, none⟩) t.kids.length c ∧ RowN B w t.kids g 0 := by
  cases t with
  | mk k x n l c ks =>
    obtain ⟨vs, h1, h2, h3⟩ := h
    change ks ≠ [] at hk
    have hlen := LiesL.length ks vs h3
    rcases h2.2 with ⟨rfl, h0⟩ | ⟨g, cap, cur, rfl, _, hg, _⟩
    · exact absurd (List.length_eq_zero_iff.1 h0) hk
    · refine ⟨g, cap, rfl, h1 g rfl, fun i hi => ?_⟩
      change i < ks.length at hi
      have hiv : i < vs.length := by omega
      have hl := LiesL.at h3 i hi hiv
      obtain ⟨q, c', he, _⟩ := hl.shape
      have hc := h2.cells (g := g) rfl
      refine ⟨q, _, c', he ▸ hl, ?_⟩
      have hat : ∀ (k : Nat) u, k < 6 → (nodeC ks[i] vs[i])[k]? = some u → w.cell? ⟨g, 0 + i * 6 + k, none⟩ = some u := fun k u hk hu => by
        have := hc (i * 6 + k) u (by rw [rowC_at ks vs i k hi hiv hk]; exact hu)
        rw [Lib.add_plain, Nat.zero_add] at this
        rw [Nat.zero_add]
        exact this
      rw [← he]
      exact ⟨hat 0 _ (by omega) rfl, hat 1 _ (by omega) rfl, hat 2 _ (by omega) rfl, hat 3 _ (by omega) rfl, hat 4 _ (by omega) rfl, hat 5 _ (by omega) rfl⟩
theorem CNode.move {g o : Nat} {t : Tree} {v : Value} {w w' : World} (h : CNode g o t v w) (hg : w'.heap[g]? = w.heap[g]?) : CNode g o t v w' :=
  ⟨(World.cell?_of_block hg).trans h.c0, (World.cell?_of_block hg).trans h.c1, (World.cell?_of_block hg).trans h.c2, (World.cell?_of_block hg).trans h.c3, (World.cell?_of_block hg).trans h.c4, (World.cell?_of_block hg).trans h.c5⟩
theorem Lies.keep {B : Nat} {w w' : World} {t : Tree} {v : Value} (h : Lies w (· < B) t v) (hb : Below B w w') : Lies w' (· < B) t v := Lies.move (fun g _ hg => ⟨hg, hb.block g hg⟩) t v h
theorem RowN.keep {B : Nat} {w w' : World} {ts : List Tree} {g off : Nat} (h : RowN B w ts g off) (hb : Below B w w') : RowN B w' ts g off :=
  ⟨h.1, fun i hi => by obtain ⟨q, n, c, h1, h2⟩ := h.2 i hi; exact ⟨q, n, c, h1.keep hb, h2.move (hb.block g h.1)⟩⟩
theorem RowN.sub {B : Nat} {w : World} {ts : List Tree} {g off : Nat} (h : RowN B w ts g off) (us : List Tree) (d : Nat) (hus : ∀ i (hi : i < us.length), ∃ h : d + i < ts.length, ts[d + i] = us[i]) : RowN B w us g (off + d * 6) :=
  ⟨h.1, fun i hi => by
    obtain ⟨hd, he⟩ := hus i hi
    obtain ⟨q, n, c, h1, h2⟩ := h.2 (d + i) hd
    rw [he] at h1 h2
    exact ⟨q, n, c, h1, by rw [show off + d * 6 + i * 6 = off + (d + i) * 6 by omega]; exact h2⟩⟩

theorem alloc_heap (w : World) (o : Obj) : (w.alloc o).heap[w.heap.size]? = some o := by unfold World.alloc; simp
/-- A call of the writer that began in w0, with its node in a variable at block N, stands in w. -/
structure Sw (w0 : World) (lo B N : Nat) (acc : List (List UInt8)) (t : Tree) (v : Value) (w : World) : Prop where
  wr : WAt lo B acc w
  kp : Keep B w0 w
  nd : w.heap[N]? = some (.cells (nodeC t v).toArray 26)
  li : Lies w (· < B) t v
  hN : B < N
  hw0 : B < w0.heap.size
section
variable {w0 w w' : World} {lo B N : Nat} {acc : List (List UInt8)} {t : Tree} {v : Value}
theorem Sw.start (h : WAt lo B acc w) (hl : Lies w (· < B) t v) : Sw w lo B w.heap.size acc t v (w.alloc (.cells (nodeC t v).toArray 26)) :=
  ⟨h.alloc _, Keep.of_below ((Below.refl _ _).alloc (Nat.le_refl _) _) (Nat.le_of_lt h.lt), alloc_heap _ _, hl.keep (((Below.refl _ _).alloc (Nat.le_refl _) _).mono (Nat.le_of_lt h.lt)), h.lt, h.lt⟩
theorem Sw.call {acc' : List (List UInt8)} (h : Sw w0 lo B N acc t v w) (hw : WAt lo B acc' w') (hk : Keep B w w') : Sw w0 lo B N acc' t v w' :=
  ⟨hw, h.kp.trans hk, hk.high N _ 26 _ (by have := h.hN; omega) (by decide) h.nd, h.li.keep hk.below, h.hN, h.hw0⟩
theorem Sw.below (h : Sw w0 lo B N acc t v w) (hb : Below w.heap.size w w') : Sw w0 lo B N acc t v w' := h.call (h.wr.below hb) (Keep.of_below hb (Nat.le_of_lt h.wr.lt))
theorem Sw.alloc (h : Sw w0 lo B N acc t v w) (o : Obj) : Sw w0 lo B N acc t v (w.alloc o) := h.below ((Below.refl _ _).alloc (Nat.le_refl _) o)
theorem Sw.drew (h : Sw w0 lo B N acc t v w) : Sw w0 lo B N acc t v w.drew := h.below (Below.refl _ _).drew
theorem Sw.lt (h : Sw w0 lo B N acc t v w) : N < w.heap.size := heap_lt h.nd
theorem Sw.node (h : Sw w0 lo B N acc t v w) : CNode N 0 t v w := by
  have hn := h.nd
  constructor <;> (rw [Lib.cell_of_heap hn]; rfl)
theorem Sw.cells {k x : List UInt8} {m ln co : Int} {ks : List Tree} (h : Sw w0 lo B N acc (.mk k x m ln co ks) v w) :
    w.cell? ⟨N, 0, none⟩ = some (.string ⟨k.toArray⟩) ∧ w.cell? ⟨N, 1, none⟩ = some (.string ⟨x.toArray⟩) ∧ w.cell? ⟨N, 2, none⟩ = some (.int .u64 m) ∧ w.cell? ⟨N, 3, none⟩ = some (.int .i64 ln) ∧ w.cell? ⟨N, 4, none⟩ = some (.int .i64 co) ∧ w.cell? ⟨N, 5, none⟩ = some v := by
  have hn := h.node
  exact ⟨hn.c0, hn.c1, hn.c2, hn.c3, hn.c4, hn.c5⟩
end
/-- The call number f of the writer, at a node, puts what p says. -/
def WDoes (f : Nat) (args : Value → Value → Array Value) (p : Tree → Ws) : Prop :=
  ∀ (lo B : Nat) (acc : List (List UInt8)) (t : Tree) (v : Value) (w : World) (ws : List (List UInt8)), WAt lo B acc w → Lies w (· < B) t v → Neat t → p t = some ws → acc.length + ws.length ≤ 1000000000 →
    Calls Tryz.prog f (args (.pointer (some ⟨B, 0, none⟩)) (nodeV t v)) w fun e w' => e = .returned (.tuple #[]) ∧ WAt lo B (acc ++ ws) w' ∧ Keep B w w'

/-! ### The small questions, answered with yes -/
theorem bare_yes {L : Nat} {t : Tree} {v : Value} {q : Option Addr} {vn vc : Nat} {lo hi : Int} (w : World) (_ : Tabs L w) (hv : v = .slice q vn vc) (h : bareT t = true) (h1 : lo ≤ vn) (h2 : (vn : Int) ≤ hi) :
    Calls Tryz.prog 50 #[nodeV t v, .int .i64 lo, .int .i64 hi] w fun e w' => e = .returned (.bool true) ∧ Below w.heap.size w w' := by
  subst hv
  have := bare_any t.kind t.text t.num t.line t.col q vn vc lo hi w
  have hb : bareB t.text t.num vn lo hi = true := by simp only [bareT, Bool.and_eq_true] at h; simp [bareB, textedB, h.1, h.2, h1, h2]
  rw [hb] at this
  exact this
theorem texted_yes {L : Nat} {t : Tree} {v : Value} {q : Option Addr} {vn vc : Nat} {lo hi : Int} (w : World) (_ : Tabs L w) (hv : v = .slice q vn vc) (h : (t.num == 0) = true) (h1 : lo ≤ vn) (h2 : (vn : Int) ≤ hi) :
    Calls Tryz.prog 76 #[nodeV t v, .int .i64 lo, .int .i64 hi] w fun e w' => e = .returned (.bool true) ∧ Below w.heap.size w w' := by
  subst hv
  have := texted_any t.kind t.text t.num t.line t.col q vn vc lo hi w
  have hb : textedB t.num vn lo hi = true := by simp [textedB, h, h1, h2]
  rw [hb] at this
  exact this
set_option maxHeartbeats 1000000 in
set_option maxRecDepth 100000 in
theorem named_yes {L : Nat} {t : Tree} {v : Value} {q : Option Addr} {vn vc : Nat} {lo hi : Int} (w : World) (hk : Tabs L w) (hl : t.text.length ≤ 1000000) (hv : v = .slice q vn vc) (h : namedT t = true) (h1 : lo ≤ vn) (h2 : (vn : Int) ≤ hi) :
    Calls Tryz.prog 77 #[nodeV t v, .int .i64 lo, .int .i64 hi] w fun e w' => e = .returned (.bool true) ∧ Below w.heap.size w w' := by
  subst hv
  simp only [namedT, Bool.and_eq_true] at h
  have ha := (Below.refl w.heap.size w).alloc (Nat.le_refl _) (.cells #[.string ⟨t.kind.toArray⟩, .string ⟨t.text.toArray⟩, .int .u64 t.num, .int .i64 t.line, .int .i64 t.col, .slice q vn vc] 26)
  have HN := Lib.hid (isName_any ⟨t.text.toArray⟩ _ (hk.under (ha.mono hk.2.1)).keys (by simpa [ByteArray.size] using hl))
  have HT := Lib.hid (texted_yes (t := t) (v := .slice q vn vc) (lo := lo) (hi := hi) (w.alloc (.cells #[.string ⟨t.kind.toArray⟩, .string ⟨t.text.toArray⟩, .int .u64 t.num, .int .i64 t.line, .int .i64 t.col, .slice q vn vc] 26)) (hk.under (ha.mono hk.2.1)) rfl h.2 h1 h2)
  have h3 : isNameL (⟨t.text.toArray⟩ : ByteArray).data.toList = true := by simpa using h.1
  rw [h3] at HN
  have HA := Lib.hid ha
  clear ha h3 h hk
  unfold nodeV at *
  go_enter Tryz.func77, Tryz.ntmps77
  go_wp2_with fail
  refine (HN.out).mono ?_
  rintro e w1 ⟨rfl, rfl⟩
  go_wp2_with fail
  refine (HT.out).mono ?_
  rintro e w2 ⟨rfl, hb⟩
  go_wp2
  go_ret
  exact ⟨rfl, HA.out.trans (hb.mono HA.out.size)⟩
end Go.Proofs.YtnalgnklgmoepaaGreatDoor
namespace Go.Proofs.YtnalgnklgmoepaaGreatDoor
open Go Go.RowKit

set_option maxHeartbeats 2000000 in
set_option maxRecDepth 100000 in
theorem target_w (rec : WT → Tree → Ws) (hex : WDoes 113 (fun p n => #[p, n]) (rec .expr)) : WDoes 128 (fun p n => #[p, n]) (targetW rec) := by
  intro lo B acc t v w ws hW hL hF he hlen
  obtain ⟨k, x, m, ln, co, ks⟩ := t
  obtain ⟨hFk, hFx, hFm0, hFm1, hFn, hFL⟩ := id hF
  unfold targetW at he
  simp only [Tree.kind, Tree.kids, Tree.text] at he
  cases hk : (k == kIndex)
  case false =>
    simp only [hk, Bool.false_eq_true, if_false, reduceIte] at he
    obtain ⟨hb, hws⟩ := ifW_some he
    simp only [Bool.and_eq_true, beq_iff_eq, List.length_eq_zero_iff] at hb
    obtain ⟨⟨rfl, hnm⟩, rfl⟩ := hb
    injection hws with hws
    subst hws
    clear he hk
    obtain ⟨q0, vc, hv, hvc, hvm⟩ := hL.shape
    simp only [Tree.kind, Tree.text, Tree.num, Tree.line, Tree.col, Tree.kids, List.length] at hv
    subst hv
    have S0 := Lib.hid (Sw.start hW hL)
    have HF := Lib.hid hF
    have HFL := Lib.hid hFL
    have HLEN := Lib.hid hlen
    have hBw := hW.lt
    have HFX := Lib.hid hFx
    have HFN := Lib.hid hFn
    clear hW hF hL hFL hlen hFk hFx hFn
    try simp only [nodeV, nodeC, Tree.kind, Tree.text, Tree.num, Tree.line, Tree.col, Tree.kids] at *
    unfold kName at *
    go_enter Tryz.func128, Tryz.ntmps128
    obtain ⟨c0, c1, c2, c3, c4, c5⟩ := S0.out.cells
    have hszN := S0.out.lt
    go_wp2_with fail
    try clear c0 c1 c2 c3 c4 c5
    try clear hszN
    have HQ := named_yes (t := (.mk [110, 97, 109, 101] x m ln co [])) (v := .slice q0 0 vc) (lo := 0) (hi := 0) _ S0.out.wr.tab HFX.out rfl hnm (by first | simp | omega | (have := HFN.out; (try simp only [List.length] at this ⊢); omega)) (by first | simp | omega | (have := HFN.out; (try simp only [List.length] at this ⊢); omega))
    simp only [nodeV, Tree.kind, Tree.text, Tree.num, Tree.line, Tree.col, Tree.kids] at HQ
    refine HQ.mono ?_
    clear HQ
    rintro e w1 ⟨rfl, hb1⟩
    have S1 := Lib.hid (S0.out.below hb1)
    clear S0 hb1
    obtain ⟨c0, c1, c2, c3, c4, c5⟩ := S1.out.cells
    have hszN := S1.out.lt
    go_wp2_with fail
    refine (need_yes _).mono ?_
    rintro e w' ⟨rfl, rfl⟩
    try clear c0 c1 c2 c3 c4 c5 hszN
    obtain ⟨c0, c1, c2, c3, c4, c5⟩ := S1.out.cells
    have hszN := S1.out.lt
    go_wp2_with fail
    try clear c0 c1 c2 c3 c4 c5
    try clear hszN
    have H := put_lit (S := w1.heap.size) [x] S1.out.wr (by simp) (by simp) (by have := HLEN.out; (try simp only [List.length_append, List.length_cons, List.length_nil] at this ⊢); omega)
    simp only [strVs, List.map, List.length] at H
    refine H.mono ?_
    clear H
    rintro e w2 ⟨rfl, hW2, hK2⟩
    have S2 := Lib.hid (S1.out.call hW2 hK2)
    clear S1 hW2 hK2 
    go_wp2
    first | go_end0 | refine bodyPost_ret (v := .tuple #[]) (by simp [results, Tryz.results128, go_sem]) rfl ?_
    exact ⟨rfl, by simpa [List.append_assoc, kProgram, kGlobal, kFunc, kParam, kType, kNum, kBlock, kLocal, kIf, kElse, kWhile, kReturn, kAssert, kAssume, kAssign, kNondet, kResult, kCall, kName, kIndex, kBinary, kUnary, kCast, kTrue, kFalse, kVoid] using S2.out.wr, S2.out.kp⟩
  case true =>
    simp only [hk, if_true, reduceIte] at he
    obtain rfl : k = kIndex := by simpa using hk
    clear hk
    rcases ks with _ | ⟨a, _ | ⟨a2, r⟩⟩
    · simp at he
    rotate_left
    · simp at he
    simp only at he
    obtain ⟨hnm, he1⟩ := ifW_some he
    clear he
    obtain ⟨w1, w2, h1, he2, rfl⟩ := catW_some he1
    clear he1
    injection h1 with h1
    subst h1
    obtain ⟨ws1, w4, hea, h1, rfl⟩ := catW_some he2
    clear he2
    injection h1 with h1
    subst h1
    obtain ⟨g0, vc, hv, hR⟩ := hL.row (by simp [Tree.kids])
    have HR := Lib.hid hR
    clear hR
    simp only [Tree.kind, Tree.text, Tree.num, Tree.line, Tree.col, Tree.kids, List.length] at hv
    subst hv
    have S0 := Lib.hid (Sw.start hW hL)
    have HF := Lib.hid hF
    have HFL := Lib.hid hFL
    have HLEN := Lib.hid hlen
    have hBw := hW.lt
    have HFX := Lib.hid hFx
    have HFN := Lib.hid hFn
    clear hW hF hL hFL hlen hFk hFx hFn
    try simp only [nodeV, nodeC, Tree.kind, Tree.text, Tree.num, Tree.line, Tree.col, Tree.kids] at *
    unfold kIndex at *
    go_enter Tryz.func128, Tryz.ntmps128
    obtain ⟨c0, c1, c2, c3, c4, c5⟩ := S0.out.cells
    have hszN := S0.out.lt
    go_wp2_with fail
    try clear c0 c1 c2 c3 c4 c5
    try clear hszN
    have HQ := named_yes (t := (.mk [105, 110, 100, 101, 120] x m ln co [a])) (v := .slice (some ⟨g0, 0, none⟩) 1 vc) (lo := 1) (hi := 1) _ S0.out.wr.tab HFX.out rfl hnm (by first | simp | omega | (have := HFN.out; (try simp only [List.length] at this ⊢); omega)) (by first | simp | omega | (have := HFN.out; (try simp only [List.length] at this ⊢); omega))
    simp only [nodeV, Tree.kind, Tree.text, Tree.num, Tree.line, Tree.col, Tree.kids] at HQ
    refine HQ.mono ?_
    clear HQ
    rintro e w1 ⟨rfl, hb1⟩
    have S1 := Lib.hid (S0.out.below hb1)
    clear S0 hb1
    obtain ⟨c0, c1, c2, c3, c4, c5⟩ := S1.out.cells
    have hszN := S1.out.lt
    go_wp2_with fail
    refine (need_yes _).mono ?_
    rintro e w' ⟨rfl, rfl⟩
    try clear c0 c1 c2 c3 c4 c5 hszN
    obtain ⟨c0, c1, c2, c3, c4, c5⟩ := S1.out.cells
    have hszN := S1.out.lt
    go_wp2_with fail
    try clear c0 c1 c2 c3 c4 c5
    try clear hszN
    have H := put_lit (S := w1.heap.size) [x, [91]] S1.out.wr (by simp) (by simp) (by have := HLEN.out; (try simp only [List.length_append, List.length_cons, List.length_nil] at this ⊢); omega)
    simp only [strVs, List.map, List.length] at H
    refine H.mono ?_
    clear H
    rintro e w2 ⟨rfl, hW2, hK2⟩
    have S2 := Lib.hid (S1.out.call hW2 hK2)
    clear S1 hW2 hK2 
    obtain ⟨qa, na, ca, hla, hca⟩ := (HR.out.keep S2.out.kp.below).2 0 (by simp)
    simp only [Nat.zero_add, Nat.zero_mul, Nat.one_mul, Nat.reduceAdd, Nat.reduceMul, List.getElem_cons_zero, List.getElem_cons_succ] at hla hca
    have k0 := hca.c0; have k1 := hca.c1; have k2 := hca.c2; have k3 := hca.c3; have k4 := hca.c4; have k5 := hca.c5
    simp only [Nat.zero_add, Nat.zero_mul, Nat.one_mul, Nat.reduceAdd, Nat.reduceMul, List.getElem_cons_zero, List.getElem_cons_succ] at k0 k1 k2 k3 k4 k5
    have HC := Lib.hid (hex lo B (acc ++ [x, [91]]) a (.slice qa na ca) _ ws1 S2.out.wr hla (HFL.out.mem _ (by simp)) hea (by have := HLEN.out; (try simp only [List.length_append, List.length_cons, List.length_nil] at this ⊢); omega))
    clear hca hla
    try simp only [nodeV] at HC
    obtain ⟨c0, c1, c2, c3, c4, c5⟩ := S2.out.cells
    have hszN := S2.out.lt
    go_wp2_with fail
    try clear c0 c1 c2 c3 c4 c5
    try clear hszN
    try clear k0 k1 k2 k3 k4 k5
    refine (HC.out).mono ?_
    rintro e w3 ⟨rfl, hW3, hK3⟩
    have S3 := Lib.hid (S2.out.call hW3 hK3)
    clear S2 hW3 hK3 HC
    obtain ⟨c0, c1, c2, c3, c4, c5⟩ := S3.out.cells
    have hszN := S3.out.lt
    go_wp2_with fail
    try clear c0 c1 c2 c3 c4 c5
    try clear hszN
    have H := put_lit (S := w3.heap.size) [[93]] S3.out.wr (by simp) (by simp) (by have := HLEN.out; (try simp only [List.length_append, List.length_cons, List.length_nil] at this ⊢); omega)
    simp only [strVs, List.map, List.length] at H
    refine H.mono ?_
    clear H
    rintro e w4 ⟨rfl, hW4, hK4⟩
    have S4 := Lib.hid (S3.out.call hW4 hK4)
    clear S3 hW4 hK4 
    go_wp2
    first | go_end0 | refine bodyPost_ret (v := .tuple #[]) (by simp [results, Tryz.results128, go_sem]) rfl ?_
    exact ⟨rfl, by simpa [List.append_assoc, kProgram, kGlobal, kFunc, kParam, kType, kNum, kBlock, kLocal, kIf, kElse, kWhile, kReturn, kAssert, kAssume, kAssign, kNondet, kResult, kCall, kName, kIndex, kBinary, kUnary, kCast, kTrue, kFalse, kVoid] using S4.out.wr, S4.out.kp⟩
end Go.Proofs.YtnalgnklgmoepaaGreatDoor
namespace Go.Proofs.YtnalgnklgmoepaaGreatDoor
open Go Go.RowKit

/-- A variable that holds a node. -/
def Hn (T : Nat) (t : Tree) (v : Value) (w : World) : Prop := w.heap[T]? = some (.cells (nodeC t v).toArray 26)
theorem Hn.new (t : Tree) (v : Value) (w : World) : Hn w.heap.size t v (w.alloc (.cells (nodeC t v).toArray 26)) := alloc_heap _ _
theorem Hn.keep {T B : Nat} {t : Tree} {v : Value} {w w' : World} (h : Hn T t v w) (hk : Keep B w w') (hT : B < T) : Hn T t v w' := hk.high T _ 26 _ (by omega) (by decide) h
theorem Hn.below {T : Nat} {t : Tree} {v : Value} {w w' : World} (h : Hn T t v w) (hb : Below w.heap.size w w') : Hn T t v w' := (hb.block T (heap_lt h)).trans h
theorem Hn.lt {T : Nat} {t : Tree} {v : Value} {w : World} (h : Hn T t v w) : T < w.heap.size := heap_lt h
theorem Hn.cells {T : Nat} {t : Tree} {v : Value} {w : World} (h : Hn T t v w) :
    w.cell? ⟨T, 0, none⟩ = some (.string ⟨t.kind.toArray⟩) ∧ w.cell? ⟨T, 1, none⟩ = some (.string ⟨t.text.toArray⟩) ∧ w.cell? ⟨T, 2, none⟩ = some (.int .u64 t.num) ∧ w.cell? ⟨T, 3, none⟩ = some (.int .i64 t.line) ∧ w.cell? ⟨T, 4, none⟩ = some (.int .i64 t.col) ∧ w.cell? ⟨T, 5, none⟩ = some v := by
  refine ⟨?_, ?_, ?_, ?_, ?_, ?_⟩ <;> (rw [Lib.cell_of_heap h]; rfl)
theorem LiesL.kids_nil {t : Tree} (h : (t.kids.length == 0) = true) : t.kids = [] := by simpa using h

set_option maxHeartbeats 2000000 in
set_option maxRecDepth 100000 in
theorem declared_w (void : Bool) : WDoes 78 (fun p n => #[p, n, .bool void]) (declaredW void) := by
  intro lo B acc t v w ws hW hL hF he hlen
  obtain ⟨k, x, m, ln, co, ks⟩ := t
  obtain ⟨hFk, hFx, hFm0, hFm1, hFn, hFL⟩ := id hF
  unfold declaredW at he
  simp only [Tree.kids, Tree.text] at he
  rcases ks with _ | ⟨u, r⟩
  · simp at he
  simp only at he
  obtain ⟨hb, hws⟩ := ifW_some he
  clear he
  injection hws with hws
  subst hws
  simp only [Bool.and_eq_true] at hb
  obtain ⟨⟨hkt, hnm, hlk⟩, hty⟩ := hb
  have hun := hFL.1
  obtain ⟨uk, ux, um, uln, uco, uks⟩ := u
  simp only [Tree.kind, Tree.num, Tree.kids, Tree.text, beq_iff_eq, List.length_eq_zero_iff] at hkt hlk
  obtain rfl := hkt
  obtain rfl := hlk
  obtain ⟨g0, vc, hv, hR⟩ := hL.row (by simp [Tree.kids])
  have HR := Lib.hid hR
  clear hR
  simp only [Tree.kind, Tree.text, Tree.num, Tree.line, Tree.col, Tree.kids, List.length] at hv
  subst hv
  have S0 := Lib.hid (Sw.start hW hL)
  have HF := Lib.hid hF
  have HFL := Lib.hid hFL
  have HLEN := Lib.hid hlen
  have hBw := hW.lt
  have HFX := Lib.hid hFx
  have HFN := Lib.hid hFn
  clear hW hF hL hFL hlen hFk hFx hFn
  try simp only [nodeV, nodeC, Tree.kind, Tree.text, Tree.num, Tree.line, Tree.col, Tree.kids] at *

  go_enter Tryz.func78, Tryz.ntmps78
  obtain ⟨qa, na, ca, hla, hca⟩ := (HR.out.keep S0.out.kp.below).2 0 (by simp)
  simp only [Nat.zero_add, Nat.zero_mul, Nat.one_mul, Nat.reduceAdd, Nat.reduceMul, List.getElem_cons_zero, List.getElem_cons_succ] at hla hca
  obtain ⟨qb, cb, hvb, _, _⟩ := hla.shape
  simp only [Tree.kids, List.length] at hvb
  injection hvb with e1 e2 e3
  subst e1 e2 e3
  have k0 := hca.c0; have k1 := hca.c1; have k2 := hca.c2; have k3 := hca.c3; have k4 := hca.c4; have k5 := hca.c5
  simp only [Nat.zero_add, Nat.zero_mul, Nat.one_mul, Nat.reduceAdd, Nat.reduceMul, List.getElem_cons_zero, List.getElem_cons_succ, Tree.kind, Tree.text, Tree.num, Tree.line, Tree.col, Tree.kids] at k0 k1 k2 k3 k4 k5
  obtain ⟨c0, c1, c2, c3, c4, c5⟩ := S0.out.cells
  have hszN := S0.out.lt
  have S1 := Lib.hid (S0.out.alloc (.cells (nodeC (.mk kType ux um uln uco []) (.slice qa 0 ca)).toArray 26))
  have T1 := Lib.hid (Hn.new (.mk kType ux um uln uco []) (.slice qa 0 ca) (w.alloc (.cells (nodeC (.mk k x m ln co (.mk kType ux um uln uco [] :: r)) (.slice (some ⟨g0, 0, none⟩) (r.length + 1) vc)).toArray 26)))
  have hr0 : (0 : Int) < ((r.length : Int) + 1) := by omega
  clear hca hla
  simp only [nodeC, Tree.kind, Tree.text, Tree.num, Tree.line, Tree.col, Tree.kids] at S1 T1
  unfold kType at *
  go_wp2_with fail
  have HQ := texted_yes (t := .mk [116, 121, 112, 101] ux um uln uco []) (v := .slice qa 0 ca) (lo := 0) (hi := 0) ((w.alloc (.cells #[.string ⟨k.toArray⟩, .string ⟨x.toArray⟩, .int .u64 m, .int .i64 ln, .int .i64 co, .slice (some ⟨g0, 0, none⟩) (r.length + 1) vc] 26)).alloc (.cells #[.string ⟨#[116, 121, 112, 101]⟩, .string ⟨ux.toArray⟩, .int .u64 um, .int .i64 uln, .int .i64 uco, .slice qa 0 ca] 26)) S1.out.wr.tab rfl (by simpa [Tree.num] using hnm) (by simp) (by simp)
  simp only [nodeV, Tree.kind, Tree.text, Tree.num, Tree.line, Tree.col, Tree.kids] at HQ
  refine HQ.mono ?_
  clear HQ
  rintro e w2 ⟨rfl, hb2⟩
  have S2 := Lib.hid (S1.out.below hb2)
  have T2 := Lib.hid (T1.out.below hb2)
  clear S0 S1 T1 hb2 k0 k1 k2 k3 k4 k5
  try clear c0 c1 c2 c3 c4 c5
  try clear hszN
  obtain ⟨k0, k1, k2, k3, k4, k5⟩ := T2.out.cells
  simp only [World.size_alloc, Tree.kind, Tree.text, Tree.num, Tree.line, Tree.col, Tree.kids] at k0 k1 k2 k3 k4 k5
  obtain ⟨c0, c1, c2, c3, c4, c5⟩ := S2.out.cells
  have hszN := S2.out.lt
  go_wp2_with fail
  refine (need_yes _).mono ?_
  rintro e w' ⟨rfl, rfl⟩
  try clear c0 c1 c2 c3 c4 c5 hszN
  obtain ⟨c0, c1, c2, c3, c4, c5⟩ := S2.out.cells
  have hszN := S2.out.lt
  have HTY := Lib.hid (type_any ⟨ux.toArray⟩ w2 S2.out.wr.tab.types)
  have hdt : (⟨ux.toArray⟩ : ByteArray).data.toList = ux := by simp
  rw [hdt] at HTY
  clear hdt
  cases ht : typeB ux
  case false =>
    rw [ht] at HTY hty
    obtain ⟨hv1, hv2⟩ : void = true ∧ ux = kVoid := by simpa using hty
    subst hv1 hv2
    unfold kVoid at *
    go_wp2_with fail
    refine (HTY.out).mono ?_
    rintro e w' ⟨rfl, rfl⟩
    go_wp2_with fail
    refine (need_yes _).mono ?_
    rintro e w' ⟨rfl, rfl⟩
    try clear c0 c1 c2 c3 c4 c5 hszN
    skip
    obtain ⟨c0, c1, c2, c3, c4, c5⟩ := S2.out.cells
    have hszN := S2.out.lt
    go_wp2_with fail
    try clear c0 c1 c2 c3 c4 c5
    try clear hszN
    have H := put_lit (S := w2.heap.size) [[118, 111, 105, 100], x] S2.out.wr (by simp) (by simp) (by have := HLEN.out; (try simp only [List.length_append, List.length_cons, List.length_nil] at this ⊢); omega)
    simp only [strVs, List.map, List.length] at H
    refine H.mono ?_
    clear H
    rintro e w3 ⟨rfl, hW3, hK3⟩
    have S3 := Lib.hid (S2.out.call hW3 hK3)
    clear S2 hW3 hK3 
    go_wp2
    first | go_end0 | refine bodyPost_ret (v := .tuple #[]) (by simp [results, Tryz.results78, go_sem]) rfl ?_
    exact ⟨rfl, by simpa [List.append_assoc, kProgram, kGlobal, kFunc, kParam, kType, kNum, kBlock, kLocal, kIf, kElse, kWhile, kReturn, kAssert, kAssume, kAssign, kNondet, kResult, kCall, kName, kIndex, kBinary, kUnary, kCast, kTrue, kFalse, kVoid] using S3.out.wr, S3.out.kp⟩
  case true =>
    rw [ht] at HTY hty
    go_wp2_with fail
    refine (HTY.out).mono ?_
    rintro e w' ⟨rfl, rfl⟩
    go_wp2_with fail
    refine (need_yes _).mono ?_
    rintro e w' ⟨rfl, rfl⟩
    try clear c0 c1 c2 c3 c4 c5 hszN
    skip
    obtain ⟨c0, c1, c2, c3, c4, c5⟩ := S2.out.cells
    have hszN := S2.out.lt
    go_wp2_with fail
    try clear c0 c1 c2 c3 c4 c5
    try clear hszN
    have H := put_lit (S := w2.heap.size) [ux, x] S2.out.wr (by simp) (by simp) (by have := HLEN.out; (try simp only [List.length_append, List.length_cons, List.length_nil] at this ⊢); omega)
    simp only [strVs, List.map, List.length] at H
    refine H.mono ?_
    clear H
    rintro e w3 ⟨rfl, hW3, hK3⟩
    have S3 := Lib.hid (S2.out.call hW3 hK3)
    clear S2 hW3 hK3 
    go_wp2
    first | go_end0 | refine bodyPost_ret (v := .tuple #[]) (by simp [results, Tryz.results78, go_sem]) rfl ?_
    exact ⟨rfl, by simpa [List.append_assoc, kProgram, kGlobal, kFunc, kParam, kType, kNum, kBlock, kLocal, kIf, kElse, kWhile, kReturn, kAssert, kAssume, kAssign, kNondet, kResult, kCall, kName, kIndex, kBinary, kUnary, kCast, kTrue, kFalse, kVoid] using S3.out.wr, S3.out.kp⟩
end Go.Proofs.YtnalgnklgmoepaaGreatDoor
namespace Go.Proofs.YtnalgnklgmoepaaGreatDoor
open Go Go.RowKit

set_option maxHeartbeats 2000000 in
set_option maxRecDepth 100000 in
theorem number_w  : WDoes 83 (fun p n => #[p, n]) (numberW) := by
  intro lo B acc t v w ws hW hL hF he hlen
  obtain ⟨k, x, m, ln, co, ks⟩ := t
  obtain ⟨hFk, hFx, hFm0, hFm1, hFn, hFL⟩ := id hF
  simp only [numberW, kProgram, kGlobal, kFunc, kParam, kType, kNum, kBlock, kLocal, kIf, kElse, kWhile, kReturn, kAssert, kAssume, kAssign, kNondet, kResult, kCall, kName, kIndex, kBinary, kUnary, kCast, kTrue, kFalse, kVoid, Tree.kind, Tree.text, Tree.num, Tree.line, Tree.col, Tree.kids] at he
  obtain ⟨hb, hws⟩ := ifW_some he
  clear he
  injection hws with hws
  subst hws
  simp only [Bool.and_eq_true, beq_iff_eq, List.length_eq_zero_iff] at hb
  obtain ⟨rfl, rfl, rfl⟩ := hb
  obtain ⟨u, rfl⟩ : ∃ u : Nat, m = u := ⟨m.toNat, by omega⟩
  have hu : u < 18446744073709551616 := by omega
  obtain ⟨q0, vc, hv, hvc, hvm⟩ := hL.shape
  simp only [Tree.kind, Tree.text, Tree.num, Tree.line, Tree.col, Tree.kids, List.length] at hv
  subst hv
  have S0 := Lib.hid (Sw.start hW hL)
  have HF := Lib.hid hF
  have HFL := Lib.hid hFL
  have HLEN := Lib.hid hlen
  have hBw := hW.lt
  have HFX := Lib.hid hFx
  have HFN := Lib.hid hFn
  clear hW hF hL hFL hlen hFk hFx hFn
  try simp only [nodeV, nodeC, Tree.kind, Tree.text, Tree.num, Tree.line, Tree.col, Tree.kids] at *
  try simp only [Int.toNat_natCast] at *
  go_enter Tryz.func83, Tryz.ntmps83
  obtain ⟨c0, c1, c2, c3, c4, c5⟩ := S0.out.cells
  have hszN := S0.out.lt
  go_wp2_with fail
  refine (need_yes _).mono ?_
  rintro e w' ⟨rfl, rfl⟩
  try clear c0 c1 c2 c3 c4 c5 hszN
  obtain ⟨c0, c1, c2, c3, c4, c5⟩ := S0.out.cells
  have hszN := S0.out.lt
  go_wp2_with fail
  try clear c0 c1 c2 c3 c4 c5
  try clear hszN
  refine (fmt_any u hu _ S0.out.wr.pow).mono ?_
  rintro e w1 ⟨rfl, hb1⟩
  have S1 := Lib.hid (S0.out.below hb1)
  clear S0 hb1
  obtain ⟨c0, c1, c2, c3, c4, c5⟩ := S1.out.cells
  have hszN := S1.out.lt
  go_wp2_with fail
  try clear c0 c1 c2 c3 c4 c5
  try clear hszN
  have H := put_lit (S := w1.heap.size) [Lib.decDigits u] S1.out.wr (by simp) (by simp) (by have := HLEN.out; (try simp only [List.length_append, List.length_cons, List.length_nil] at this ⊢); omega)
  simp only [strVs, List.map, List.length] at H
  refine H.mono ?_
  clear H
  rintro e w2 ⟨rfl, hW2, hK2⟩
  have S2 := Lib.hid (S1.out.call hW2 hK2)
  clear S1 hW2 hK2 
  go_wp2
  first | go_end0 | refine bodyPost_ret (v := .tuple #[]) (by simp [results, Tryz.results83, go_sem]) rfl ?_
  exact ⟨rfl, by simpa [List.append_assoc, kProgram, kGlobal, kFunc, kParam, kType, kNum, kBlock, kLocal, kIf, kElse, kWhile, kReturn, kAssert, kAssume, kAssign, kNondet, kResult, kCall, kName, kIndex, kBinary, kUnary, kCast, kTrue, kFalse, kVoid] using S2.out.wr, S2.out.kp⟩
end Go.Proofs.YtnalgnklgmoepaaGreatDoor
namespace Go.Proofs.YtnalgnklgmoepaaGreatDoor
open Go Go.RowKit

set_option maxHeartbeats 2000000 in
set_option maxRecDepth 100000 in
theorem operand_w (rec : WT → Tree → Ws) (hex : WDoes 113 (fun p n => #[p, n]) (rec .expr)) : WDoes 126 (fun p n => #[p, n]) (operandW rec) := by
  intro lo B acc t v w ws hW hL hF he hlen
  obtain ⟨k, x, m, ln, co, ks⟩ := t
  obtain ⟨hFk, hFx, hFm0, hFm1, hFn, hFL⟩ := id hF
  simp only [operandW, kProgram, kGlobal, kFunc, kParam, kType, kNum, kBlock, kLocal, kIf, kElse, kWhile, kReturn, kAssert, kAssume, kAssign, kNondet, kResult, kCall, kName, kIndex, kBinary, kUnary, kCast, kTrue, kFalse, kVoid, Tree.kind, Tree.text, Tree.num, Tree.line, Tree.col, Tree.kids] at he
  cases hq3 : (k == [98, 105, 110, 97, 114, 121])
  case true =>
    simp only [hq3, Bool.true_or, Bool.or_true, Bool.true_and, if_true, reduceIte] at he
    obtain rfl : k = [98, 105, 110, 97, 114, 121] := by simpa using hq3
    clear hq3
    obtain ⟨ws1, wr1, hc1, hd1, hx1⟩ := catW_some he
    subst hx1
    clear he
    injection hc1 with hc1
    subst hc1
    obtain ⟨ws2, wr2, hc2, hd2, hx2⟩ := catW_some hd1
    subst hx2
    clear hd1
    injection hd2 with hd2
    subst hd2
    obtain ⟨q0, vc, hv, hvc, hvm⟩ := hL.shape
    simp only [Tree.kind, Tree.text, Tree.num, Tree.line, Tree.col, Tree.kids, List.length] at hv
    subst hv
    have S0 := Lib.hid (Sw.start hW hL)
    have HF := Lib.hid hF
    have HFL := Lib.hid hFL
    have HLEN := Lib.hid hlen
    have hBw := hW.lt
    have HFX := Lib.hid hFx
    have HFN := Lib.hid hFn
    clear hW hF hL hFL hlen hFk hFx hFn
    try simp only [nodeV, nodeC, Tree.kind, Tree.text, Tree.num, Tree.line, Tree.col, Tree.kids] at *

    go_enter Tryz.func126, Tryz.ntmps126
    obtain ⟨c0, c1, c2, c3, c4, c5⟩ := S0.out.cells
    have hszN := S0.out.lt
    go_wp2_with fail
    try clear c0 c1 c2 c3 c4 c5
    try clear hszN
    have H := put_lit (S := w.heap.size + 1) [[40]] S0.out.wr (by simp) (by simp) (by have := HLEN.out; (try simp only [List.length_append, List.length_cons, List.length_nil] at this ⊢); omega)
    simp only [strVs, List.map, List.length] at H
    refine H.mono ?_
    clear H
    rintro e w3 ⟨rfl, hW3, hK3⟩
    have S3 := Lib.hid (S0.out.call hW3 hK3)
    clear S0 hW3 hK3 
    have HC := Lib.hid (hex lo B (acc ++ [[40]]) (.mk [98, 105, 110, 97, 114, 121] x m ln co ks) _ _ ws2 S3.out.wr S3.out.li HF.out hc2 (by have := HLEN.out; (try simp only [List.length_append, List.length_cons, List.length_nil] at this ⊢); omega))
    try simp only [nodeV, Tree.kind, Tree.text, Tree.num, Tree.line, Tree.col, Tree.kids] at HC
    obtain ⟨c0, c1, c2, c3, c4, c5⟩ := S3.out.cells
    have hszN := S3.out.lt
    go_wp2_with fail
    try clear c0 c1 c2 c3 c4 c5
    try clear hszN
    refine (HC.out).mono ?_
    rintro e w4 ⟨rfl, hW4, hK4⟩
    have S4 := Lib.hid (S3.out.call hW4 hK4)
    clear S3 hW4 hK4 HC
    obtain ⟨c0, c1, c2, c3, c4, c5⟩ := S4.out.cells
    have hszN := S4.out.lt
    go_wp2_with fail
    try clear c0 c1 c2 c3 c4 c5
    try clear hszN
    have H := put_lit (S := w4.heap.size) [[41]] S4.out.wr (by simp) (by simp) (by have := HLEN.out; (try simp only [List.length_append, List.length_cons, List.length_nil] at this ⊢); omega)
    simp only [strVs, List.map, List.length] at H
    refine H.mono ?_
    clear H
    rintro e w5 ⟨rfl, hW5, hK5⟩
    have S5 := Lib.hid (S4.out.call hW5 hK5)
    clear S4 hW5 hK5 
    go_wp2
    first | go_end0 | refine bodyPost_ret (v := .tuple #[]) (by simp [results, Tryz.results126, go_sem]) rfl ?_
    exact ⟨rfl, by simpa [List.append_assoc, kProgram, kGlobal, kFunc, kParam, kType, kNum, kBlock, kLocal, kIf, kElse, kWhile, kReturn, kAssert, kAssume, kAssign, kNondet, kResult, kCall, kName, kIndex, kBinary, kUnary, kCast, kTrue, kFalse, kVoid] using S5.out.wr, S5.out.kp⟩
  case false =>
  simp only [hq3, Bool.false_or, Bool.or_false, Bool.false_eq_true, if_false, reduceIte] at he
  cases hq2 : (k == [117, 110, 97, 114, 121])
  case true =>
    simp only [hq2, Bool.true_or, Bool.or_true, Bool.true_and, if_true, reduceIte] at he
    obtain rfl : k = [117, 110, 97, 114, 121] := by simpa using hq2
    clear hq2
    obtain ⟨ws1, wr1, hc1, hd1, hx1⟩ := catW_some he
    subst hx1
    clear he
    injection hc1 with hc1
    subst hc1
    obtain ⟨ws2, wr2, hc2, hd2, hx2⟩ := catW_some hd1
    subst hx2
    clear hd1
    injection hd2 with hd2
    subst hd2
    obtain ⟨q0, vc, hv, hvc, hvm⟩ := hL.shape
    simp only [Tree.kind, Tree.text, Tree.num, Tree.line, Tree.col, Tree.kids, List.length] at hv
    subst hv
    have S0 := Lib.hid (Sw.start hW hL)
    have HF := Lib.hid hF
    have HFL := Lib.hid hFL
    have HLEN := Lib.hid hlen
    have hBw := hW.lt
    have HFX := Lib.hid hFx
    have HFN := Lib.hid hFn
    clear hW hF hL hFL hlen hFk hFx hFn
    try simp only [nodeV, nodeC, Tree.kind, Tree.text, Tree.num, Tree.line, Tree.col, Tree.kids] at *

    go_enter Tryz.func126, Tryz.ntmps126
    obtain ⟨c0, c1, c2, c3, c4, c5⟩ := S0.out.cells
    have hszN := S0.out.lt
    go_wp2_with fail
    try clear c0 c1 c2 c3 c4 c5
    try clear hszN
    have H := put_lit (S := w.heap.size + 1) [[40]] S0.out.wr (by simp) (by simp) (by have := HLEN.out; (try simp only [List.length_append, List.length_cons, List.length_nil] at this ⊢); omega)
    simp only [strVs, List.map, List.length] at H
    refine H.mono ?_
    clear H
    rintro e w3 ⟨rfl, hW3, hK3⟩
    have S3 := Lib.hid (S0.out.call hW3 hK3)
    clear S0 hW3 hK3 
    have HC := Lib.hid (hex lo B (acc ++ [[40]]) (.mk [117, 110, 97, 114, 121] x m ln co ks) _ _ ws2 S3.out.wr S3.out.li HF.out hc2 (by have := HLEN.out; (try simp only [List.length_append, List.length_cons, List.length_nil] at this ⊢); omega))
    try simp only [nodeV, Tree.kind, Tree.text, Tree.num, Tree.line, Tree.col, Tree.kids] at HC
    obtain ⟨c0, c1, c2, c3, c4, c5⟩ := S3.out.cells
    have hszN := S3.out.lt
    go_wp2_with fail
    try clear c0 c1 c2 c3 c4 c5
    try clear hszN
    refine (HC.out).mono ?_
    rintro e w4 ⟨rfl, hW4, hK4⟩
    have S4 := Lib.hid (S3.out.call hW4 hK4)
    clear S3 hW4 hK4 HC
    obtain ⟨c0, c1, c2, c3, c4, c5⟩ := S4.out.cells
    have hszN := S4.out.lt
    go_wp2_with fail
    try clear c0 c1 c2 c3 c4 c5
    try clear hszN
    have H := put_lit (S := w4.heap.size) [[41]] S4.out.wr (by simp) (by simp) (by have := HLEN.out; (try simp only [List.length_append, List.length_cons, List.length_nil] at this ⊢); omega)
    simp only [strVs, List.map, List.length] at H
    refine H.mono ?_
    clear H
    rintro e w5 ⟨rfl, hW5, hK5⟩
    have S5 := Lib.hid (S4.out.call hW5 hK5)
    clear S4 hW5 hK5 
    go_wp2
    first | go_end0 | refine bodyPost_ret (v := .tuple #[]) (by simp [results, Tryz.results126, go_sem]) rfl ?_
    exact ⟨rfl, by simpa [List.append_assoc, kProgram, kGlobal, kFunc, kParam, kType, kNum, kBlock, kLocal, kIf, kElse, kWhile, kReturn, kAssert, kAssume, kAssign, kNondet, kResult, kCall, kName, kIndex, kBinary, kUnary, kCast, kTrue, kFalse, kVoid] using S5.out.wr, S5.out.kp⟩
  case false =>
  simp only [hq2, Bool.false_or, Bool.or_false, Bool.false_eq_true, if_false, reduceIte] at he
  cases hq1 : (k == [99, 97, 115, 116])
  case true =>
    simp only [hq1, Bool.true_or, Bool.or_true, Bool.true_and, if_true, reduceIte] at he
    obtain rfl : k = [99, 97, 115, 116] := by simpa using hq1
    clear hq1
    obtain ⟨ws1, wr1, hc1, hd1, hx1⟩ := catW_some he
    subst hx1
    clear he
    injection hc1 with hc1
    subst hc1
    obtain ⟨ws2, wr2, hc2, hd2, hx2⟩ := catW_some hd1
    subst hx2
    clear hd1
    injection hd2 with hd2
    subst hd2
    obtain ⟨q0, vc, hv, hvc, hvm⟩ := hL.shape
    simp only [Tree.kind, Tree.text, Tree.num, Tree.line, Tree.col, Tree.kids, List.length] at hv
    subst hv
    have S0 := Lib.hid (Sw.start hW hL)
    have HF := Lib.hid hF
    have HFL := Lib.hid hFL
    have HLEN := Lib.hid hlen
    have hBw := hW.lt
    have HFX := Lib.hid hFx
    have HFN := Lib.hid hFn
    clear hW hF hL hFL hlen hFk hFx hFn
    try simp only [nodeV, nodeC, Tree.kind, Tree.text, Tree.num, Tree.line, Tree.col, Tree.kids] at *

    go_enter Tryz.func126, Tryz.ntmps126
    obtain ⟨c0, c1, c2, c3, c4, c5⟩ := S0.out.cells
    have hszN := S0.out.lt
    go_wp2_with fail
    try clear c0 c1 c2 c3 c4 c5
    try clear hszN
    have H := put_lit (S := w.heap.size + 1) [[40]] S0.out.wr (by simp) (by simp) (by have := HLEN.out; (try simp only [List.length_append, List.length_cons, List.length_nil] at this ⊢); omega)
    simp only [strVs, List.map, List.length] at H
    refine H.mono ?_
    clear H
    rintro e w3 ⟨rfl, hW3, hK3⟩
    have S3 := Lib.hid (S0.out.call hW3 hK3)
    clear S0 hW3 hK3 
    have HC := Lib.hid (hex lo B (acc ++ [[40]]) (.mk [99, 97, 115, 116] x m ln co ks) _ _ ws2 S3.out.wr S3.out.li HF.out hc2 (by have := HLEN.out; (try simp only [List.length_append, List.length_cons, List.length_nil] at this ⊢); omega))
    try simp only [nodeV, Tree.kind, Tree.text, Tree.num, Tree.line, Tree.col, Tree.kids] at HC
    obtain ⟨c0, c1, c2, c3, c4, c5⟩ := S3.out.cells
    have hszN := S3.out.lt
    go_wp2_with fail
    try clear c0 c1 c2 c3 c4 c5
    try clear hszN
    refine (HC.out).mono ?_
    rintro e w4 ⟨rfl, hW4, hK4⟩
    have S4 := Lib.hid (S3.out.call hW4 hK4)
    clear S3 hW4 hK4 HC
    obtain ⟨c0, c1, c2, c3, c4, c5⟩ := S4.out.cells
    have hszN := S4.out.lt
    go_wp2_with fail
    try clear c0 c1 c2 c3 c4 c5
    try clear hszN
    have H := put_lit (S := w4.heap.size) [[41]] S4.out.wr (by simp) (by simp) (by have := HLEN.out; (try simp only [List.length_append, List.length_cons, List.length_nil] at this ⊢); omega)
    simp only [strVs, List.map, List.length] at H
    refine H.mono ?_
    clear H
    rintro e w5 ⟨rfl, hW5, hK5⟩
    have S5 := Lib.hid (S4.out.call hW5 hK5)
    clear S4 hW5 hK5 
    go_wp2
    first | go_end0 | refine bodyPost_ret (v := .tuple #[]) (by simp [results, Tryz.results126, go_sem]) rfl ?_
    exact ⟨rfl, by simpa [List.append_assoc, kProgram, kGlobal, kFunc, kParam, kType, kNum, kBlock, kLocal, kIf, kElse, kWhile, kReturn, kAssert, kAssume, kAssign, kNondet, kResult, kCall, kName, kIndex, kBinary, kUnary, kCast, kTrue, kFalse, kVoid] using S5.out.wr, S5.out.kp⟩
  case false =>
  simp only [hq1, Bool.false_or, Bool.or_false, Bool.false_eq_true, if_false, reduceIte] at he
  obtain ⟨q0, vc, hv, hvc, hvm⟩ := hL.shape
  simp only [Tree.kind, Tree.text, Tree.num, Tree.line, Tree.col, Tree.kids, List.length] at hv
  subst hv
  have S0 := Lib.hid (Sw.start hW hL)
  have HF := Lib.hid hF
  have HFL := Lib.hid hFL
  have HLEN := Lib.hid hlen
  have hBw := hW.lt
  have HFX := Lib.hid hFx
  have HFN := Lib.hid hFn
  clear hW hF hL hFL hlen hFk hFx hFn
  try simp only [nodeV, nodeC, Tree.kind, Tree.text, Tree.num, Tree.line, Tree.col, Tree.kids] at *

  go_enter Tryz.func126, Tryz.ntmps126
  have HC := Lib.hid (hex lo B acc (.mk k x m ln co ks) _ _ ws S0.out.wr S0.out.li HF.out he (by have := HLEN.out; (try simp only [List.length_append, List.length_cons, List.length_nil] at this ⊢); omega))
  try simp only [nodeV, Tree.kind, Tree.text, Tree.num, Tree.line, Tree.col, Tree.kids] at HC
  obtain ⟨c0, c1, c2, c3, c4, c5⟩ := S0.out.cells
  have hszN := S0.out.lt
  go_wp2_with fail
  try clear c0 c1 c2 c3 c4 c5
  try clear hszN
  refine (HC.out).mono ?_
  rintro e w1 ⟨rfl, hW1, hK1⟩
  have S1 := Lib.hid (S0.out.call hW1 hK1)
  clear S0 hW1 hK1 HC
  go_wp2
  first | go_end0 | refine bodyPost_ret (v := .tuple #[]) (by simp [results, Tryz.results126, go_sem]) rfl ?_
  exact ⟨rfl, by simpa [List.append_assoc, kProgram, kGlobal, kFunc, kParam, kType, kNum, kBlock, kLocal, kIf, kElse, kWhile, kReturn, kAssert, kAssume, kAssign, kNondet, kResult, kCall, kName, kIndex, kBinary, kUnary, kCast, kTrue, kFalse, kVoid] using S1.out.wr, S1.out.kp⟩
end Go.Proofs.YtnalgnklgmoepaaGreatDoor
