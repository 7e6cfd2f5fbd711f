/- The contract of the document's Same. The contract of Deep. What the chapter's examples fix. The frame of the laws: the listed tables give what the walks ask; a law that returns true and leaves old memory alone meets its row. What each parameter's value is, opened: bytes and texts. What all the laws of this layer stand on. -/
import Derived.Test.YtnalgnklgmoepaaGreatDoorRows
import Derived.ProofKit
import Derived.LaidMore
import Derived.OpenShut
import Derived.Stop.Joined
import Derived.Deep.Slices
import Derived.Lib.SmallJoins
import Derived.Test.YtnalgnklgmoepaaGreatDoorMbaq
set_option linter.all false
namespace Go.Proofs.YtnalgnklgmoepaaGreatDoor
open Go Go.RowKit

set_option maxHeartbeats 8000000 in
set_option maxRecDepth 100000 in
theorem rsame_step (B : Nat) (a b : Tree) (va vb : Value) (w : World) (hB : B ≤ w.heap.size) (ha : Lies w (· < B) a va) (hb : Lies w (· < B) b vb)
    (hrec : ∀ t ∈ a.kids, ∀ (u : Tree) (v v' : Value) (w : World), B ≤ w.heap.size → Lies w (· < B) t v → Lies w (· < B) u v' → Calls Tryz.prog 12 #[nodeV t v, nodeV u v', .bool false] w (SamePost (sameT t u) w)) :
    Calls Tryz.prog 12 #[nodeV a va, nodeV b vb, .bool false] w (SamePost (sameT a b) w) := by
  obtain ⟨k, x, m, ln, co, ks⟩ := a
  obtain ⟨k', x', m', ln', co', ks'⟩ := b
  obtain ⟨q, c, rfl, hc, hcm, hka⟩ := ha.kids
  obtain ⟨q', c', rfl, hc', hcm', hkb⟩ := hb.kids
  simp only [Tree.kids] at *
  have h2 : Below w.heap.size w ((w.alloc (.cells (nodeC (.mk k x m ln co ks) (.slice q ks.length c)).toArray 26)).alloc (.cells (nodeC (.mk k' x' m' ln' co' ks') (.slice q' ks'.length c')).toArray 26)) := ((Below.refl _ _).alloc (Nat.le_refl _) _).alloc (by simp) _
  have N0 : Hn w.heap.size (.mk k x m ln co ks) (.slice q ks.length c) ((w.alloc (.cells (nodeC (.mk k x m ln co ks) (.slice q ks.length c)).toArray 26)).alloc (.cells (nodeC (.mk k' x' m' ln' co' ks') (.slice q' ks'.length c')).toArray 26)) := (Hn.new _ _ _).below ((Below.refl _ _).alloc (Nat.le_refl _) _)
  have N1 : Hn (w.heap.size + 1) (.mk k' x' m' ln' co' ks') (.slice q' ks'.length c') ((w.alloc (.cells (nodeC (.mk k x m ln co ks) (.slice q ks.length c)).toArray 26)).alloc (.cells (nodeC (.mk k' x' m' ln' co' ks') (.slice q' ks'.length c')).toArray 26)) := by
    have := Hn.new (.mk k' x' m' ln' co' ks') (.slice q' ks'.length c') (w.alloc (.cells (nodeC (.mk k x m ln co ks) (.slice q ks.length c)).toArray 26))
    rw [World.size_alloc] at this
    exact this
  have HA := Lib.hid hka
  have HB := Lib.hid hkb
  have H2 := Lib.hid h2
  have HR := Lib.hid hrec
  have N0 := Lib.hid N0
  have N1 := Lib.hid N1
  have hst : sameT (.mk k x m ln co ks) (.mk k' x' m' ln' co' ks') = (k == k' && (x == x' && (m == m' && sameL ks ks'))) := rfl
  rw [hst]
  clear h2 ha hb hka hkb hrec hst
  have hm1 : ks.length ≤ 9223372036854775807 := by unfold maxLen at hcm; omega
  have hm2 : ks'.length ≤ 9223372036854775807 := by unfold maxLen at hcm'; omega
  clear hcm hcm' hc hc'
  unfold SamePost at *
  simp only [nodeC, nodeV, Tree.kind, Tree.text, Tree.num, Tree.line, Tree.col] at *
  cases e1 : (k == k')
  case false =>
    go_enter Tryz.func12, Tryz.ntmps12
    go_wp2
    go_ret
    exact ⟨rfl, H2.out⟩
  case true =>
  cases e2 : (x == x')
  case false =>
    go_enter Tryz.func12, Tryz.ntmps12
    go_wp2
    go_ret
    exact ⟨rfl, H2.out⟩
  case true =>
  cases e3 : (m == m')
  case false =>
    have e3b : (m != m') = true := by simp [bne, e3]
    go_enter Tryz.func12, Tryz.ntmps12
    go_wp2
    go_ret
    exact ⟨rfl, H2.out⟩
  case true =>
  have e3b : (m != m') = false := by simp [bne, e3]
  by_cases hl : ks.length = ks'.length
  case neg =>
    have hlb : (((ks.length : Nat) : Int) != ((ks'.length : Nat) : Int)) = true := by simp; omega
    have hs : sameL ks ks' = false := by
      cases h : sameL ks ks'
      · rfl
      · exact absurd (sameL_len ks ks' h) hl
    rw [hs]
    clear hl
    go_enter Tryz.func12, Tryz.ntmps12
    go_wp2
    go_ret
    exact ⟨rfl, H2.out⟩
  case pos =>
    have HL := Lib.hid hl
    rw [← hl] at N0 N1 H2 ⊢
    have hlb : (((ks.length : Nat) : Int) != ((ks.length : Nat) : Int)) = false := by simp
    clear hl hm2
    go_enter Tryz.func12, Tryz.ntmps12
    go_wp2_with fail
    go_loopw [7] (fun i wr => ∃ n : Nat, n ≤ ks.length ∧ i = .int .i64 n ∧ sameL (ks.drop n) (ks'.drop n) = sameL ks ks' ∧ Below (w.heap.size + 1 + 1) ((w.alloc (.cells #[.string ⟨k.toArray⟩, .string ⟨x.toArray⟩, .int .u64 m, .int .i64 ln, .int .i64 co, .slice q ks.length c] 26)).alloc (.cells #[.string ⟨k'.toArray⟩, .string ⟨x'.toArray⟩, .int .u64 m', .int .i64 ln', .int .i64 co', .slice q' ks.length c'] 26)) wr) (fun i _ => ks.length - (intOf i).toNat)
    case atStart => exact ⟨0, Nat.zero_le _, rfl, by simp, Below.refl _ _⟩
    case round =>
      obtain ⟨i, hi, rfl, hs, hb⟩ := hrel
      have M0 : Hn w.heap.size _ _ wr := (hb.block _ (by omega)).trans N0.out
      have M1 : Hn (w.heap.size + 1) _ _ wr := (hb.block _ (by omega)).trans N1.out
      have HBW := Lib.hid (H2.out.trans (hb.mono (by omega)))
      have HS := Lib.hid hs
      obtain ⟨c0, c1, c2, c3, c4, c5⟩ := M0.cells
      obtain ⟨d0, d1, d2, d3, d4, d5⟩ := M1.cells
      have hsz := M1.lt
      clear hs c0 c1 c2 c3 c4 d0 d1 d2 d3 d4 M0 M1
      by_cases hlt : i < ks.length
      · have hlt' : i < ks'.length := by have := HL.out; omega
        obtain ⟨g, off, rfl, hR1⟩ := (HA.out.keep (HBW.out.mono hB)).resolve_left (fun e => by rw [e] at hlt; simp at hlt)
        obtain ⟨g', off', rfl, hR2⟩ := (HB.out.keep (HBW.out.mono hB)).resolve_left (fun e => by rw [e] at hlt'; simp at hlt')
        obtain ⟨qa, na, ca, hla, hca⟩ := hR1.2 i hlt
        obtain ⟨qb, nb, cb, hlb2, hcb⟩ := hR2.2 i hlt'
        have hstep := sameL_at hlt hlt'
        have HST := Lib.hid hstep
        have HC := Lib.hid (HR.out ks[i] (List.getElem_mem _) ks'[i] (.slice qa na ca) (.slice qb nb cb))
        have hlA := Lib.hid hla
        have hlB := Lib.hid hlb2
        have hbs : B ≤ wr.heap.size := by have := HBW.out.size; omega
        have hgr : g < wr.heap.size := by have := hR1.1; omega
        have hgr' : g' < wr.heap.size := by have := hR2.1; omega
        have hi2 : (0 : Int) ≤ (i : Int) := by omega
        have hi3 : (i : Int) < (ks.length : Int) := by omega
        clear hstep hla hlb2 hR1 hR2
        generalize ks[i] = t at *
        generalize ks'[i] = u at *
        go_wp2_with fail
        have hf : (fun w' => w'.cell? ⟨w.heap.size, 5, none⟩ = some (.slice (some ⟨g, off, none⟩) ks.length c) ∧ w'.cell? ⟨w.heap.size + 1, 5, none⟩ = some (.slice (some ⟨g', off', none⟩) ks.length c') ∧ w'.cell? ⟨g, off + i * 6, none⟩ = some (.string ⟨t.kind.toArray⟩) ∧ w'.cell? ⟨g, off + i * 6 + 1, none⟩ = some (.string ⟨t.text.toArray⟩) ∧ w'.cell? ⟨g, off + i * 6 + 2, none⟩ = some (.int .u64 t.num) ∧ w'.cell? ⟨g, off + i * 6 + 3, none⟩ = some (.int .i64 t.line) ∧ w'.cell? ⟨g, off + i * 6 + 4, none⟩ = some (.int .i64 t.col) ∧ w'.cell? ⟨g, off + i * 6 + 5, none⟩ = some (.slice qa na ca) ∧ w'.cell? ⟨g', off' + i * 6, none⟩ = some (.string ⟨u.kind.toArray⟩) ∧ w'.cell? ⟨g', off' + i * 6 + 1, none⟩ = some (.string ⟨u.text.toArray⟩) ∧ w'.cell? ⟨g', off' + i * 6 + 2, none⟩ = some (.int .u64 u.num) ∧ w'.cell? ⟨g', off' + i * 6 + 3, none⟩ = some (.int .i64 u.line) ∧ w'.cell? ⟨g', off' + i * 6 + 4, none⟩ = some (.int .i64 u.col) ∧ w'.cell? ⟨g', off' + i * 6 + 5, none⟩ = some (.slice qb nb cb) ∧ Below wr.heap.size wr w') wr.drew := ⟨c5, d5, hca.c0, hca.c1, hca.c2, hca.c3, hca.c4, hca.c5, hcb.c0, hcb.c1, hcb.c2, hcb.c3, hcb.c4, hcb.c5, (Below.refl _ _).drew⟩
        have HF0 := Lib.hid hf
        clear hf c5 d5 hca hcb
        refine wp_region_T (S := fun w' => w'.cell? ⟨w.heap.size, 5, none⟩ = some (.slice (some ⟨g, off, none⟩) ks.length c) ∧ w'.cell? ⟨w.heap.size + 1, 5, none⟩ = some (.slice (some ⟨g', off', none⟩) ks.length c') ∧ w'.cell? ⟨g, off + i * 6, none⟩ = some (.string ⟨t.kind.toArray⟩) ∧ w'.cell? ⟨g, off + i * 6 + 1, none⟩ = some (.string ⟨t.text.toArray⟩) ∧ w'.cell? ⟨g, off + i * 6 + 2, none⟩ = some (.int .u64 t.num) ∧ w'.cell? ⟨g, off + i * 6 + 3, none⟩ = some (.int .i64 t.line) ∧ w'.cell? ⟨g, off + i * 6 + 4, none⟩ = some (.int .i64 t.col) ∧ w'.cell? ⟨g, off + i * 6 + 5, none⟩ = some (.slice qa na ca) ∧ w'.cell? ⟨g', off' + i * 6, none⟩ = some (.string ⟨u.kind.toArray⟩) ∧ w'.cell? ⟨g', off' + i * 6 + 1, none⟩ = some (.string ⟨u.text.toArray⟩) ∧ w'.cell? ⟨g', off' + i * 6 + 2, none⟩ = some (.int .u64 u.num) ∧ w'.cell? ⟨g', off' + i * 6 + 3, none⟩ = some (.int .i64 u.line) ∧ w'.cell? ⟨g', off' + i * 6 + 4, none⟩ = some (.int .i64 u.col) ∧ w'.cell? ⟨g', off' + i * 6 + 5, none⟩ = some (.slice qb nb cb) ∧ Below wr.heap.size wr w') (tail := fun i => decide (11 ≤ i)) (by kernel_rfl) ?_
        change wpAnyT _ _ _ _ _ _ _ _ _ (World.drew _)
        refine wpAnyT_take (i := 0) (d := 60) (v := .pointer (some ⟨w.heap.size, 5, none⟩)) rfl rfl (by kernel_rfl) (fun _ _ _ h => h) (by rfl) ?y0 HF0.out ?_
        case y0 =>
          intro w' hw'
          obtain ⟨c5, d5, k0, k1, k2, k3, k4, k5, j0, j1, j2, j3, j4, j5, hlr⟩ := hw'
          clear HF0
          go_simp
        try simp only [Act.put, List.setIfInBounds_toArray, List.set_cons_zero, List.set_cons_succ]
        refine wpAnyT_take (i := 1) (d := 61) (v := .slice (some ⟨g, off, none⟩) ks.length c) rfl rfl (by kernel_rfl) (fun _ _ _ h => h) (by rfl) ?y1 HF0.out ?_
        case y1 =>
          intro w' hw'
          obtain ⟨c5, d5, k0, k1, k2, k3, k4, k5, j0, j1, j2, j3, j4, j5, hlr⟩ := hw'
          clear HF0
          go_simp
        try simp only [Act.put, List.setIfInBounds_toArray, List.set_cons_zero, List.set_cons_succ]
        refine wpAnyT_take (i := 2) (d := 62) (v := .int .i64 i) rfl rfl (by kernel_rfl) (fun _ _ _ h => h) (by rfl) ?y2 HF0.out ?_
        case y2 =>
          intro w' hw'
          obtain ⟨c5, d5, k0, k1, k2, k3, k4, k5, j0, j1, j2, j3, j4, j5, hlr⟩ := hw'
          clear HF0
          go_simp
        try simp only [Act.put, List.setIfInBounds_toArray, List.set_cons_zero, List.set_cons_succ]
        refine wpAnyT_take (i := 3) (d := 63) (v := .pointer (some ⟨g, off + i * 6, none⟩)) rfl rfl (by kernel_rfl) (fun _ _ _ h => h) (by rfl) ?y3 HF0.out ?_
        case y3 =>
          intro w' hw'
          obtain ⟨c5, d5, k0, k1, k2, k3, k4, k5, j0, j1, j2, j3, j4, j5, hlr⟩ := hw'
          clear HF0
          go_simp
        try simp only [Act.put, List.setIfInBounds_toArray, List.set_cons_zero, List.set_cons_succ]
        refine wpAnyT_take (i := 4) (d := 64) (v := .agg #[.string ⟨t.kind.toArray⟩, .string ⟨t.text.toArray⟩, .int .u64 t.num, .int .i64 t.line, .int .i64 t.col, (.slice qa na ca)]) rfl rfl (by kernel_rfl) (fun _ _ _ h => h) (by rfl) ?y4 HF0.out ?_
        case y4 =>
          intro w' hw'
          obtain ⟨c5, d5, k0, k1, k2, k3, k4, k5, j0, j1, j2, j3, j4, j5, hlr⟩ := hw'
          clear HF0
          go_simp
        try simp only [Act.put, List.setIfInBounds_toArray, List.set_cons_zero, List.set_cons_succ]
        refine wpAnyT_take (i := 5) (d := 65) (v := .pointer (some ⟨w.heap.size + 1, 5, none⟩)) rfl rfl (by kernel_rfl) (fun _ _ _ h => h) (by rfl) ?y5 HF0.out ?_
        case y5 =>
          intro w' hw'
          obtain ⟨c5, d5, k0, k1, k2, k3, k4, k5, j0, j1, j2, j3, j4, j5, hlr⟩ := hw'
          clear HF0
          go_simp
        try simp only [Act.put, List.setIfInBounds_toArray, List.set_cons_zero, List.set_cons_succ]
        refine wpAnyT_take (i := 6) (d := 66) (v := .slice (some ⟨g', off', none⟩) ks.length c') rfl rfl (by kernel_rfl) (fun _ _ _ h => h) (by rfl) ?y6 HF0.out ?_
        case y6 =>
          intro w' hw'
          obtain ⟨c5, d5, k0, k1, k2, k3, k4, k5, j0, j1, j2, j3, j4, j5, hlr⟩ := hw'
          clear HF0
          go_simp
        try simp only [Act.put, List.setIfInBounds_toArray, List.set_cons_zero, List.set_cons_succ]
        refine wpAnyT_take (i := 7) (d := 67) (v := .int .i64 i) rfl rfl (by kernel_rfl) (fun _ _ _ h => h) (by rfl) ?y7 HF0.out ?_
        case y7 =>
          intro w' hw'
          obtain ⟨c5, d5, k0, k1, k2, k3, k4, k5, j0, j1, j2, j3, j4, j5, hlr⟩ := hw'
          clear HF0
          go_simp
        try simp only [Act.put, List.setIfInBounds_toArray, List.set_cons_zero, List.set_cons_succ]
        refine wpAnyT_take (i := 8) (d := 68) (v := .pointer (some ⟨g', off' + i * 6, none⟩)) rfl rfl (by kernel_rfl) (fun _ _ _ h => h) (by rfl) ?y8 HF0.out ?_
        case y8 =>
          intro w' hw'
          obtain ⟨c5, d5, k0, k1, k2, k3, k4, k5, j0, j1, j2, j3, j4, j5, hlr⟩ := hw'
          clear HF0
          go_simp
        try simp only [Act.put, List.setIfInBounds_toArray, List.set_cons_zero, List.set_cons_succ]
        refine wpAnyT_take (i := 9) (d := 69) (v := .agg #[.string ⟨u.kind.toArray⟩, .string ⟨u.text.toArray⟩, .int .u64 u.num, .int .i64 u.line, .int .i64 u.col, (.slice qb nb cb)]) rfl rfl (by kernel_rfl) (fun _ _ _ h => h) (by rfl) ?y9 HF0.out ?_
        case y9 =>
          intro w' hw'
          obtain ⟨c5, d5, k0, k1, k2, k3, k4, k5, j0, j1, j2, j3, j4, j5, hlr⟩ := hw'
          clear HF0
          go_simp
        try simp only [Act.put, List.setIfInBounds_toArray, List.set_cons_zero, List.set_cons_succ]
        refine wpAnyT_take (i := 10) (d := 70) (v := .bool false) rfl rfl (by kernel_rfl) (fun _ _ _ h => h) (by rfl) ?y10 HF0.out ?_
        case y10 =>
          intro w' hw'
          obtain ⟨c5, d5, k0, k1, k2, k3, k4, k5, j0, j1, j2, j3, j4, j5, hlr⟩ := hw'
          clear HF0
          go_simp
        try simp only [Act.put, List.setIfInBounds_toArray, List.set_cons_zero, List.set_cons_succ]
        refine wpAnyT_one (i := 11) rfl (by kernel_rfl) (by rfl) (fun K hK => ?_)
        go_simp
        have hq := HC.out wr.drew (Nat.le_trans hbs (Nat.le_refl _)) (hlA.out.keep ((Below.refl _ _).drew)) (hlB.out.keep ((Below.refl _ _).drew))
        refine hq.mono ?_
        rintro e w3 ⟨rfl, hb3⟩
        refine hK.out _ _ (fun h => absurd h (by decide)) ?_
        clear hK K
        try simp only [Act.put, List.setIfInBounds_toArray, List.set_cons_zero, List.set_cons_succ]
        refine wpAnyT_one (i := 12) rfl (by kernel_rfl) (by rfl) (fun K hK => ?_)
        go_simp
        refine hK.out _ _ (fun h => absurd h (by decide)) ?_
        clear hK K hq
        try simp only [Act.put, List.setIfInBounds_toArray, List.set_cons_zero, List.set_cons_succ]
        refine wpAnyT_done (by kernel_rfl) ?_ _
        have hb4 : Below (w.heap.size + 1 + 1) _ w3 := hb.trans ((((Below.refl wr.heap.size wr).drew).trans hb3).mono (by have := hb.size; simpa using this))
        have HB4 := Lib.hid hb4
        have HBW4 := Lib.hid (HBW.out.trans (((Below.refl wr.heap.size wr).drew.trans hb3).mono HBW.out.size))
        clear hb hb3 hb4 HF0
        cases hst : sameT t u
        · go_wp2
          go_ret
          refine ⟨?_, HBW4.out⟩
          rw [← HS.out, HST.out, hst]; rfl
        · go_wp2
          go_roundw
          case rel => exact ⟨i + 1, by omega, by go_num, by rw [← HS.out, HST.out, hst, Bool.true_and], HB4.out⟩
          case measure => simp [intOf]; omega
      · have hend := sameL_end hlt HL.out
        go_wp2
        go_ret
        refine ⟨?_, HBW.out⟩
        rw [← HS.out, hend]
        rfl
/-- THE DOCUMENT'S SAME, places apart, of any two trees. -/
theorem rsame_any (B : Nat) : ∀ (n : Nat) (a : Tree), SizeOf.sizeOf a < n → ∀ (b : Tree) (va vb : Value) (w : World), B ≤ w.heap.size → Lies w (· < B) a va → Lies w (· < B) b vb → Calls Tryz.prog 12 #[nodeV a va, nodeV b vb, .bool false] w (SamePost (sameT a b) w) := by
  intro n
  induction n with
  | zero => intro a h; omega
  | succ n ih =>
    intro a h b va vb w hB ha hb
    refine rsame_step B a b va vb w hB ha hb fun t ht u v v' w1 h1 h2 h3 => ih t ?_ u v v' w1 h1 h2 h3
    obtain ⟨k, x, m, ln, co, ks⟩ := a
    have := kid_size (t := t) (ks := ks) ht k x m ln co
    omega
end Go.Proofs.YtnalgnklgmoepaaGreatDoor
namespace Go.Proofs.YtnalgnklgmoepaaGreatDoor
open Go Go.RowKit

theorem deepL_le : ∀ (ts : List Tree) (m : Nat), m ≤ deepL m ts
  | [], m => by rw [deepL]; exact Nat.le_refl _
  | t :: ts, m => by
    rw [deepL]
    exact Nat.le_trans (Nat.le_max_left _ _) (deepL_le ts _)
theorem deepL_mono : ∀ (ts : List Tree) (m m' : Nat), m ≤ m' → deepL m ts ≤ deepL m' ts
  | [], m, m', h => by rw [deepL, deepL]; exact h
  | t :: ts, m, m', h => by
    rw [deepL, deepL]
    exact deepL_mono ts _ _ (by omega)
theorem deep_kid : ∀ {ts : List Tree} {t : Tree} (_ : t ∈ ts) (m : Nat), deepT t ≤ deepL m ts
  | u :: ts, t, h, m => by
    rw [deepL]
    rcases List.mem_cons.1 h with rfl | h
    · exact Nat.le_trans (Nat.le_max_right _ _) (deepL_le ts _)
    · exact deep_kid h _
  | [], _, h, _ => by simp at h
theorem deepL_at {ts : List Tree} {i : Nat} (h : i < ts.length) (m : Nat) : deepL m (ts.drop i) = deepL (max m (deepT ts[i])) (ts.drop (i + 1)) := by
  rw [List.drop_eq_getElem_cons h, deepL]
theorem deepL_end {ts : List Tree} {i : Nat} (h : ¬ i < ts.length) (m : Nat) : deepL m (ts.drop i) = m := by
  rw [List.drop_eq_nil_of_le (by omega), deepL]

set_option maxHeartbeats 4000000 in
set_option maxRecDepth 100000 in
theorem deep_step (B : Nat) (a : Tree) (va : Value) (w : World) (hB : B ≤ w.heap.size) (ha : Lies w (· < B) a va) (hd : deepT a ≤ 1000000000)
    (hrec : ∀ t ∈ a.kids, ∀ (v : Value) (w : World), B ≤ w.heap.size → Lies w (· < B) t v → deepT t ≤ 1000000000 → Calls Tryz.prog 10 #[nodeV t v] w fun e w' => e = .returned (.int .i64 (deepT t)) ∧ Below w.heap.size w w') :
    Calls Tryz.prog 10 #[nodeV a va] w fun e w' => e = .returned (.int .i64 (deepT a)) ∧ Below w.heap.size w w' := by
  obtain ⟨k, x, m, ln, co, ks⟩ := a
  obtain ⟨q, c, rfl, hc, hcm, hka⟩ := ha.kids
  simp only [Tree.kids] at *
  have h2 : Below w.heap.size w (w.alloc (.cells (nodeC (.mk k x m ln co ks) (.slice q ks.length c)).toArray 26)) := (Below.refl _ _).alloc (Nat.le_refl _) _
  have HA := Lib.hid hka
  have H2 := Lib.hid h2
  have HR := Lib.hid hrec
  have hm1 : ks.length ≤ 9223372036854775807 := by unfold maxLen at hcm; omega
  have hdd : deepL 0 ks + 1 ≤ 1000000000 := by rw [deepT] at hd; exact hd
  have hdt : deepT (.mk k x m ln co ks) = deepL 0 ks + 1 := by rw [deepT]
  rw [hdt]
  clear h2 ha hka hrec hc hcm hd hdt
  simp only [nodeC, nodeV, Tree.kind, Tree.text, Tree.num, Tree.line, Tree.col] at *
  go_enter Tryz.func10, Tryz.ntmps10
  go_wp2_with fail
  go_loopw [3, 9] (fun d i wr => ∃ n dn : Nat, n ≤ ks.length ∧ i = .int .i64 n ∧ d = .int .i64 dn ∧ deepL dn (ks.drop n) = deepL 0 ks ∧ Below w.heap.size w wr) (fun _ i _ => ks.length - (intOf i).toNat)
  case atStart => exact ⟨0, 0, Nat.zero_le _, rfl, rfl, by simp, H2.out⟩
  case round =>
    obtain ⟨i, dn, hi, rfl, rfl, hs, hb⟩ := hrel
    have HS := Lib.hid hs
    have HBW := Lib.hid hb
    have hdn : dn ≤ deepL 0 ks := by rw [← hs]; exact deepL_le _ _
    clear hs hb
    by_cases hlt : i < ks.length
    · obtain ⟨g, off, rfl, hR1⟩ := (HA.out.keep (HBW.out.mono hB)).resolve_left (fun e => by rw [e] at hlt; simp at hlt)
      obtain ⟨qa, na, ca, hla, hca⟩ := hR1.2 i hlt
      have hbs : B ≤ wr.heap.size := by have := HBW.out.size; omega
      have hb2 : Below wr.heap.size wr (wr.alloc (.cells (nodeC ks[i] (.slice qa na ca)).toArray 26)) := (Below.refl _ _).alloc (Nat.le_refl _) _
      have hkd : deepT ks[i] ≤ deepL 0 ks := deep_kid (List.getElem_mem _) 0
      have HC := Lib.hid (HR.out ks[i] (List.getElem_mem _) (.slice qa na ca) _ (Nat.le_trans hbs hb2.size) (hla.keep (hb2.mono hbs)) (by omega))
      have k0 := hca.c0; have k1 := hca.c1; have k2 := hca.c2; have k3 := hca.c3; have k4 := hca.c4; have k5 := hca.c5
      have hstep := deepL_at hlt dn
      have HST := Lib.hid hstep
      have HB2 := Lib.hid hb2
      clear hstep hla hca hR1 hb2
      generalize ks[i] = t at *
      generalize deepT t = dt at *
      simp only [nodeC, nodeV] at *
      go_wp2_with fail
      refine (HC.out).mono ?_
      rintro e w3 ⟨rfl, hb3⟩
      have hb4 := HBW.out.trans ((HB2.out.trans (hb3.mono HB2.out.size)).mono HBW.out.size)
      have HB4 := Lib.hid hb4
      clear hb3 hb4 HB2 HBW HC k0 k1 k2 k3 k4 k5
      go_wp2
      go_roundw
      case rel => exact ⟨i + 1, max dn dt, by omega, by go_num, by simp; omega, by rw [← HST.out]; exact HS.out, HB4.out⟩
      case measure => simp [intOf]; omega
    · have hend := deepL_end hlt dn
      have hdq : deepL 0 ks = dn := by rw [← HS.out]; exact hend
      have hw : wrap64 ((dn : Int) + 1) = dn + 1 := by unfold wrap64; omega
      go_wp2
      go_ret
      exact ⟨by rw [hdq]; simp, HBW.out⟩
/-- DEEP, of any tree that is not deeper than a billion. -/
theorem deep_any (B : Nat) : ∀ (n : Nat) (a : Tree), SizeOf.sizeOf a < n → ∀ (va : Value) (w : World), B ≤ w.heap.size → Lies w (· < B) a va → deepT a ≤ 1000000000 → Calls Tryz.prog 10 #[nodeV a va] w fun e w' => e = .returned (.int .i64 (deepT a)) ∧ Below w.heap.size w w' := by
  intro n
  induction n with
  | zero => intro a h; omega
  | succ n ih =>
    intro a h va w hB ha hd
    refine deep_step B a va w hB ha hd fun t ht v w1 h1 h2 h3 => ih t ?_ v w1 h1 h2 h3
    obtain ⟨k, x, m, ln, co, ks⟩ := a
    have := kid_size (t := t) (ks := ks) ht k x m ln co
    omega
end Go.Proofs.YtnalgnklgmoepaaGreatDoor
namespace Go.Proofs.YtnalgnklgmoepaaGreatDoor
open Go Go.RowKit

def exStar : Tree := .mk kBinary [42] 0 1 28 [.mk kNum [] 1 1 26 [], .mk kNum [] 2 1 30 []]
def exPlus : Tree := .mk kBinary [43] 0 1 24 [.mk kName [120] 0 1 22 [], exStar]
def exS : Tree := .mk kAssign [] 0 1 18 [.mk kName [120] 0 1 18 [], exPlus]
def exBlock : Tree := .mk kBlock [] 0 1 16 [exS]
def exFunc : Tree := .mk kFunc [102] 0 1 7 [.mk kType kVoid 0 1 7 [], exBlock]
def exGlob : Tree := .mk kGlobal [120] 0 1 1 [.mk kType [117, 56] 0 1 1 []]
def exT : Tree := .mk kProgram [] 0 1 1 [exGlob, exFunc]
def exEnd : List Tok := [⟨3, [], 0, 1, 34⟩]
theorem ex_r1 : readP 200000 exR1 = .ok exT exEnd := by kernel_rfl
theorem ex_r2 : readP 200000 exR2 = .bad 1 5 30 := by kernel_rfl
theorem ex_rl1 : readL exR1 = .ok exT exEnd := by rw [readL, if_pos (by decide), ex_r1]
theorem ex_rl2 : readL exR2 = .bad 1 5 30 := by rw [readL, if_pos (by decide), ex_r2]
def exW : List (List UInt8) := [[117, 56], [120], [59], [118, 111, 105, 100], [102], [40], [41], [123], [120], [61], [120], [43], [40], [49], [42], [50], [41], [59], [125]]
theorem ex_w : programW 200000 exT = some exW := by kernel_rfl
theorem ex_same : sameT exT exT = true := by kernel_rfl
theorem ex_deep : deepT exS = 4 := by kernel_rfl
theorem ex_neat : Neat exT := by
  simp [exT, exGlob, exFunc, exBlock, exS, exPlus, exStar, Neat, NeatL, kProgram, kGlobal, kType, kFunc, kVoid, kBlock, kAssign, kName, kBinary, kNum]
/-- The cells of the example's tree that are looked at. -/
structure ExC (g0 g1 g2 g3 g4 c1 c2 c3 c4 : Nat) (v4 v5 : Value) (w : World) : Prop where
  a : w.cell? ⟨g0, 11, none⟩ = some (.slice (some ⟨g1, 0, none⟩) 2 c1)
  b : w.cell? ⟨g1, 11, none⟩ = some (.slice (some ⟨g2, 0, none⟩) 1 c2)
  s0 : w.cell? ⟨g2, 0, none⟩ = some (.string ⟨#[97, 115, 115, 105, 103, 110]⟩)
  s1 : w.cell? ⟨g2, 1, none⟩ = some (.string ⟨#[]⟩)
  s2 : w.cell? ⟨g2, 2, none⟩ = some (.int .u64 0)
  s3 : w.cell? ⟨g2, 3, none⟩ = some (.int .i64 1)
  s4 : w.cell? ⟨g2, 4, none⟩ = some (.int .i64 18)
  s5 : w.cell? ⟨g2, 5, none⟩ = some (.slice (some ⟨g3, 0, none⟩) 2 c3)
  p1 : w.cell? ⟨g3, 7, none⟩ = some (.string ⟨#[43]⟩)
  p5 : w.cell? ⟨g3, 11, none⟩ = some (.slice (some ⟨g4, 0, none⟩) 2 c4)
  q1 : w.cell? ⟨g4, 7, none⟩ = some (.string ⟨#[42]⟩)
theorem ExC.below {g0 g1 g2 g3 g4 c1 c2 c3 c4 : Nat} {v4 v5 : Value} {w w' : World} (h : ExC g0 g1 g2 g3 g4 c1 c2 c3 c4 v4 v5 w) (hb : Below w.heap.size w w') : ExC g0 g1 g2 g3 g4 c1 c2 c3 c4 v4 v5 w' :=
  ⟨(hb.cell (cell_lt h.a)).trans h.a, (hb.cell (cell_lt h.b)).trans h.b, (hb.cell (cell_lt h.s0)).trans h.s0, (hb.cell (cell_lt h.s1)).trans h.s1, (hb.cell (cell_lt h.s2)).trans h.s2, (hb.cell (cell_lt h.s3)).trans h.s3, (hb.cell (cell_lt h.s4)).trans h.s4, (hb.cell (cell_lt h.s5)).trans h.s5, (hb.cell (cell_lt h.p1)).trans h.p1, (hb.cell (cell_lt h.p5)).trans h.p5, (hb.cell (cell_lt h.q1)).trans h.q1⟩
theorem slice_eq {q q' : Option Addr} {n n' c c' : Nat} (h : Value.slice q n c = .slice q' n' c') : q = q' ∧ n = n' ∧ c = c' := by injection h with h1 h2 h3; exact ⟨h1, h2, h3⟩
theorem ex_cells {B : Nat} {v : Value} {w : World} (h : Lies w (· < B) exT v) : ∃ g0 c0 g1 g2 g3 g4 c1 c2 c3 c4, v = .slice (some ⟨g0, 0, none⟩) 2 c0 ∧ ExC g0 g1 g2 g3 g4 c1 c2 c3 c4 v v w ∧ Lies w (· < B) exS (.slice (some ⟨g3, 0, none⟩) 2 c3) := by
  obtain ⟨g0, c0, rfl, R0⟩ := h.row (by simp [exT, Tree.kids])
  obtain ⟨q1, n1, c1, L1, C1⟩ := R0.2 1 (by decide)
  obtain ⟨g1, c1', e1, R1⟩ := L1.row (by simp [exT, exFunc, Tree.kids])
  obtain ⟨rfl, rfl, rfl⟩ := slice_eq e1
  obtain ⟨q2, n2, c2, L2, C2⟩ := R1.2 1 (by decide)
  obtain ⟨g2, c2', e2, R2⟩ := L2.row (by simp [exT, exFunc, exBlock, Tree.kids])
  obtain ⟨rfl, rfl, rfl⟩ := slice_eq e2
  obtain ⟨q3, n3, c3, L3, C3⟩ := R2.2 0 (by decide)
  obtain ⟨g3, c3', e3, R3⟩ := L3.row (by simp [exT, exFunc, exBlock, exS, Tree.kids])
  obtain ⟨rfl, rfl, rfl⟩ := slice_eq e3
  obtain ⟨q4, n4, c4, L4, C4⟩ := R3.2 1 (by decide)
  obtain ⟨g4, c4', e4, R4⟩ := L4.row (by simp [exT, exFunc, exBlock, exS, exPlus, Tree.kids])
  obtain ⟨rfl, rfl, rfl⟩ := slice_eq e4
  obtain ⟨q5, n5, c5, L5, C5⟩ := R4.2 1 (by decide)
  exact ⟨g0, c0, g1, g2, g3, g4, c1, c2, c3, c4, rfl, ⟨C1.c5, C2.c5, C3.c0, C3.c1, C3.c2, C3.c3, C3.c4, C3.c5, C4.c1, C4.c5, C5.c1⟩, L3⟩

set_option maxHeartbeats 8000000 in
set_option maxRecDepth 100000 in
theorem awake_any (w : World) (h4 : Tab4 w) : Calls Tryz.prog 7 #[] w fun e w' => e = .returned (.bool true) ∧ Below w.heap.size w w' := by
  have H1 := Lib.hid (read_all ⟨#[117, 56, 32, 120, 59, 32, 118, 111, 105, 100, 32, 102, 40, 41, 32, 123, 32, 120, 32, 61, 32, 120, 32, 43, 32, 49, 32, 42, 32, 50, 59, 32, 125]⟩ w h4.1)
  have H4 := Lib.hid h4
  clear h4
  go_enter Tryz.func7, Tryz.ntmps7
  go_wp2_with fail
  refine (H1.out).mono ?_
  intro e w1 hq
  rw [show readL (⟨#[117, 56, 32, 120, 59, 32, 118, 111, 105, 100, 32, 102, 40, 41, 32, 123, 32, 120, 32, 61, 32, 120, 32, 43, 32, 49, 32, 42, 32, 50, 59, 32, 125]⟩ : ByteArray).data.toList = .ok exT exEnd from ex_rl1] at hq
  obtain ⟨v, rfl, hb, hB1⟩ := hq
  have hL : Lies w1 (· < w1.heap.size) exT v := Lies.move (fun g hg _ => ⟨hg, rfl⟩) exT v hb.lies
  obtain ⟨g0, c0, g1, g2, g3, g4, c1, c2, c3, c4, rfl, hE, hLS⟩ := ex_cells hL
  have HB1 := Lib.hid hB1
  have HL := Lib.hid hL
  have HLS := Lib.hid hLS
  have T1 := Lib.hid (H4.out.below hB1)
  have ha : Below w1.heap.size w1 (w1.alloc (.cells (nodeC exT (.slice (some ⟨g0, 0, none⟩) 2 c0)).toArray 26)) := (Below.refl _ _).alloc (Nat.le_refl _) _
  have N1 := Lib.hid (Hn.new exT (.slice (some ⟨g0, 0, none⟩) 2 c0) w1)
  have HA := Lib.hid ha
  have H2 := Lib.hid (read_all ⟨#[117, 56, 32, 120]⟩ (w1.alloc (.cells (nodeC exT (.slice (some ⟨g0, 0, none⟩) 2 c0)).toArray 26)) (T1.out.below ha).1)
  have HE := Lib.hid hE
  clear H1 hb hL hLS hB1 ha hE H4
  simp only [nodeC, nodeV, exT, Tree.kind, Tree.text, Tree.num, Tree.line, Tree.col, kProgram] at N1 HA H2 ⊢
  go_wp2_with fail
  refine (H2.out).mono ?_
  intro e w2 hq
  rw [show readL (⟨#[117, 56, 32, 120]⟩ : ByteArray).data.toList = .bad 1 5 30 from ex_rl2] at hq
  obtain ⟨rfl, hb2⟩ := hq
  have HB2 := Lib.hid (HA.out.trans (hb2.mono HA.out.size))
  have N2 := Lib.hid (N1.out.below hb2)
  have E2 := Lib.hid (HE.out.below HB2.out)
  have hz : Below w2.heap.size w2 (w2.alloc (.cells #[.string ⟨#[]⟩, .string ⟨#[]⟩, .int .u64 0, .int .i64 0, .int .i64 0, .slice none 0 0] 26)) := (Below.refl _ _).alloc (Nat.le_refl _) _
  have HZ := Lib.hid hz
  have N3 := Lib.hid (N2.out.below hz)
  have E3 := Lib.hid (E2.out.below hz)
  have hs : Below (w2.alloc (.cells #[.string ⟨#[]⟩, .string ⟨#[]⟩, .int .u64 0, .int .i64 0, .int .i64 0, .slice none 0 0] 26)).heap.size (w2.alloc (.cells #[.string ⟨#[]⟩, .string ⟨#[]⟩, .int .u64 0, .int .i64 0, .int .i64 0, .slice none 0 0] 26)) ((w2.alloc (.cells #[.string ⟨#[]⟩, .string ⟨#[]⟩, .int .u64 0, .int .i64 0, .int .i64 0, .slice none 0 0] 26)).alloc (.cells (nodeC exS (.slice (some ⟨g3, 0, none⟩) 2 c3)).toArray 26)) := (Below.refl _ _).alloc (Nat.le_refl _) _
  have NS := Lib.hid (Hn.new exS (.slice (some ⟨g3, 0, none⟩) 2 c3) (w2.alloc (.cells #[.string ⟨#[]⟩, .string ⟨#[]⟩, .int .u64 0, .int .i64 0, .int .i64 0, .slice none 0 0] 26)))
  have HS := Lib.hid (HB2.out.trans ((hz.trans (hs.mono hz.size)).mono HB2.out.size))
  have N4 := Lib.hid (N3.out.below hs)
  have E4 := Lib.hid (E3.out.below hs)
  have HSH := Lib.hid (show_any 200000 exT (.slice (some ⟨g0, 0, none⟩) 2 c0) _ exW (T1.out.below HS.out) (Lies.move (fun g hg hok => ⟨Nat.lt_of_lt_of_le hg HS.out.size, HS.out.block g hg⟩) _ _ HL.out) ex_neat ex_w (by decide) (by decide))
  obtain ⟨a0, a1, a2, a3, a4, a5⟩ := N2.out.cells
  obtain ⟨b0, b1, b2, b3, b4, b5⟩ := N3.out.cells
  have e1 := E3.out.a; have e2 := E3.out.b; have e3 := E3.out.s0; have e4 := E3.out.s1; have e5 := E3.out.s2; have e6 := E3.out.s3; have e7 := E3.out.s4; have e8 := E3.out.s5
  have d1 := E4.out.a; have d2 := E4.out.b; have d3 := E4.out.s5
  obtain ⟨f0, f1, f2, f3, f4, f5⟩ := N4.out.cells
  have hszz := N2.out.lt
  clear hb2 hz hs N1 HA H2 HE N2 E2 HZ N3 E3
  unfold zeroN
  simp only [nodeC, nodeV, exT, exS, Tree.kind, Tree.text, Tree.num, Tree.line, Tree.col, kProgram, kAssign] at *
  go_wp2_with fail
  refine (HSH.out).mono ?_
  rintro e w3 ⟨rfl, hb3⟩
  have HB3 := Lib.hid (HS.out.trans (hb3.mono HS.out.size))
  have HL3 := Lib.hid (HL.out.keep HB3.out)
  have HLS3 := Lib.hid (HLS.out.keep HB3.out)
  have hexT : exT = .mk [112, 114, 111, 103, 114, 97, 109] [] 0 1 1 [exGlob, exFunc] := rfl
  have hexS : exS = .mk [97, 115, 115, 105, 103, 110] [] 0 1 18 [.mk kName [120] 0 1 18 [], exPlus] := rfl
  have hsm := same_any w1.heap.size (SizeOf.sizeOf exT + 1) exT (Nat.lt_succ_self _) exT (.slice (some ⟨g0, 0, none⟩) 2 c0) (.slice (some ⟨g0, 0, none⟩) 2 c0) w3 HB3.out.size HL3.out HL3.out
  rw [ex_same, hexT] at hsm
  simp only [nodeV, Tree.kind, Tree.text, Tree.num, Tree.line, Tree.col] at hsm
  have HSM := Lib.hid hsm
  have hdp := fun (W : World) (h1 : w1.heap.size ≤ W.heap.size) (h2 : Lies W (· < w1.heap.size) exS (.slice (some ⟨g3, 0, none⟩) 2 c3)) => deep_any w1.heap.size (SizeOf.sizeOf exS + 1) exS (Nat.lt_succ_self _) (.slice (some ⟨g3, 0, none⟩) 2 c3) W h1 h2 (by rw [ex_deep]; omega)
  have HDP := Lib.hid hdp
  have n5 := N4.out.below hb3
  have ns5 := NS.out.below hb3
  have x5 := E4.out.below hb3
  rw [World.size_alloc] at ns5
  have N5 := Lib.hid n5
  have NS5 := Lib.hid ns5
  have X5 := Lib.hid x5
  obtain ⟨a0, a1, a2, a3, a4, a5⟩ := N5.out.cells
  obtain ⟨b0, b1, b2, b3, b4, b5⟩ := NS5.out.cells
  have p1 := X5.out.p1; have p5 := X5.out.p5; have q1 := X5.out.q1
  have hsl := NS5.out.lt
  have hsl1 := N5.out.lt
  clear n5 ns5 x5 hb3 hsm hdp HSH HS E4 N4 NS HLS HL T1
  simp only [Tree.kind, Tree.text, Tree.num, Tree.line, Tree.col] at a0 a1 a2 a3 a4 b0 b1 b2 b3 b4
  simp only [showS, exW]
  go_wp2_with fail
  refine (HSM.out).mono ?_
  rintro e w4 ⟨rfl, hb4⟩
  have HB4 := Lib.hid (HB3.out.trans (hb4.mono HB3.out.size))
  have HD := Lib.hid (HDP.out w4 HB4.out.size (HLS3.out.keep (hb4.mono HB3.out.size)))
  have ns6 := NS5.out.below hb4
  obtain ⟨b0, b1, b2, b3, b4, b5⟩ := ns6.cells
  have hd4 := ex_deep
  rw [ex_deep, hexS] at HD
  simp only [nodeV, Tree.kind, Tree.text, Tree.num, Tree.line, Tree.col] at HD b0 b1 b2 b3 b4
  clear ns6 hb4 HSM
  go_wp2_with fail
  refine (HD.out).mono ?_
  rintro e w5 ⟨rfl, hb5⟩
  have HB5 := Lib.hid (HB1.out.trans ((HB4.out.trans (hb5.mono HB4.out.size)).mono HB1.out.size))
  clear hb5 HD
  go_wp2
  go_ret
  exact ⟨rfl, HB5.out⟩
end Go.Proofs.YtnalgnklgmoepaaGreatDoor
namespace Go.Proofs.YtnalgnklgmoepaaGreatDoor
open Go.ChangeShapes Go.WideShapes Go.ChangeAt Go.RowKit Go.Deep

theorem Tryz.own : ownKnob Tryz.prog.godebug = none := by kernel_rfl
theorem Tryz.laidOut : laidOutB Tryz.prog = true := by kernel_rfl
theorem gKeys : Tryz.prog.globalNamed "skua/lex.keywords" = some 3 := by kernel_rfl
theorem tKeys : (Tryz.prog.globals[3]?).map (·.type) = some 46 := by kernel_rfl
theorem gSigns : Tryz.prog.globalNamed "skua/lex.signs" = some 0 := by kernel_rfl
theorem tSigns : (Tryz.prog.globals[0]?).map (·.type) = some 46 := by kernel_rfl
theorem gTypes : Tryz.prog.globalNamed "skua/parse.types" = some 2 := by kernel_rfl
theorem tTypes : (Tryz.prog.globals[2]?).map (·.type) = some 46 := by kernel_rfl
theorem gPow : Tryz.prog.globalNamed "internal/strconv.uint64pow10" = some 4 := by kernel_rfl
theorem tPow : (Tryz.prog.globals[4]?).map (·.type) = some 136 := by kernel_rfl
theorem c23 : Tryz.prog.cellsOf 23 = 1 := by kernel_rfl
theorem c136 : Tryz.prog.cellsOf 136 = 20 := by kernel_rfl
theorem c9 : Tryz.prog.cellsOf 9 = 1 := by kernel_rfl
def strD (l : List UInt8) : DataW Unit := .lit (.string l)
theorem laid_keys : (Rows.laid_skua_lex_keywords : DataW Unit) = .slice (keysL.map strD) [] := by rfl
theorem laid_signs : (Rows.laid_skua_lex_signs : DataW Unit) = .slice (signsL.map strD) [] := by rfl
theorem laid_types : (Rows.laid_skua_parse_types : DataW Unit) = .slice (typesL.map strD) [] := by rfl
theorem laid_pow : (Rows.laid_internal_strconv_uint64pow10 : DataW Unit) = Lib.tabData .u64 Lib.pow10Tab := by rfl

/-- One cell of a table. -/
theorem str_cell {enc : TypeId × Value → Unit} {W : World} {base : Nat} {sp : Nat → Bool} {held : Bool} {n : Nat} {l : List UInt8} {cs : List Value} {pl : List MemPlace}
    (h : DataW.trod enc Tryz.prog W base sp held n 9 cs = some (strD l, pl)) : cs = [.string ⟨l.toArray⟩] := by
  obtain ⟨s, e1, e2, _⟩ := DataW.trod_string Tryz.underlying9 h
  simp [strD] at e2
  rw [e1, e2.1]
/-- A table of texts, read as it is listed, lies where the walks ask. -/
theorem strtab_of {W : World} {g n : Nat} {nm : String} {L : List (List UInt8)} {cs : Array Value} {fu : Nat} {p : List MemPlace} (hn : L.length = n) (hpos : 0 < n) (hg : Tryz.prog.globalNamed nm = some g) (hv : W.var? Tryz.prog nm = some cs)
    (hd : DataW.trod (fun _ => ()) Tryz.prog W 0 (fun _ => true) false fu 46 cs.toList = some (.slice (L.map strD) [], p)) : ∃ b off cap, StrTab g n L b off cap W := by
  rcases open_slice1 Tryz.underlying46 c9 hd with ⟨_, hx⟩ | ⟨a, len, cap, m, k, V, D, Pl, hcs, _, hl, hm, hmm, hx, hi⟩
  · simp at hx
  · simp only [Prod.mk.injEq, DataW.slice.injEq] at hx
    have hlen : len = n := by
      have := congrArg List.length hx.1.1
      rw [List.length_map, List.length_map, List.length_range] at this
      omega
    subst hlen
    have hD : ∀ i, i < len → D i = strD (L.getD i []) := by
      intro i hi9
      have := congrArg (fun l => l[i]?) hx.1.1
      have hL : i < L.length := by omega
      simp [hi9, hL] at this
      rw [List.getD_eq_getElem?_getD, List.getElem?_eq_getElem hL]
      exact this.symm
    have hm9 : len ≤ m := by rw [hmm]; simpa using hl
    have hrow : ∀ i, i < len → W.cell? (a.add i) = some (.string ⟨(L.getD i []).toArray⟩) := by
      intro i hi9
      obtain ⟨hc, ht'⟩ := hi i (by omega)
      rw [hD i hi9] at ht'
      have := str_cell ht'
      rw [List.cons.injEq] at this
      rw [hc, this.1]
    obtain ⟨b, off, spot⟩ := a
    have h00 := hrow 0 (by omega)
    have hspot : spot = none := by
      cases spot with
      | none => rfl
      | some k =>
        simp [Addr.add, World.cell?] at h00
        split at h00 <;> simp at h00
    subst hspot
    have hadd : ∀ i, ((⟨b, off, none⟩ : Addr).add i) = ⟨b, off + i, none⟩ := by
      intro i
      unfold Addr.add
      by_cases h1 : i = 0 <;> simp [h1]
    refine ⟨b, off, cap, ?_, fun i hi9 => ?_⟩
    · have := World.var?_cell hg hv 0
      rw [Array.eq_one_of_toList hcs] at this
      simpa using this
    · rw [← hadd]
      exact hrow i hi9
theorem tab_of_laid {W : World} (h : laidMetH Tryz.prog [("math/bits.deBruijn32tab", Rows.laid_math_bits_deBruijn32tab), ("math/bits.deBruijn64tab", Rows.laid_math_bits_deBruijn64tab), ("internal/strconv.uint64pow10", Rows.laid_internal_strconv_uint64pow10), ("skua/lex.signs", Rows.laid_skua_lex_signs), ("skua/lex.keywords", Rows.laid_skua_lex_keywords), ("skua/parse.types", Rows.laid_skua_parse_types)] W) : Tab4 W := by
  rw [MakeChecks.laidMetH_plain _ _ _ (by kernel_rfl)] at h
  obtain ⟨ps, ⟨g1, t1, cs1, fu1, p1, q1, hg1, ht1, hv1, hd1, ⟨g2, t2, cs2, fu2, p2, q2, hg2, ht2, hv2, hd2, ⟨g3, t3, cs3, fu3, p3, q3, hg3, ht3, hv3, hd3, ⟨g4, t4, cs4, fu4, p4, q4, hg4, ht4, hv4, hd4, ⟨g5, t5, cs5, fu5, p5, q5, hg5, ht5, hv5, hd5, ⟨g6, t6, cs6, fu6, p6, q6, hg6, ht6, hv6, hd6, _, _⟩, _⟩, _⟩, _⟩, _⟩, _⟩, _, _⟩ := h
  obtain rfl := Option.some.inj (gPow.symm.trans hg3)
  obtain rfl := Option.some.inj (tPow.symm.trans ht3)
  obtain rfl := Option.some.inj (gSigns.symm.trans hg4)
  obtain rfl := Option.some.inj (tSigns.symm.trans ht4)
  obtain rfl := Option.some.inj (gKeys.symm.trans hg5)
  obtain rfl := Option.some.inj (tKeys.symm.trans ht5)
  obtain rfl := Option.some.inj (gTypes.symm.trans hg6)
  obtain rfl := Option.some.inj (tTypes.symm.trans ht6)
  rw [laid_pow] at hd3
  rw [laid_signs] at hd4
  rw [laid_keys] at hd5
  rw [laid_types] at hd6
  have hp : Pow W := by
    unfold Pow Lib.TabIs
    rw [hv3, ← Lib.cells_of_tab Tryz.underlying136 Tryz.underlying23 c23 c136 hd3]
  obtain ⟨b1, o1, k1, h1⟩ := strtab_of (g := 3) (n := 19) rfl (by decide) hg5 hv5 hd5
  obtain ⟨b2, o2, k2, h2⟩ := strtab_of (g := 2) (n := 9) rfl (by decide) hg6 hv6 hd6
  have h3 := strtab_of (g := 0) (n := 29) rfl (by decide) hg4 hv4 hd4
  have hlt := hp.lt
  exact ⟨⟨⟨by omega, Nat.le_refl _, ⟨b1, o1, k1, h1, cell_lt (h1.tn 0 (by decide))⟩, ⟨b2, o2, k2, h2, cell_lt (h2.tn 0 (by decide))⟩⟩, h3⟩, hp⟩
/-- The door's own heap meets the condition. -/
theorem door_met (os : Os) (args : Array Value) : laidMetH Tryz.prog [("math/bits.deBruijn32tab", Rows.laid_math_bits_deBruijn32tab), ("math/bits.deBruijn64tab", Rows.laid_math_bits_deBruijn64tab), ("internal/strconv.uint64pow10", Rows.laid_internal_strconv_uint64pow10), ("skua/lex.signs", Rows.laid_skua_lex_signs), ("skua/lex.keywords", Rows.laid_skua_lex_keywords), ("skua/parse.types", Rows.laid_skua_parse_types)] ((World.doorLaid Tryz.prog 400 os).forCall (fun _ _ => 0) ⟨#[], args, []⟩).memory :=
  laidMetH_of_parts3 (fuel := 8) (laidMet_of_run' 8 (by kernel_rfl) (by kernel_rfl)) (by kernel_rfl) (by kernel_rfl)

/-- Arguments read as they did where old memory is as it was. -/
theorem trodAll_carry {H : Type} {enc : TypeId × Value → H} {W W' : World} (hb : Below W.heap.size W W') :
    ∀ (ts : List TypeId) (vs : List Value) (ds : List (DataW H)) (ps : List MemPlace), (∀ t ∈ ts, Tryz.prog.readableRec t = true ∧ t < Tryz.prog.types.size) → (∀ x ∈ ps, x.block < W.heap.size) →
      DataW.TrodAll enc Tryz.prog W 0 (fun _ => true) true ts vs ds ps → DataW.TrodAll enc Tryz.prog W' 0 (fun b => decide (b < W.heap.size)) true ts vs ds ps
  | [], [], [], _, _, _, h => h
  | t :: ts, v :: vs, d :: ds, ps, ht, hp, h => by
    obtain ⟨p, q, h1, h2, rfl⟩ := h
    exact ⟨p, q, Below.trod Tryz.laidOut (ht t (by simp)).1 (ht t (by simp)).2 h1 hb (fun x hx => hp x (by simp [hx])), trodAll_carry hb ts vs ds q (fun u hu => ht u (by simp [hu])) (fun x hx => hp x (by simp [hx])) h2, rfl⟩

/-- A law that has returned true, old memory being as it was, meets its row. -/
theorem law_post {H : Type} {enc : TypeId × Value → H} {f : Func} {s : ChangeSpec} {W W' : World} {args : Array Value} {ds : List (DataW H)} {before : List MemPlace}
    (hts : ∀ t ∈ f.params.toList, Tryz.prog.readableRec t = true ∧ t < Tryz.prog.types.size) (hres : f.resultTypes = #[4]) (hvars : s.vars = [])
    (hfn : s.fn H (ds ++ []) = { results := [.lit (.bool true)], args := ds }) (hW : DataW.Whole enc Tryz.prog f.params.toList s.vars false W args.toList ds [] before) (hb : Below W.heap.size W W') :
    s.post enc Tryz.prog f false true false false W args (.bool true) W' := by
  have hlt : ∀ p ∈ before, p.block < W.heap.size := fun p hp => hW.lt p hp
  have hW0 := hW
  obtain ⟨p, q, hA, hV, rfl, _, _⟩ := hW
  rw [hvars] at hV
  obtain rfl : q = [] := hV
  refine ⟨ds, [], p ++ [], [], p, [], hW0, ?_, ?_, ?_, hb.frame _, fun h => by cases h⟩
  · rw [hfn, hres]
    exact trodAll_mk1 (shut_bool Tryz.underlying4 true)
  · rw [hfn]
    exact trodAll_carry hb _ _ _ _ hts (fun x hx => hlt x (by simp [hx])) hA
  · rw [hfn, hvars]
    rfl
end Go.Proofs.YtnalgnklgmoepaaGreatDoor
namespace Go.Proofs.YtnalgnklgmoepaaGreatDoor
open Go.ChangeShapes Go.WideShapes Go.ChangeAt Go.RowKit Go.Deep

section
variable {H : Type} {enc : TypeId × Value → H} {W : World} {b : Nat} {v : Value} {d : DataW H} {p : List MemPlace}
set_option maxRecDepth 100000 in
theorem as_u8 (hv : Value.okWide Tryz.prog W .any b 5 v) (h : DataW.Trod enc Tryz.prog W 0 (fun _ => true) true 5 v d p) : ∃ a : Int, v = .int .u8 a ∧ 0 ≤ a ∧ a < 256 := by
  obtain ⟨a, rfl, _, _, wa⟩ := open_int Tryz.underlying5 hv h
  have h1 : IntKind.u8.min = 0 := by decide
  have h2 : IntKind.u8.max = 255 := by decide
  simp only [Lit.wf, h1, h2, decide_eq_true_eq, Bool.and_eq_true] at wa
  exact ⟨a, rfl, by omega⟩
set_option maxRecDepth 100000 in
theorem as_str (hv : Value.okWide Tryz.prog W .any b 9 v) (h : DataW.Trod enc Tryz.prog W 0 (fun _ => true) true 9 v d p) : ∃ s : ByteArray, v = .string s ∧ s.size ≤ maxLen := by
  obtain ⟨s, rfl, _, _, hs⟩ := ChangeMaps.open_string Tryz.underlying9 hv h
  exact ⟨s, rfl, hs⟩
end
end Go.Proofs.YtnalgnklgmoepaaGreatDoor
namespace Go.Proofs.YtnalgnklgmoepaaGreatDoor
theorem base_stands : True := trivial
end Go.Proofs.YtnalgnklgmoepaaGreatDoor
