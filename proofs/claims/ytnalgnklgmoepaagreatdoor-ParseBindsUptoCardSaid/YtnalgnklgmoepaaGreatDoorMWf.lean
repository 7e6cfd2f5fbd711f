/- The law ParseBinds. -/
import Derived.Test.YtnalgnklgmoepaaGreatDoorMbar
import Derived.Test.YtnalgnklgmoepaaGreatDoorMWe
set_option linter.all false
namespace Go.Proofs.YtnalgnklgmoepaaGreatDoor
open Go Go.RowKit

theorem bind_ok2 {a b : List UInt8} (ha : a ∈ opsL) (hb : b ∈ opsL) : bindOk a b = true := by
  have h := binds_all
  rw [List.all_eq_true] at h
  have := h a ha
  rw [List.all_eq_true] at this
  exact this b hb
theorem bind_shape {a b : List UInt8} (h : bindOk a b = true) : ∃ k0 x0 m0 l0 c0 k1 x1 m1 l1 c1 t1 k2 x2 m2 l2 c2 k3 x3 m3 l3 c3 t3 k4 x4 m4 l4 c4 l r rest,
    readP 200000 (srcB a b) = .ok (.mk k0 x0 m0 l0 c0 [.mk k1 x1 m1 l1 c1 [t1, .mk k2 x2 m2 l2 c2 [.mk k3 x3 m3 l3 c3 [t3, .mk k4 x4 m4 l4 c4 [l, r]]]]]) rest ∧ topB a b x4 l r = true := by
  unfold bindOk at h
  split at h
  · rename_i he
    exact ⟨_, _, _, _, _, _, _, _, _, _, _, _, _, _, _, _, _, _, _, _, _, _, _, _, _, _, _, _, _, _, he, h⟩
  · cases h
/-- The cells of such a tree that are looked at. -/
structure BC (g0 g1 g2 g3 g4 c1 c2 c3 c4 cl cr : Nat) (ql qr : Option Addr) (k4 x4 : List UInt8) (m4 l4 co4 : Int) (l r : Tree) (w : World) : Prop where
  a : w.cell? ⟨g0, 5, none⟩ = some (.slice (some ⟨g1, 0, none⟩) 2 c1)
  b : w.cell? ⟨g1, 11, none⟩ = some (.slice (some ⟨g2, 0, none⟩) 1 c2)
  c : w.cell? ⟨g2, 5, none⟩ = some (.slice (some ⟨g3, 0, none⟩) 2 c3)
  d0 : w.cell? ⟨g3, 6, none⟩ = some (.string ⟨k4.toArray⟩)
  d1 : w.cell? ⟨g3, 7, none⟩ = some (.string ⟨x4.toArray⟩)
  d2 : w.cell? ⟨g3, 8, none⟩ = some (.int .u64 m4)
  d3 : w.cell? ⟨g3, 9, none⟩ = some (.int .i64 l4)
  d4 : w.cell? ⟨g3, 10, none⟩ = some (.int .i64 co4)
  d5 : w.cell? ⟨g3, 11, none⟩ = some (.slice (some ⟨g4, 0, none⟩) 2 c4)
  l1 : w.cell? ⟨g4, 1, none⟩ = some (.string ⟨l.text.toArray⟩)
  l5 : w.cell? ⟨g4, 5, none⟩ = some (.slice ql l.kids.length cl)
  r1 : w.cell? ⟨g4, 7, none⟩ = some (.string ⟨r.text.toArray⟩)
  r5 : w.cell? ⟨g4, 11, none⟩ = some (.slice qr r.kids.length cr)
theorem BC.below {g0 g1 g2 g3 g4 c1 c2 c3 c4 cl cr : Nat} {ql qr : Option Addr} {k4 x4 : List UInt8} {m4 l4 co4 : Int} {l r : Tree} {w w' : World} (h : BC g0 g1 g2 g3 g4 c1 c2 c3 c4 cl cr ql qr k4 x4 m4 l4 co4 l r w) (hb : Below w.heap.size w w') : BC g0 g1 g2 g3 g4 c1 c2 c3 c4 cl cr ql qr k4 x4 m4 l4 co4 l r w' :=
  ⟨(hb.cell (cell_lt h.a)).trans h.a, (hb.cell (cell_lt h.b)).trans h.b, (hb.cell (cell_lt h.c)).trans h.c, (hb.cell (cell_lt h.d0)).trans h.d0, (hb.cell (cell_lt h.d1)).trans h.d1, (hb.cell (cell_lt h.d2)).trans h.d2, (hb.cell (cell_lt h.d3)).trans h.d3, (hb.cell (cell_lt h.d4)).trans h.d4, (hb.cell (cell_lt h.d5)).trans h.d5, (hb.cell (cell_lt h.l1)).trans h.l1, (hb.cell (cell_lt h.l5)).trans h.l5, (hb.cell (cell_lt h.r1)).trans h.r1, (hb.cell (cell_lt h.r5)).trans h.r5⟩
theorem bc_of {B : Nat} {k0 x0 : List UInt8} {m0 l0 c0 : Int} {k1 x1 : List UInt8} {m1 l1 c1 : Int} {t1 : Tree} {k2 x2 : List UInt8} {m2 l2 c2 : Int} {k3 x3 : List UInt8} {m3 l3 c3 : Int} {t3 : Tree} {k4 x4 : List UInt8} {m4 l4 c4 : Int} {l r : Tree} {v : Value} {w : World}
    (h : Lies w (· < B) (.mk k0 x0 m0 l0 c0 [.mk k1 x1 m1 l1 c1 [t1, .mk k2 x2 m2 l2 c2 [.mk k3 x3 m3 l3 c3 [t3, .mk k4 x4 m4 l4 c4 [l, r]]]]]) v) :
    ∃ g0 e0 g1 g2 g3 g4 e1 e2 e3 e4 el er ql qr, v = .slice (some ⟨g0, 0, none⟩) 1 e0 ∧ BC g0 g1 g2 g3 g4 e1 e2 e3 e4 el er ql qr k4 x4 m4 l4 c4 l r w := by
  obtain ⟨g0, e0, rfl, R0⟩ := h.row (by simp [Tree.kids])
  obtain ⟨q1, n1, e1, L1, C1⟩ := R0.2 0 (by simp [Tree.kids])
  obtain ⟨g1, e1', f1, R1⟩ := L1.row (by simp [Tree.kids])
  obtain ⟨rfl, rfl, rfl⟩ := slice_eq f1
  obtain ⟨q2, n2, e2, L2, C2⟩ := R1.2 1 (by simp [Tree.kids])
  obtain ⟨g2, e2', f2, R2⟩ := L2.row (by simp [Tree.kids])
  obtain ⟨rfl, rfl, rfl⟩ := slice_eq f2
  obtain ⟨q3, n3, e3, L3, C3⟩ := R2.2 0 (by simp [Tree.kids])
  obtain ⟨g3, e3', f3, R3⟩ := L3.row (by simp [Tree.kids])
  obtain ⟨rfl, rfl, rfl⟩ := slice_eq f3
  obtain ⟨q4, n4, e4, L4, C4⟩ := R3.2 1 (by simp [Tree.kids])
  obtain ⟨g4, e4', f4, R4⟩ := L4.row (by simp [Tree.kids])
  obtain ⟨rfl, rfl, rfl⟩ := slice_eq f4
  obtain ⟨q5, n5, e5, L5, C5⟩ := R4.2 0 (by simp [Tree.kids])
  obtain ⟨q5', c5', f5, _, _⟩ := L5.shape
  obtain ⟨rfl, rfl, rfl⟩ := slice_eq f5
  obtain ⟨q6, n6, e6, L6, C6⟩ := R4.2 1 (by simp [Tree.kids])
  obtain ⟨q6', c6', f6, _, _⟩ := L6.shape
  obtain ⟨rfl, rfl, rfl⟩ := slice_eq f6
  exact ⟨g0, e0, g1, g2, g3, g4, e1, e2, e3, e4, e5, e6, q5, q6, rfl, ⟨C1.c5, C2.c5, C3.c5, C4.c0, C4.c1, C4.c2, C4.c3, C4.c4, C4.c5, C5.c1, C5.c5, C6.c1, C6.c5⟩⟩
theorem src_len {a b : List UInt8} (ha : a ∈ opsL) (hb : b ∈ opsL) : (srcB a b).length ≤ 65536 := by
  have h1 : ∀ x ∈ opsL, x.length ≤ 2 := by decide
  have := h1 a ha
  have := h1 b hb
  simp [srcB]
  omega

/-- Whatever Read hands back. -/
theorem ParsePost.any {w : World} {p : PR Tree} {e : Ending} {w' : World} (h : ParsePost w p e w') (ho : p ≠ .out) :
    ∃ (k x : ByteArray) (m ln co : Int) (q : Option Addr) (n c : Nat) (p1 p2 p3 : Int), e = .returned (.tuple #[.agg #[.string k, .string x, .int .u64 m, .int .i64 ln, .int .i64 co, .slice q n c], .int .i64 p1, .int .i64 p2, .int .i64 p3]) ∧ Below w.heap.size w w' := by
  cases p with
  | ok t l =>
    obtain ⟨v, rfl, hb, hB⟩ := h
    obtain ⟨q, n, c, rfl⟩ := hb.shape
    exact ⟨_, _, _, _, _, _, _, _, _, _, _, rfl, hB⟩
  | bad ln c code =>
    obtain ⟨rfl, hB⟩ := h
    exact ⟨_, _, _, _, _, _, _, _, _, _, _, rfl, hB⟩
  | out => exact absurd rfl ho
theorem src_eq (a b : List UInt8) : ({ data := #[118, 111, 105, 100, 32, 102, 40, 41, 32, 123, 32, 120, 32, 61, 32, 112, 32] } ++ ({ data := a.toArray } : ByteArray) ++ { data := #[32, 113, 32] } ++ { data := b.toArray } ++ { data := #[32, 114, 59, 32, 125] } : ByteArray).data.toList = srcB a b := by
  simp [srcB, ByteArray.data_append]

set_option maxHeartbeats 8000000 in
set_option maxRecDepth 100000 in
theorem binds_law (a b : List UInt8) (w : World) (h4 : Tab4 w) (hsz : a.length + b.length ≤ 2000000) : Calls Tryz.prog 6 #[.string ⟨a.toArray⟩, .string ⟨b.toArray⟩] w fun e w' => e = .returned (.bool true) ∧ Below w.heap.size w w' := by
  have H4 := Lib.hid h4
  have HA := Lib.hid (rbind_any a)
  have HB := Lib.hid (rbind_any b)
  have hsa : (⟨a.toArray⟩ : ByteArray).size = a.length := rfl
  have hsb : (⟨b.toArray⟩ : ByteArray).size = b.length := rfl
  have HSRC := Lib.hid (src_eq a b)
  clear h4
  by_cases hz : bindI a = 0 ∨ bindI b = 0
  · have hor : bindI a = 0 ∨ (¬ bindI a = 0 ∧ bindI b = 0) := by
      by_cases h : bindI a = 0
      · exact .inl h
      · exact .inr ⟨h, hz.resolve_left h⟩
    clear hz
    generalize bindI a = x at *
    generalize bindI b = y at *
    rcases hor with rfl | ⟨hx, rfl⟩
    · go_enter Tryz.func6, Tryz.ntmps6
      go_wp2_with fail
      refine (HA.out _).mono ?_
      rintro e w1 ⟨rfl, rfl⟩
      go_wp2_with fail
      refine (HB.out _).mono ?_
      rintro e w1 ⟨rfl, rfl⟩
      go_wp2_with fail
      have HR := read_all ({ data := #[118, 111, 105, 100, 32, 102, 40, 41, 32, 123, 32, 120, 32, 61, 32, 112, 32] } ++ ({ data := a.toArray } : ByteArray) ++ { data := #[32, 113, 32] } ++ { data := b.toArray } ++ { data := #[32, 114, 59, 32, 125] } : ByteArray) w H4.out.1
      rw [HSRC.out] at HR
      refine HR.mono ?_
      clear HR hsa hsb
      intro e w1 hq
      obtain ⟨k, x, m, ln, co, q, n, c, p1, p2, p3, rfl, hb1⟩ := hq.any (readL_out _)
      have ha := (Below.refl w1.heap.size w1).alloc (Nat.le_refl _) (.cells #[.string k, .string x, .int .u64 m, .int .i64 ln, .int .i64 co, .slice q n c] 26)
      have HB1 := Lib.hid (hb1.trans (ha.mono hb1.size))
      have HW := Lib.hid (awake_any _ (H4.out.below HB1.out))
      clear hq hb1 ha HSRC HA HB
      go_wp2_with fail
      refine (HW.out).mono ?_
      rintro e w2 ⟨rfl, hb2⟩
      have HB2 := Lib.hid (HB1.out.trans (hb2.mono HB1.out.size))
      have HW2 := Lib.hid (awake_any _ (H4.out.below HB2.out))
      clear hb2 HW HB1
      go_wp2_with fail
      refine (HW2.out).mono ?_
      rintro e w3 ⟨rfl, hb3⟩
      go_wp2
      go_ret
      exact ⟨rfl, HB2.out.trans (hb3.mono HB2.out.size)⟩
    · have hxb : (x == 0) = false := by simpa using hx
      clear hx
      go_enter Tryz.func6, Tryz.ntmps6
      go_wp2_with fail
      refine (HA.out _).mono ?_
      rintro e w1 ⟨rfl, rfl⟩
      go_wp2_with fail
      refine (HB.out _).mono ?_
      rintro e w1 ⟨rfl, rfl⟩
      go_wp2_with fail
      have HR := read_all ({ data := #[118, 111, 105, 100, 32, 102, 40, 41, 32, 123, 32, 120, 32, 61, 32, 112, 32] } ++ ({ data := a.toArray } : ByteArray) ++ { data := #[32, 113, 32] } ++ { data := b.toArray } ++ { data := #[32, 114, 59, 32, 125] } : ByteArray) w H4.out.1
      rw [HSRC.out] at HR
      refine HR.mono ?_
      clear HR hsa hsb
      intro e w1 hq
      obtain ⟨k, x', m, ln, co, q, n, c, p1, p2, p3, rfl, hb1⟩ := hq.any (readL_out _)
      have ha := (Below.refl w1.heap.size w1).alloc (Nat.le_refl _) (.cells #[.string k, .string x', .int .u64 m, .int .i64 ln, .int .i64 co, .slice q n c] 26)
      have HB1 := Lib.hid (hb1.trans (ha.mono hb1.size))
      have HW := Lib.hid (awake_any _ (H4.out.below HB1.out))
      clear hq hb1 ha HSRC HA HB
      go_wp2_with fail
      refine (HW.out).mono ?_
      rintro e w2 ⟨rfl, hb2⟩
      have HB2 := Lib.hid (HB1.out.trans (hb2.mono HB1.out.size))
      have HW2 := Lib.hid (awake_any _ (H4.out.below HB2.out))
      clear hb2 HW HB1
      go_wp2_with fail
      refine (HW2.out).mono ?_
      rintro e w3 ⟨rfl, hb3⟩
      go_wp2
      go_ret
      exact ⟨rfl, HB2.out.trans (hb3.mono HB2.out.size)⟩
  · have hxa : ¬ bindI a = 0 := fun h => hz (.inl h)
    have hya : ¬ bindI b = 0 := fun h => hz (.inr h)
    have hia := bind_in a hxa
    have hib := bind_in b hya
    obtain ⟨k0, x0, m0, l0, c0, k1, x1, m1, l1, c1, t1, k2, x2, m2, l2, c2, k3, x3, m3, l3, c3, t3, k4, x4, m4, l4, c4, l, r, rest, hrd, htop⟩ := bind_shape (bind_ok2 hia hib)
    have hrl : readL (srcB a b) = .ok (.mk k0 x0 m0 l0 c0 [.mk k1 x1 m1 l1 c1 [t1, .mk k2 x2 m2 l2 c2 [.mk k3 x3 m3 l3 c3 [t3, .mk k4 x4 m4 l4 c4 [l, r]]]]]) rest := by rw [readL, if_pos (src_len hia hib), hrd]
    have HRL := Lib.hid hrl
    have hlv : (levelI b ≤ levelI a) = (bindI b ≤ bindI a) := by unfold bindI; exact propext (by omega)
    unfold topB at htop
    have hxb : (bindI a == 0) = false := by simpa using hxa
    have hyb : (bindI b == 0) = false := by simpa using hya
    have HTOP := Lib.hid htop
    have HLV := Lib.hid hlv
    clear hz hxa hya hia hib hrd hrl htop hlv
    generalize bindI a = x at *
    generalize bindI b = y at *
    go_enter Tryz.func6, Tryz.ntmps6
    go_wp2_with fail
    refine (HA.out _).mono ?_
    rintro e w1 ⟨rfl, rfl⟩
    go_wp2_with fail
    refine (HB.out _).mono ?_
    rintro e w1 ⟨rfl, rfl⟩
    go_wp2_with fail
    have HR := read_all ({ data := #[118, 111, 105, 100, 32, 102, 40, 41, 32, 123, 32, 120, 32, 61, 32, 112, 32] } ++ ({ data := a.toArray } : ByteArray) ++ { data := #[32, 113, 32] } ++ { data := b.toArray } ++ { data := #[32, 114, 59, 32, 125] } : ByteArray) w H4.out.1
    rw [HSRC.out, HRL.out] at HR
    refine HR.mono ?_
    clear HR hsa hsb HSRC HRL HA HB
    rintro e w1 ⟨v, rfl, hbd, hb1⟩
    have hL : Lies w1 (· < w1.heap.size) _ v := Lies.move (fun g hg _ => ⟨hg, rfl⟩) _ v hbd.lies
    obtain ⟨g0, e0, g1, g2, g3, g4, e1, e2, e3, e4, el, er, ql, qr, rfl, hbc⟩ := bc_of hL
    have HBC := Lib.hid hbc
    have ha := (Below.refl w1.heap.size w1).alloc (Nat.le_refl _) (.cells #[.string ⟨k0.toArray⟩, .string ⟨x0.toArray⟩, .int .u64 m0, .int .i64 l0, .int .i64 c0, .slice (some ⟨g0, 0, none⟩) 1 e0] 26)
    have HB1 := Lib.hid (hb1.trans (ha.mono hb1.size))
    have HN1 := Lib.hid (LNode.new k0 x0 m0 l0 c0 (.slice (some ⟨g0, 0, none⟩) 1 e0) w1)
    have HBC1 := Lib.hid (hbc.below ha)
    have HW := Lib.hid (awake_any _ (H4.out.below HB1.out))
    clear hbd hL hbc hb1 ha HBC
    simp only [nodeV, Tree.kind, Tree.text, Tree.num, Tree.line, Tree.col]
    go_wp2_with fail
    refine (HW.out).mono ?_
    rintro e w2 ⟨rfl, hb2⟩
    have HB2 := Lib.hid (HB1.out.trans (hb2.mono HB1.out.size))
    have hN2 := HN1.out.below hb2
    have hC2 := HBC1.out.below hb2
    have hz2 : Below w2.heap.size w2 (w2.alloc (.cells #[.string ⟨k4.toArray⟩, .string ⟨x4.toArray⟩, .int .u64 m4, .int .i64 l4, .int .i64 c4, .slice (some ⟨g4, 0, none⟩) 2 e4] 26)) := (Below.refl _ _).alloc (Nat.le_refl _) _
    have HB3 := Lib.hid (HB2.out.trans (hz2.mono HB2.out.size))
    have n5 := hN2.c5
    have a1 := hC2.a; have a2 := hC2.b; have a3 := hC2.c; have a4 := hC2.d0; have a5 := hC2.d1; have a6 := hC2.d2; have a7 := hC2.d3; have a8 := hC2.d4; have a9 := hC2.d5
    have hC3 := hC2.below hz2
    have b1 := hC3.l1; have b2 := hC3.l5; have b3 := hC3.r1; have b4 := hC3.r5
    clear hb2 HW hN2 hC2 hz2 hC3 HB1 HN1 HBC1
    by_cases hle : y ≤ x
    · have htop := HTOP.out
      rw [if_pos (by rw [HLV.out]; exact hle)] at htop
      simp only [Bool.and_eq_true, beq_iff_eq] at htop
      obtain ⟨rfl, h2, h3, h4⟩ := htop
      rw [h2] at b1
      rw [h3] at b2
      rw [h4] at b3
      clear h2 h3 h4 HTOP HLV
      go_wp2
      go_ret
      exact ⟨rfl, HB3.out⟩
    · have htop := HTOP.out
      rw [if_neg (by rw [HLV.out]; exact hle)] at htop
      simp only [Bool.and_eq_true, beq_iff_eq] at htop
      obtain ⟨rfl, h2, h3, h4⟩ := htop
      rw [h4] at b1
      rw [h2] at b3
      rw [h3] at b4
      clear h2 h3 h4 HTOP HLV
      go_wp2
      go_ret
      exact ⟨rfl, HB3.out⟩
end Go.Proofs.YtnalgnklgmoepaaGreatDoor
