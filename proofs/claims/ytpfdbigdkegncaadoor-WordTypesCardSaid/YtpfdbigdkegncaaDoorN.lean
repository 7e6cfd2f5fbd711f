/- The law WordDivides: its walk. -/
import Derived.Test.YtpfdbigdkegncaaDoorJ
import Derived.Test.YtpfdbigdkegncaaDoorM
namespace Go.Proofs.YtpfdbigdkegncaaDoor
open Go.RowKit

/-- A law's world on the way: the boxed type reads as it was handed in, the table lies, old memory is as it was. -/
structure On (w0 : World) (W : Int) (S : Bool) (w : World) : Prop where
  c0 : w.cell? ⟨w0.heap.size, 0, none⟩ = some (.int .i64 W)
  c1 : w.cell? ⟨w0.heap.size, 1, none⟩ = some (.bool S)
  tab : Tab w
  old : Below w0.heap.size w0 w
theorem On.start {w0 : World} (ht : Tab w0) (W : Int) (S : Bool) : On w0 W S (w0.alloc (.cells #[.int .i64 W, .bool S] 23)) :=
  ⟨by simp [go_sem], by simp [go_sem], ht.alloc _, (Below.refl _ _).alloc (Nat.le_refl _) _⟩
theorem On.step {w0 w w' : World} {W : Int} {S : Bool} (h : On w0 W S w) (hq : Below w.heap.size w w') : On w0 W S w' :=
  ⟨(hq.cell (cell_lt h.c0)).trans h.c0, (hq.cell (cell_lt h.c1)).trans h.c1, h.tab.below hq, h.old.trans (hq.mono h.old.size)⟩

set_option maxHeartbeats 1000000 in
theorem divides_err (W : Int) (S : Bool) (a b : Int) (w : World) (ht : Tab w) (ha0 : 0 ≤ a) (ha1 : a < 18446744073709551616) (hb0 : 0 ≤ b) (hb1 : b < 18446744073709551616)
    (e : Int) (he : e = 10 ∨ e = 11 ∨ e = 12) (h1 : doF W S ⟨#[47]⟩ a b = (0, e)) (h2 : doF W S ⟨#[37]⟩ a b = (0, e)) :
    Calls Tryd.prog 9 #[.agg #[.int .i64 W, .bool S], .int .u64 a, .int .u64 b] w fun e w' => e = .returned (.bool true) ∧ Below w.heap.size w w' := by
  have H0 := On.start ht W S
  have H1 := Lib.hid h1
  have H2 := Lib.hid h2
  clear h1 h2 ht
  rcases he with rfl | rfl | rfl
  all_goals
    go_enter Tryd.func9, Tryd.ntmps9
    go_wp2_with fail
    refine (do_c H1.out _ H0.tab ha0 ha1 hb0 hb1).mono ?_; rintro e w1 ⟨rfl, hq⟩
    have h1 := H0.step hq
    obtain ⟨c0, c1, ht, _⟩ := h1
    clear H0 hq
    go_wp2_with fail
    refine (do_c H2.out _ ht ha0 ha1 hb0 hb1).mono ?_; rintro e w2 ⟨rfl, hq⟩
    have h2 := On.step ⟨c0, c1, ht, by assumption⟩ hq
    obtain ⟨_, _, ht, ho⟩ := h2
    clear c0 c1 hq
    go_wp2_with fail
    refine (awake_any _ ht).mono ?_; rintro e w3 ⟨rfl, hq⟩
    have ho' := ho.trans (hq.mono ho.size)
    go_wp2
    go_ret
    exact ⟨rfl, ho'⟩

set_option maxHeartbeats 1000000 in
theorem divides_ok (W : Int) (S : Bool) (a b : Int) (w : World) (ht : Tab w) (ha0 : 0 ≤ a) (ha1 : a < 18446744073709551616) (hb0 : 0 ≤ b) (hb1 : b < 18446744073709551616) (hr : rt W S = true)
    (q r p : Int) (h1 : doF W S ⟨#[47]⟩ a b = (q, 0)) (h2 : doF W S ⟨#[37]⟩ a b = (r, 0)) (hq0 : 0 ≤ q) (hq1 : q < 18446744073709551616) (hr0 : 0 ≤ r) (hr1 : r < 18446744073709551616)
    (h3 : doF W S ⟨#[42]⟩ q b = (p, 0)) (hp0 : 0 ≤ p) (hp1 : p < 18446744073709551616) (h4 : doF W S ⟨#[43]⟩ p r = (lowF W a, 0)) :
    Calls Tryd.prog 9 #[.agg #[.int .i64 W, .bool S], .int .u64 a, .int .u64 b] w fun e w' => e = .returned (.bool true) ∧ Below w.heap.size w w' := by
  have H0 := On.start ht W S
  have H1 := Lib.hid h1
  have H2 := Lib.hid h2
  have H3 := Lib.hid h3
  have H4 := Lib.hid h4
  have HR := Lib.hid hr
  clear h1 h2 h3 h4 ht hr
  go_enter Tryd.func9, Tryd.ntmps9
  go_wp2_with fail
  refine (do_c H1.out _ H0.tab ha0 ha1 hb0 hb1).mono ?_; rintro e w1 ⟨rfl, hq⟩
  obtain ⟨c0, c1, ht, ho⟩ := H0.step hq
  clear H0 hq
  go_wp2_with fail
  refine (do_c H2.out _ ht ha0 ha1 hb0 hb1).mono ?_; rintro e w2 ⟨rfl, hq⟩
  obtain ⟨d0, d1, ht2, ho2⟩ := On.step ⟨c0, c1, ht, ho⟩ hq
  clear c0 c1 hq ht ho
  go_wp2_with fail
  refine (do_c H3.out _ ht2 hq0 hq1 hb0 hb1).mono ?_; rintro e w3 ⟨rfl, hq⟩
  obtain ⟨c0, c1, ht, ho⟩ := On.step ⟨d0, d1, ht2, ho2⟩ hq
  clear d0 d1 hq ht2 ho2
  go_wp2_with fail
  refine (do_c H4.out _ ht hp0 hp1 hr0 hr1).mono ?_; rintro e w4 ⟨rfl, hq⟩
  obtain ⟨d0, d1, ht2, ho2⟩ := On.step ⟨c0, c1, ht, ho⟩ hq
  clear c0 c1 hq ht ho
  go_wp2_with fail
  refine (awake_any _ ht2).mono ?_; rintro e w5 ⟨rfl, hq⟩
  obtain ⟨c0, c1, ht, ho⟩ := On.step ⟨d0, d1, ht2, ho2⟩ hq
  clear d0 d1 hq ht2 ho2
  go_wp2_with fail
  refine (norm_any _ _ _ _ ht ha0 ha1).mono ?_; rintro e w6 ⟨rfl, hq⟩
  have ho' := ho.trans (hq.mono ho.size)
  have en : normF W S a = lowF W a := if_pos HR.out
  rw [en]
  clear c0 c1 en
  go_wp2
  go_ret
  exact ⟨rfl, ho'⟩

theorem divides_law (W : Int) (S : Bool) (a b : Int) (w : World) (ht : Tab w) (ha0 : 0 ≤ a) (ha1 : a < 18446744073709551616) (hb0 : 0 ≤ b) (hb1 : b < 18446744073709551616) :
    Calls Tryd.prog 9 #[.agg #[.int .i64 W, .bool S], .int .u64 a, .int .u64 b] w fun e w' => e = .returned (.bool true) ∧ Below w.heap.size w w' := by
  rcases divides_math W S a b with ⟨e, he, h1, h2⟩ | ⟨hr, q, r, p, h1, h2, hq, hrr, h3, hp, h4⟩
  · exact divides_err W S a b w ht ha0 ha1 hb0 hb1 e he h1 h2
  · exact divides_ok W S a b w ht ha0 ha1 hb0 hb1 hr q r p h1 h2 hq.1 hq.2 hrr.1 hrr.2 h3 hp.1 hp.2 h4
end Go.Proofs.YtpfdbigdkegncaaDoor
