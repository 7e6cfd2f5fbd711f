/- The contracts of skuaref01's wide and Int. -/
import Derived.Test.YtpfdbigdkegncaaDoorX
namespace Go.Proofs.YtpfdbigdkegncaaDoor
open Go.RowKit

/-- The sign's bit of a value of n bits. -/
def sgn (S : Bool) (v : Int) (n : Nat) : Bool := S && (bitsR v n).getD (n - 1) false
/-- A value's bits, as many as 64, with its sign. -/
def wideL (S : Bool) (v : Int) (n : Nat) : List Bool := bitsR v n ++ List.replicate (64 - n) (sgn S v n)
theorem wide_len {S : Bool} {v : Int} {n : Nat} (h : n ≤ 64) : (wideL S v n).length = 64 := by
  simp [wideL, bits_len]
  omega

/-- How long a slice is, for a measure. -/
def sliceLen : Value → Nat | .slice _ n _ => n | _ => 0

set_option maxHeartbeats 1000000 in
theorem wide_any (n : Nat) (S : Bool) (v : Int) (w : World) (hn1 : 1 ≤ n) (hn : n ≤ 64) (hv0 : 0 ≤ v) (hv1 : v < 18446744073709551616) :
    Calls Tryd.prog 36 #[.agg #[.int .i64 n, .bool S], .int .u64 v] w (BitsPost w (wideL S v n)) := by
  obtain ⟨i0, hi, hz0, hz1, hz2⟩ := info_parts Tryd.info4
  go_enter Tryd.func36, Tryd.ntmps36
  go_wp2_with fail
  refine (bits_any v n _ hn hv0 hv1).mono ?_
  rintro e w1 ⟨sl, rfl, hown, hb⟩
  rw [bits_len] at hown
  have hc0 : w1.cell? ⟨w.heap.size, 0, none⟩ = some (.int .i64 n) := (hb.cell (p := ⟨w.heap.size, 0, none⟩) (by simp)).trans (by simp [go_sem])
  have hc1 : w1.cell? ⟨w.heap.size, 1, none⟩ = some (.bool S) := (hb.cell (p := ⟨w.heap.size, 1, none⟩) (by simp)).trans (by simp [go_sem])
  have hb' := below_box (by simpa using hb)
  have hs1 : w.heap.size + 1 ≤ w1.heap.size := by have := hb.size; simpa using this
  clear hb
  obtain ⟨g, cap, rfl, hg, hnc, hl, hcell⟩ := own_parts hown hn1
  have hgx : w.heap.size + 1 ≤ g := by simpa using hg
  have hown1 : w1.ownsRow (w.heap.size + 1) 4 1 (.slice (some ⟨g, 0, none⟩) n cap) n ((bitsR v n).map Value.bool) := by simpa using hown
  clear hown hg
  have hlast := hcell (n - 1) (by omega)
  have hs : sgn S v n = (S && (bitsR v n).getD (n - 1) false) := rfl
  generalize hsd : sgn S v n = sg at *
  have HSD := Lib.hid hsd
  have HL := Lib.hid hl
  clear hcell hsd hl
  have fin : ∀ (wr : World) (u : Value), wr.ownsRow (w.heap.size + 1) 4 1 u 64 ((bitsR v n ++ List.replicate (64 - n) sg).map Value.bool) → Below w.heap.size w wr → BitsPost w (wideL S v n) (.returned u) wr := by
    intro wr u ho hbb
    refine ⟨u, rfl, ?_, hbb⟩
    rw [wide_len hn]
    unfold wideL
    rw [HSD.out]
    refine ⟨ho.1, ?_⟩
    rcases ho.2 with h | ⟨g, cap, cur, h1, h2, h3⟩
    · exact .inl h
    · exact .inr ⟨g, cap, cur, h1, by omega, h3⟩
  have FIN := Lib.hid fin
  clear fin
  have hidx : ((n : Int) - 1).toNat = n - 1 := by omega
  have hi0 : 0 ≤ (n : Int) - 1 := by omega
  have hi1 : (n : Int) - 1 < (n : Int) := by omega
  cases S
  · obtain rfl : sg = false := hs
    clear hlast hidx hi0 hi1
    go_wp2_with fail
    go_loopw [5] (fun u wr => ∃ g cap k : Nat, n ≤ k ∧ k ≤ 64 ∧ u = .slice (some ⟨g, 0, none⟩) k cap ∧ wr.ownsRow (w.heap.size + 1) 4 1 (.slice (some ⟨g, 0, none⟩) k cap) k ((bitsR v n ++ List.replicate (k - n) false).map Value.bool) ∧ Below w.heap.size w wr ∧ w.heap.size + 1 ≤ wr.heap.size) (fun u _ => 64 - sliceLen u)
    case atStart => exact ⟨g, cap, n, Nat.le_refl _, hn, rfl, by simpa using hown1, hb', hs1⟩
    case round =>
      obtain ⟨g2, cap2, k, hk1, hk2, rfl, ho, hbr, hsz⟩ := hrel
      clear hown1 hb' hs1 hc0 hc1
      have hk0 : 1 ≤ k := by omega
      by_cases hlt : k < 64
      · go_wp2_with (at_builtin; refine wpList_append_own _ rfl _ _ 55 rfl (w.heap.size + 1) 4 i0 (.bool false) 1 1 Tryd.underlying55 hi hz0 hz1 hz2 rfl (by decide) _ _ _ rfl (ho.alloc _) ⟨wr.heap.size, 0, none⟩ 1 1 [.bool false] rfl rfl ?d1 ?d2 ?d3 ?d4 ?d5 ?_)
        case d1 => intro j u hj; match j, hj with | 0, hj => cases hj; exact cell_new1 _ _ _
        case d2 => intro u hu; simp at hu; subst hu; rfl
        case d3 => unfold maxLen; omega
        case d4 => omega
        case d5 => simp; omega
        intro v' w2 hown' hgrow _
        have hb1 : Below w.heap.size w w2 := (hbr.alloc hbr.size _).grown hgrow (by have := hbr.size; simp; omega) (fun j hj => by have := (ho.lt j hj).1; omega)
        have hs2 : w.heap.size + 1 ≤ w2.heap.size := by have := hgrow.size; simp at this; omega
        have hown2 : w2.ownsRow (w.heap.size + 1) 4 1 v' (k + 1) ((bitsR v n ++ List.replicate (k + 1 - n) false).map Value.bool) := by
          have e : k + 1 - n = (k - n) + 1 := by omega
          rw [e, List.replicate_succ', ← List.append_assoc, List.map_append]
          simpa using hown'
        clear ho hown' hgrow hbr hsz
        obtain ⟨g3, cap3, rfl, _, _, hl3, _⟩ := own_parts hown2 (by omega)
        clear hl3
        go_wp2
        go_roundw
        case rel => exact ⟨g3, cap3, k + 1, by omega, by omega, rfl, hown2, hb1, hs2⟩
        case measure => simp [sliceLen]; omega
      · obtain rfl : k = 64 := by omega
        clear hlt hk0
        go_wp2
        go_ret
        exact FIN.out wr _ ho hbr
  · generalize (bitsR v n).getD (n - 1) false = bb at *
    obtain rfl : sg = bb := hs
    go_wp2_with fail
    clear hlast hidx hi0 hi1
    go_loopw [5] (fun u wr => ∃ g cap k : Nat, n ≤ k ∧ k ≤ 64 ∧ u = .slice (some ⟨g, 0, none⟩) k cap ∧ wr.ownsRow (w.heap.size + 1) 4 1 (.slice (some ⟨g, 0, none⟩) k cap) k ((bitsR v n ++ List.replicate (k - n) sg).map Value.bool) ∧ Below w.heap.size w wr ∧ w.heap.size + 1 ≤ wr.heap.size) (fun u _ => 64 - sliceLen u)
    case atStart => exact ⟨g, cap, n, Nat.le_refl _, hn, rfl, by simpa using hown1, hb', hs1⟩
    case round =>
      obtain ⟨g2, cap2, k, hk1, hk2, rfl, ho, hbr, hsz⟩ := hrel
      clear hown1 hb' hs1 hc0 hc1
      have hk0 : 1 ≤ k := by omega
      by_cases hlt : k < 64
      · go_wp2_with (at_builtin; refine wpList_append_own _ rfl _ _ 55 rfl (w.heap.size + 1) 4 i0 (.bool false) 1 1 Tryd.underlying55 hi hz0 hz1 hz2 rfl (by decide) _ _ _ rfl (ho.alloc _) ⟨wr.heap.size, 0, none⟩ 1 1 [.bool sg] rfl rfl ?d1 ?d2 ?d3 ?d4 ?d5 ?_)
        case d1 => intro j u hj; match j, hj with | 0, hj => cases hj; exact cell_new1 _ _ _
        case d2 => intro u hu; simp at hu; subst hu; rfl
        case d3 => unfold maxLen; omega
        case d4 => omega
        case d5 => simp; omega
        intro v' w2 hown' hgrow _
        have hb1 : Below w.heap.size w w2 := (hbr.alloc hbr.size _).grown hgrow (by have := hbr.size; simp; omega) (fun j hj => by have := (ho.lt j hj).1; omega)
        have hs2 : w.heap.size + 1 ≤ w2.heap.size := by have := hgrow.size; simp at this; omega
        have hown2 : w2.ownsRow (w.heap.size + 1) 4 1 v' (k + 1) ((bitsR v n ++ List.replicate (k + 1 - n) sg).map Value.bool) := by
          have e : k + 1 - n = (k - n) + 1 := by omega
          rw [e, List.replicate_succ', ← List.append_assoc, List.map_append]
          simpa using hown'
        clear ho hown' hgrow hbr hsz
        obtain ⟨g3, cap3, rfl, _, _, hl3, _⟩ := own_parts hown2 (by omega)
        clear hl3
        go_wp2
        go_roundw
        case rel => exact ⟨g3, cap3, k + 1, by omega, by omega, rfl, hown2, hb1, hs2⟩
        case measure => simp [sliceLen]; omega
      · obtain rfl : k = 64 := by omega
        clear hlt hk0
        go_wp2
        go_ret
        exact FIN.out wr _ ho hbr

theorem val_app (l m : List Bool) : valL (l ++ m) = valL l + 2 ^ l.length * valL m := by
  induction l with
  | nil => simp [valL]
  | cons b r ih =>
    rw [List.cons_append, valL, ih, valL, List.length_cons, Int.pow_succ, Int.mul_add, Int.mul_comm (2 ^ r.length) 2, Int.mul_assoc]
    omega
theorem val_rep (m : Nat) (b : Bool) : valL (List.replicate m b) = if b then 2 ^ m - 1 else 0 := by
  induction m with
  | zero => cases b <;> rfl
  | succ m ih =>
    rw [List.replicate_succ, valL, ih, Int.pow_succ]
    cases b <;> simp <;> omega
theorem sgn_val (v : Int) (n : Nat) (h : 1 ≤ n) : sgn true v n = (v / 2 ^ (n - 1) % 2 == 1) := by
  obtain ⟨m, rfl⟩ : ∃ m, n = m + 1 := ⟨n - 1, by omega⟩
  unfold sgn
  rw [bits_snoc]
  simp [List.getD_eq_getElem?_getD, bits_len]
theorem wide_val (S : Bool) (v : Int) (n : Nat) : valL (wideL S v n) = v % 2 ^ n + 2 ^ n * (if sgn S v n then 2 ^ (64 - n) - 1 else 0) := by
  unfold wideL
  rw [val_app, val_bits, val_rep, bits_len]

/-- What the 64 bits stand for is what the value stands for. -/
theorem wide_int {W : Int} {S : Bool} {n : Nat} (hr : rt W S = true) (hW : W = n) (v : Int) (_hv : 0 ≤ v) : RowKit.wrap64 (valL (wideL S v n)) = stF W S v := by
  rw [wide_val]
  cases S
  · have e : sgn false v n = false := rfl
    rw [e]
    have e2 : stF W false v = RowKit.wrap64 (lowF W v) := rfl
    rw [e2, hW]
    simp [lowF]
  · have hn : n = 8 ∨ n = 16 ∨ n = 32 ∨ n = 64 := by
      rcases rt_cases hr with ⟨_, h⟩ | h
      · cases h
      · omega
    subst hW
    rw [sgn_val v n (by omega), wrap64_val]
    unfold stF
    rw [if_pos rfl]
    rcases hn with rfl | rfl | rfl | rfl
    · show (v % 2 ^ 8 + 2 ^ 8 * (if (v / 2 ^ 7 % 2 == 1) = true then 2 ^ 56 - 1 else 0) + 9223372036854775808) % 18446744073709551616 - 9223372036854775808 = (v + 2 ^ 7) % 2 ^ 8 - 2 ^ 7
      by_cases h : v / 2 ^ 7 % 2 = 1
      · rw [if_pos (by simpa using h)]; omega
      · rw [if_neg (by simpa using h)]; omega
    · show (v % 2 ^ 16 + 2 ^ 16 * (if (v / 2 ^ 15 % 2 == 1) = true then 2 ^ 48 - 1 else 0) + 9223372036854775808) % 18446744073709551616 - 9223372036854775808 = (v + 2 ^ 15) % 2 ^ 16 - 2 ^ 15
      by_cases h : v / 2 ^ 15 % 2 = 1
      · rw [if_pos (by simpa using h)]; omega
      · rw [if_neg (by simpa using h)]; omega
    · show (v % 2 ^ 32 + 2 ^ 32 * (if (v / 2 ^ 31 % 2 == 1) = true then 2 ^ 32 - 1 else 0) + 9223372036854775808) % 18446744073709551616 - 9223372036854775808 = (v + 2 ^ 31) % 2 ^ 32 - 2 ^ 31
      by_cases h : v / 2 ^ 31 % 2 = 1
      · rw [if_pos (by simpa using h)]; omega
      · rw [if_neg (by simpa using h)]; omega
    · show (v % 2 ^ 64 + 2 ^ 64 * (if (v / 2 ^ 63 % 2 == 1) = true then 2 ^ 0 - 1 else 0) + 9223372036854775808) % 18446744073709551616 - 9223372036854775808 = (v + 2 ^ 63) % 2 ^ 64 - 2 ^ 63
      by_cases h : v / 2 ^ 63 % 2 = 1
      · rw [if_pos (by simpa using h)]; omega
      · rw [if_neg (by simpa using h)]; omega

set_option maxHeartbeats 400000 in
theorem rint_any (W : Int) (S : Bool) (v : Int) (w : World) (hv0 : 0 ≤ v) (hv1 : v < 18446744073709551616) :
    Calls Tryd.prog 22 #[.agg #[.int .i64 W, .bool S], .int .u64 v] w fun e w' => e = .returned (.int .i64 (intF W S v)) ∧ Below w.heap.size w w' := by
  go_enter Tryd.func22, Tryd.ntmps22
  go_wp2_with fail
  refine (rright_any _ _ _).mono ?_
  rintro e w1 ⟨rfl, hb⟩
  have hc0 : w1.cell? ⟨w.heap.size, 0, none⟩ = some (.int .i64 W) := (hb.cell (p := ⟨w.heap.size, 0, none⟩) (by simp)).trans (by simp [go_sem])
  have hc1 : w1.cell? ⟨w.heap.size, 1, none⟩ = some (.bool S) := (hb.cell (p := ⟨w.heap.size, 1, none⟩) (by simp)).trans (by simp [go_sem])
  have hb' := below_box (by simpa using hb)
  clear hb
  by_cases hr : rt W S = true
  · obtain ⟨n, hW, hn1, hn64⟩ := rt_nat hr
    have e1 : intF W S v = RowKit.wrap64 (valL (wideL S v n)) := (if_pos hr).trans (wide_int hr hW v hv0).symm
    have E1 := Lib.hid e1
    have HR := Lib.hid hr
    clear e1
    rw [hW] at hc0
    clear hW
    go_wp2_with fail
    refine (wide_any n S v _ hn1 hn64 hv0 hv1).mono ?_
    rintro e w2 ⟨sl, rfl, hown, hb2⟩
    clear hc0 hc1
    go_wp2_with fail
    refine (value_own _ _ _ _ _ hown (by rw [wide_len hn64]; decide) (by rw [wide_len hn64]; decide)).mono ?_
    rintro e w3 ⟨rfl, rfl⟩
    go_wp2
    go_ret
    exact ⟨ret_int E1.out.symm, hb'.trans (hb2.mono hb'.size)⟩
  · have hr' : rt W S = false := by simpa using hr
    have e1 : intF W S v = 0 := if_neg hr
    have E1 := Lib.hid e1
    clear e1 hr
    go_wp2
    go_ret
    exact ⟨ret_int E1.out.symm, hb'⟩
end Go.Proofs.YtpfdbigdkegncaaDoor
