/- The law ParseBack. -/
import Derived.Test.YtnalgnklgmoepaaGreatDoorMWy
import Derived.Test.YtnalgnklgmoepaaGreatDoorMbar
set_option linter.all false
namespace Go.Proofs.YtnalgnklgmoepaaGreatDoor
open Go Go.RowKit

set_option maxHeartbeats 8000000 in
set_option maxRecDepth 100000 in
theorem back_law (s : ByteArray) (w : World) (h4 : Tab4 w) : Calls Tryz.prog 3 #[.string s] w fun e w' => e = .returned (.bool true) ∧ Below w.heap.size w w' := by
  have H4 := Lib.hid h4
  by_cases hl : (s.size : Int) ≤ 2000
  · have hsl := size_len s
    have HRD := Lib.hid (fun (W : World) (h : Tab3 W) => read_all s W h)
    rcases back_all s.data.toList (by omega) with ⟨x, y, c, hp, hc⟩ | ⟨t, l, ws, hp, hN, hd, hw, hn, hs, hag⟩
    · rw [hp] at HRD
      have hcb : (c != 0) = true := by simp [hc]
      have HR := Lib.hid (HRD.out w h4.1)
      clear hp hc h4 HRD hsl
      go_enter Tryz.func3, Tryz.ntmps3
      go_wp2_with fail
      refine (HR.out).mono ?_
      rintro e w1 ⟨rfl, hb1⟩
      have ha : Below w1.heap.size w1 (w1.alloc (.cells #[.string ⟨#[]⟩, .string ⟨#[]⟩, .int .u64 0, .int .i64 0, .int .i64 0, .slice none 0 0] 26)) := (Below.refl _ _).alloc (Nat.le_refl _) _
      have HB1 := Lib.hid (hb1.trans (ha.mono hb1.size))
      have HA := Lib.hid (awake_any _ (H4.out.below HB1.out))
      clear hb1 ha HR
      unfold zeroN
      go_wp2_with fail
      refine (HA.out).mono ?_
      rintro e w2 ⟨rfl, hb2⟩
      have HB2 := Lib.hid (HB1.out.trans (hb2.mono HB1.out.size))
      have HA2 := Lib.hid (awake_any w2 (H4.out.below HB2.out))
      clear hb2 HA
      go_wp2_with fail
      refine (HA2.out).mono ?_
      rintro e w3 ⟨rfl, hb3⟩
      go_wp2
      go_ret
      exact ⟨rfl, HB2.out.trans (hb3.mono HB2.out.size)⟩
    · rw [hp] at HRD
      have HR := Lib.hid (HRD.out w h4.1)
      have hu : (⟨(showS ws).toArray⟩ : ByteArray).data.toList = showS ws := by simp
      have HRS := Lib.hid (fun (W : World) (h : Tab3 W) => by have := read_all ⟨(showS ws).toArray⟩ W h; rw [hu] at this; exact this)
      have HAG := Lib.hid hag
      have HSW := Lib.hid (fun (v : Value) (W : World) (h : Tab4 W) (hL : Lies W (· < W.heap.size) t v) => show_any (deepT t) t v W ws h hL hN hw (by omega) (by omega))
      have HD := Lib.hid hd
      clear hp hN hw hn hs hag hu h4 HRD hsl hd
      go_enter Tryz.func3, Tryz.ntmps3
      go_wp2_with fail
      refine (HR.out).mono ?_
      rintro e w1 ⟨v, rfl, hb, hB1⟩
      have hL : Lies w1 (· < w1.heap.size) t v := Lies.move (fun g hg _ => ⟨hg, rfl⟩) t v hb.lies
      obtain ⟨qa, ca, rfl, _, _⟩ := hL.shape
      have ha : Below w1.heap.size w1 (w1.alloc (.cells (nodeC t (.slice qa t.kids.length ca)).toArray 26)) := (Below.refl _ _).alloc (Nat.le_refl _) _
      have HB1 := Lib.hid (hB1.trans (ha.mono hB1.size))
      have HA := Lib.hid (awake_any _ (H4.out.below HB1.out))
      have HAL := Lib.hid ha
      have HL := Lib.hid hL
      have N1 := Lib.hid (Hn.new t (.slice qa t.kids.length ca) w1)
      clear hb hB1 hL ha HR
      simp only [nodeC, nodeV] at *
      go_wp2_with fail
      refine (HA.out).mono ?_
      rintro e w2 ⟨rfl, hb2⟩
      have HB2 := Lib.hid (HB1.out.trans (hb2.mono HB1.out.size))
      have HS2 := Lib.hid (HAL.out.trans (hb2.mono HAL.out.size))
      have N2 := Lib.hid (N1.out.below hb2)
      have HSH := Lib.hid (HSW.out (.slice qa t.kids.length ca) w2 (H4.out.below HB2.out) (Lies.move (fun g hg hok => ⟨Nat.lt_of_lt_of_le hg HS2.out.size, HS2.out.block g hg⟩) _ _ HL.out))
      obtain ⟨c0, c1, c2, c3, c4, c5⟩ := N2.out.cells
      have hl2 := N2.out.lt
      clear hb2 HA HB1 HAL N1 HSW
      simp only [nodeC, nodeV] at *
      go_wp2_with fail
      refine (HSH.out).mono ?_
      rintro e w3 ⟨rfl, hb3⟩
      have HB3 := Lib.hid (HB2.out.trans (hb3.mono HB2.out.size))
      have HS3 := Lib.hid (HS2.out.trans (hb3.mono HS2.out.size))
      have N3 := Lib.hid (N2.out.below hb3)
      have HR := Lib.hid (HRS.out w3 (H4.out.below HB3.out).1)
      clear hb3 HSH HB2 HS2 N2 HRS c0 c1 c2 c3 c4 c5 hl2
      generalize readL (showS ws) = P2 at *
      rcases HAG.out with ⟨x, y, rfl, hdeep⟩ | ⟨t', l', rfl, hsame⟩
      · clear HAG
        go_wp2_with fail
        refine (HR.out).mono ?_
        rintro e w4 ⟨rfl, hb4⟩
        have ha : Below w4.heap.size w4 (w4.alloc (.cells #[.string ⟨#[]⟩, .string ⟨#[]⟩, .int .u64 0, .int .i64 0, .int .i64 0, .slice none 0 0] 26)) := (Below.refl _ _).alloc (Nat.le_refl _) _
        have hb5 := hb4.trans (ha.mono hb4.size)
        have HB5 := Lib.hid (HB3.out.trans (hb5.mono HB3.out.size))
        have HS5 := Lib.hid (HS3.out.trans (hb5.mono HS3.out.size))
        have N5 := Lib.hid (N3.out.below hb5)
        have HDP := Lib.hid (deep_any w1.heap.size (SizeOf.sizeOf t + 1) t (Nat.lt_succ_self _) (.slice qa t.kids.length ca) _ HS5.out.size (HL.out.keep HS5.out) (by have := HD.out; omega))
        obtain ⟨c0, c1, c2, c3, c4, c5⟩ := N5.out.cells
        have hl5 := N5.out.lt
        have hdi : (20 : Int) < (deepT t : Int) := by omega
        clear hb4 ha hb5 HR N3 HB3 HS3 hdeep
        unfold zeroN
        simp only [nodeC, nodeV] at *
        go_wp2_with fail
        refine (HDP.out).mono ?_
        rintro e w6 ⟨rfl, hb6⟩
        have HB6 := Lib.hid (HB5.out.trans (hb6.mono HB5.out.size))
        clear hb6
        go_wp2
        go_ret
        exact ⟨rfl, HB6.out⟩
      · clear HAG
        go_wp2_with fail
        refine (HR.out).mono ?_
        rintro e w4 ⟨v', rfl, hbd, hb4⟩
        have hL' : Lies w4 (· < w4.heap.size) t' v' := Lies.move (fun g hg _ => ⟨hg, rfl⟩) t' v' hbd.lies
        obtain ⟨qb, cb, rfl, _, _⟩ := hL'.shape
        have ha : Below w4.heap.size w4 (w4.alloc (.cells (nodeC t' (.slice qb t'.kids.length cb)).toArray 26)) := (Below.refl _ _).alloc (Nat.le_refl _) _
        have hb5 := hb4.trans (ha.mono hb4.size)
        have HB5 := Lib.hid (HB3.out.trans (hb5.mono HB3.out.size))
        have N5 := Lib.hid (N3.out.below hb5)
        have M5 := Lib.hid (Hn.new t' (.slice qb t'.kids.length cb) w4)
        have hs4 : w1.heap.size ≤ w4.heap.size := by have := HS3.out.size; have := hb4.size; omega
        have LA4 := Lies.move (ok' := (· < w4.heap.size)) (fun g hg hok => ⟨Nat.lt_of_lt_of_le hok hs4, rfl⟩) _ _ (HL.out.keep (HS3.out.trans (hb4.mono HS3.out.size)))
        have LA5 := Lib.hid (LA4.keep ha)
        have LB5 := Lib.hid (hL'.keep ha)
        have HC := Lib.hid (same_any w4.heap.size (SizeOf.sizeOf t + 1) t (Nat.lt_succ_self _) t' _ _ _ ha.size LA5.out LB5.out)
        have HCR := Lib.hid (fun (W : World) (h1 : w4.heap.size ≤ W.heap.size) (h2 : Lies W (· < w4.heap.size) t (.slice qa t.kids.length ca)) (h3 : Lies W (· < w4.heap.size) t' (.slice qb t'.kids.length cb)) => rsame_any w4.heap.size (SizeOf.sizeOf t + 1) t (Nat.lt_succ_self _) t' _ _ W h1 h2 h3)
        rw [hsame] at HC HCR
        have HA5 := Lib.hid ha
        obtain ⟨c0, c1, c2, c3, c4, c5⟩ := N5.out.cells
        obtain ⟨d0, d1, d2, d3, d4, d5⟩ := M5.out.cells
        have hl5 := N5.out.lt
        clear hbd hL' hb4 ha hb5 HR N3 HB3 HS3 LA4
        simp only [nodeC, nodeV] at *
        go_wp2_with fail
        refine (HC.out).mono ?_
        rintro e w6 ⟨rfl, hb6⟩
        have HB6 := Lib.hid (HB5.out.trans (hb6.mono HB5.out.size))
        have HS6 := HA5.out.trans (hb6.mono HA5.out.size)
        have HC6 := Lib.hid (HCR.out w6 HS6.size (LA5.out.keep (hb6.mono HA5.out.size)) (LB5.out.keep (hb6.mono HA5.out.size)))
        have N6 := Lib.hid (N5.out.below hb6)
        have M6 := Lib.hid (M5.out.below hb6)
        obtain ⟨c0, c1, c2, c3, c4, c5⟩ := N6.out.cells
        obtain ⟨d0, d1, d2, d3, d4, d5⟩ := M6.out.cells
        have hl6 := N6.out.lt
        clear hb6 HC HCR HB5 N5 M5 LA5 LB5 HA5 HS6 hl5
        simp only [nodeC, nodeV] at *
        go_wp2_with fail
        refine (HC6.out).mono ?_
        rintro e w7 ⟨rfl, hb7⟩
        have HB7 := Lib.hid (HB6.out.trans (hb7.mono HB6.out.size))
        clear hb7
        go_wp2
        go_ret
        exact ⟨rfl, HB7.out⟩
  · have HA := Lib.hid (awake_any w h4)
    clear h4
    go_enter Tryz.func3, Tryz.ntmps3
    go_wp2_with fail
    refine (HA.out).mono ?_
    rintro e w1 ⟨rfl, hb⟩
    go_wp2
    go_ret
    exact ⟨rfl, hb⟩
end Go.Proofs.YtnalgnklgmoepaaGreatDoor
