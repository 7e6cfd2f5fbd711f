/- The contracts of word's Of and skuaref01's Name; the law WordTypes: its walk. -/
import Derived.Test.YtpfdbigdkegncaaDoorZ
import Derived.Test.YtpfdbigdkegncaaDoorP
namespace Go.Proofs.YtpfdbigdkegncaaDoor
open Go.RowKit

theorem belowx {w w' : World} {o : Obj} (h : Below (w.alloc o).heap.size (w.alloc o) w') : Below (w.heap.size + 1) (w.alloc o) w' := by simpa using h
theorem box_cells' {w w' : World} {W : Int} {S : Bool} (hb : Below (w.heap.size + 1) (w.alloc (.cells #[.int .i64 W, .bool S] 23)) w') :
    w'.cell? ⟨w.heap.size, 0, none⟩ = some (.int .i64 W) ∧ w'.cell? ⟨w.heap.size, 1, none⟩ = some (.bool S) :=
  ⟨(hb.cell (p := ⟨w.heap.size, 0, none⟩) (by simp)).trans (cell_new _ _ _ 0), (hb.cell (p := ⟨w.heap.size, 1, none⟩) (by simp)).trans (cell_new _ _ _ 1)⟩
theorem of_hit {s : ByteArray} {k : Nat} (h : k < 9) (hs : tN k = s) (hn : ofFrom s (tabL.drop k) = ofName s) : (tW k, tS k, true) = ofName s := by
  rw [tab_drop k h] at hn
  rw [← hn, ofFrom, if_pos hs]
theorem of_miss {s : ByteArray} {k : Nat} (h : k < 9) (hs : tN k ≠ s) (hn : ofFrom s (tabL.drop k) = ofName s) : ofFrom s (tabL.drop (k + 1)) = ofName s := by
  rw [tab_drop k h] at hn
  rw [← hn, ofFrom, if_neg hs]
theorem of_end {s : ByteArray} {k : Nat} (h : k ≤ 9) (h' : ¬ k < 9) (hn : ofFrom s (tabL.drop k) = ofName s) : ((0 : Int), false, false) = ofName s := by
  obtain rfl : k = 9 := by omega
  rw [← hn]
  rfl

set_option maxHeartbeats 1000000 in
theorem of_at (b off cap : Nat) (s : ByteArray) (w : World) (ht : TabAt b off cap w) :
    Calls Tryd.prog 14 #[.string s] w fun e w' => e = .returned (.tuple #[.agg #[.int .i64 (ofName s).1, .bool (ofName s).2.1], .bool (ofName s).2.2]) ∧ Below w.heap.size w w' := by
  have g := ht.tg
  have hz : 0 < w.heap.size := cell_lt g
  generalize hx : ofName s = x
  obtain ⟨x1, x2, x3⟩ := x
  have HX := Lib.hid hx
  clear hx
  go_enter Tryd.func14, Tryd.ntmps14
  go_wp2
  go_loopw [8] (fun i wr => ∃ k : Nat, k ≤ 9 ∧ i = .int .i64 k ∧ ofFrom s (tabL.drop k) = ofName s ∧ Below (w.heap.size + 1) (w.alloc (.cells #[.int .i64 0, .bool false] 23)) wr) (fun i _ => 9 - (intOf i).toNat)
  case atStart => exact ⟨0, Nat.zero_le _, rfl, rfl, Below.refl _ _⟩
  case round =>
    obtain ⟨k, hk, rfl, hn, hb⟩ := hrel
    have ht1 := (ht.below ((Below.refl _ _).alloc (Nat.le_refl _) (.cells #[.int .i64 0, .bool false] 23))).below (by simp; exact hb)
    have b0 : wr.cell? ⟨w.heap.size, 0, none⟩ = some (.int .i64 0) := (hb.cell (p := ⟨w.heap.size, 0, none⟩) (by simp)).trans (by simp [go_sem])
    have b1 : wr.cell? ⟨w.heap.size, 1, none⟩ = some (.bool false) := (hb.cell (p := ⟨w.heap.size, 1, none⟩) (by simp)).trans (by simp [go_sem])
    have f0 : wr.frozen? ⟨w.heap.size, 0, none⟩ = false := (hb.frozen (p := ⟨w.heap.size, 0, none⟩) (by simp)).trans (by simp [go_sem])
    have f1 : wr.frozen? ⟨w.heap.size, 1, none⟩ = false := (hb.frozen (p := ⟨w.heap.size, 1, none⟩) (by simp)).trans (by simp [go_sem])
    have hsz : w.heap.size < wr.heap.size := by have := hb.size; simp at this; omega
    have Hn := Lib.hid hn
    clear hn g
    by_cases hlt : k < 9
    · have c0 := ht1.tn k hlt
      have c1 := ht1.tw k hlt
      have c2 := ht1.ts k hlt
      clear ht ht1
      by_cases he : tN k = s
      · have e1 : ((tN k).toList == s.toList) = true := by simp [he]
        have HE := Lib.hid he
        clear he
        go_wp2
        have hxx := (of_hit hlt HE.out Hn.out).trans HX.out
        simp only [Prod.mk.injEq] at hxx
        obtain ⟨rfl, rfl, rfl⟩ := hxx
        exact bodyPost_ret (v := .tuple #[.agg #[.int .i64 (tW k), .bool (tS k)], .bool true]) (by simp [results, Tryd.results14, go_sem, b0, b1, hsz]) rfl ⟨rfl, (((below_box hb).setCell (p := ⟨w.heap.size, 0, none⟩) (Nat.le_refl _) _).setCell (p := ⟨w.heap.size, 1, none⟩) (Nat.le_refl _) _).alloc (by simp [World.setCell]; omega) _⟩
      · have e1 : ((tN k).toList == s.toList) = false := bytes_list he
        have HE := Lib.hid he
        clear he
        go_wp2
        exact ⟨⟨k + 1, by omega, by go_num, of_miss hlt HE.out Hn.out, hb.alloc hsz _⟩, by simp [intOf]; omega⟩
    · clear ht ht1
      go_wp2
      have hxx := (of_end hk hlt Hn.out).trans HX.out
      simp only [Prod.mk.injEq] at hxx
      obtain ⟨rfl, rfl, rfl⟩ := hxx
      exact bodyPost_ret (v := .tuple #[.agg #[.int .i64 0, .bool false], .bool false]) (by simp [results, Tryd.results14, go_sem, b0, b1]) rfl ⟨rfl, ((below_box hb).setCell (p := ⟨w.heap.size, 0, none⟩) (Nat.le_refl _) _).setCell (p := ⟨w.heap.size, 1, none⟩) (Nat.le_refl _) _⟩

theorem of_any (s : ByteArray) (w : World) (ht : Tab w) :
    Calls Tryd.prog 14 #[.string s] w fun e w' => e = .returned (.tuple #[.agg #[.int .i64 (ofName s).1, .bool (ofName s).2.1], .bool (ofName s).2.2]) ∧ Below w.heap.size w w' := by
  obtain ⟨b, off, cap, ht⟩ := ht
  exact of_at b off cap s w ht

set_option maxHeartbeats 400000 in
theorem rname_no (W : Int) (S : Bool) (w : World) (hr : rt W S = false) :
    Calls Tryd.prog 16 #[.agg #[.int .i64 W, .bool S]] w fun e w' => e = .returned (.string ⟨#[]⟩) ∧ Below w.heap.size w w' := by
  go_enter Tryd.func16, Tryd.ntmps16
  go_wp2_with fail
  refine (rright_any _ _ _).mono ?_
  rintro e w1 ⟨rfl, hb⟩
  have hb' := below_box (by simpa using hb)
  clear hb
  go_wp2
  go_ret
  exact ⟨rfl, hb'⟩
set_option maxHeartbeats 1000000 in
theorem rname_yes (W : Int) (S : Bool) (w : World) (hr : rt W S = true) (hW : (W = 1 ∧ S = false) ∨ (W = 8 ∧ S = false) ∨ (W = 8 ∧ S = true) ∨ (W = 16 ∧ S = false) ∨ (W = 16 ∧ S = true) ∨ (W = 32 ∧ S = false) ∨ (W = 32 ∧ S = true) ∨ (W = 64 ∧ S = false) ∨ (W = 64 ∧ S = true)) :
    Calls Tryd.prog 16 #[.agg #[.int .i64 W, .bool S]] w fun e w' => e = .returned (.string (nameOf W S)) ∧ Below w.heap.size w w' := by
  rcases hW with ⟨rfl, rfl⟩ | ⟨rfl, rfl⟩ | ⟨rfl, rfl⟩ | ⟨rfl, rfl⟩ | ⟨rfl, rfl⟩ | ⟨rfl, rfl⟩ | ⟨rfl, rfl⟩ | ⟨rfl, rfl⟩ | ⟨rfl, rfl⟩
  all_goals
    go_enter Tryd.func16, Tryd.ntmps16
    go_wp2_with fail
    refine (rright_any _ _ _).mono ?_
    rintro e w1 ⟨rfl, hb⟩
    have hbx : Below (w.heap.size + 1) (w.alloc (.cells #[.int .i64 _, .bool _] 23)) w1 := belowx hb
    obtain ⟨hc0, hc1⟩ := box_cells' hbx
    have hb' := below_box hbx
    clear hb hbx
    go_wp2
    go_ret
    exact ⟨ret_str (by decide +kernel), hb'⟩
end Go.Proofs.YtpfdbigdkegncaaDoor
