/- What the laws ask of the program once. -/
import Derived.Test.YtpfoaaiedfidbaaGreatDoorGf
import Derived.Test.YtpfoaaiedfidbaaGreatDoorBf
namespace Go.Proofs.YtpfoaaiedfidbaaGreatDoor
open Go Go.RowKit

/-- The clauses, built. -/
theorem aw_built (w : World) : Grid (((w.alloc (.cells #[.int .i64 1, .int .i64 (-2)] 3)).alloc (.cells #[.int .i64 2, .int .i64 3] 3)).alloc (.cells #[.slice (some ⟨w.heap.size, 0, none⟩) 2 2, .slice (some ⟨w.heap.size + 1, 0, none⟩) 2 2] 23)) (w.heap.size + 1 + 1 + 1) (.slice (some ⟨w.heap.size + 1 + 1, 0, none⟩) 2 2) awL := by
  have e1 : ∀ o : Obj, (w.alloc o).heap.size = w.heap.size + 1 := fun o => by simp
  have e2 : ∀ o p : Obj, ((w.alloc o).alloc p).heap.size = w.heap.size + 1 + 1 := fun o p => by simp
  have g1 := Nums.built w [1, -2] #[.int .i64 1, .int .i64 (-2)] 2 rfl rfl
  have g2 := Nums.built (w.alloc (.cells #[.int .i64 1, .int .i64 (-2)] 3)) [2, 3] #[.int .i64 2, .int .i64 3] 2 rfl rfl
  rw [e1] at g2
  have g1' := (g1.below ((Below.refl _ (w.alloc (.cells #[.int .i64 1, .int .i64 (-2)] 3))).alloc (Nat.le_refl _) (.cells #[.int .i64 2, .int .i64 3] 3)) (by rw [e1]; omega)).le (show w.heap.size + 1 ≤ w.heap.size + 1 + 1 by omega)
  have := Grid.built ((w.alloc (.cells #[.int .i64 1, .int .i64 (-2)] 3)).alloc (.cells #[.int .i64 2, .int .i64 3] 3)) awL [.slice (some ⟨w.heap.size, 0, none⟩) 2 2, .slice (some ⟨w.heap.size + 1, 0, none⟩) 2 2] 2 rfl rfl (fun j hj => by
    rw [e2]
    match j, hj with
    | 0, _ => exact g1'
    | 1, _ => exact g2
    | n + 2, h => exact absurd (show n + 2 < 2 from h) (by omega))
  rw [e2] at this
  exact this
theorem Grid.le {w : World} {B C : Nat} {v : Value} {l : List (List Int)} (h : Grid w B v l) (hB : B ≤ C) : Grid w C v l := by
  obtain ⟨A, c, rfl, hc, hat⟩ := h
  refine ⟨A, c, rfl, hc, fun h0 => ?_⟩
  obtain ⟨b, off, rfl, hb, hcell⟩ := hat h0
  exact ⟨b, off, rfl, Nat.lt_of_lt_of_le hb hB, fun j hj => by obtain ⟨u, hu, hn⟩ := hcell j hj; exact ⟨u, hu, hn.le hB⟩⟩
theorem alloc_size (w : World) (o : Obj) : (w.alloc o).heap.size = w.heap.size + 1 := by simp
theorem below_alloc {a w : World} (h : Below a.heap.size a w) (o : Obj) : Below a.heap.size a (w.alloc o) := h.alloc h.size o
theorem below_then {a w w' : World} (h : Below a.heap.size a w) (k : Below w.heap.size w w') : Below a.heap.size a w' := h.trans (k.mono h.size)
/-- Over whatever leaves the old blocks. -/
theorem Grid.go {w w' : World} {v : Value} {l : List (List Int)} (h : Grid w w.heap.size v l) (hb : Below w.heap.size w w') : Grid w' w'.heap.size v l := (h.below hb (Nat.le_refl _)).le hb.size
theorem Nums.go {w w' : World} {v : Value} {xs : List Int} (h : Nums w w.heap.size v xs) (hb : Below w.heap.size w w') : Nums w' w'.heap.size v xs := (h.below hb (Nat.le_refl _)).le hb.size
theorem Grid.alloc {w : World} {v : Value} {l : List (List Int)} (h : Grid w w.heap.size v l) (o : Obj) : Grid (w.alloc o) (w.alloc o).heap.size v l := h.go (below_alloc (Below.refl _ w) o)
theorem Nums.alloc {w : World} {v : Value} {xs : List Int} (h : Nums w w.heap.size v xs) (o : Obj) : Nums (w.alloc o) (w.alloc o).heap.size v xs := h.go (below_alloc (Below.refl _ w) o)
theorem Nums.new (w : World) (xs : List Int) (cs : Array Value) (n : Nat) (hn : n = xs.length) (hcs : cs = (encs xs).toArray) : Nums (w.alloc (.cells cs 3)) (w.alloc (.cells cs 3)).heap.size (.slice (some ⟨w.heap.size, 0, none⟩) n n) xs := by
  rw [alloc_size]
  exact Nums.built w xs cs n hn hcs
theorem aw_few : Few awL [-1] := ⟨by decide, by decide, by decide, by decide, by decide⟩
theorem same_b (v u : Value) (xs ys : List Int) (w : World) (h : Nums w w.heap.size v xs) (h' : Nums w w.heap.size u ys) (hl : xs.length ≤ 9223372036854775806) (he : xs = ys) :
    Calls Tryz.prog 17 #[v, u] w fun e w' => e = .returned (.bool true) ∧ Below w.heap.size w w' := by
  subst he
  refine (same_any v u xs xs w _ _ h h' hl hl).mono ?_
  rintro e w' ⟨rfl, q, rfl⟩
  exact ⟨by simp [sameB], below_drewN _ _⟩
theorem sameAll_b (v u : Value) (l : List (List Int)) (w : World) (h : Grid w w.heap.size v l) (h' : Grid w w.heap.size u l) (hf : Fits l) :
    Calls Tryz.prog 21 #[v, u] w fun e w' => e = .returned (.bool true) ∧ Below w.heap.size w w' := by
  refine (sameAll_any v u l l w _ _ h h' hf hf).mono ?_
  rintro e w' ⟨rfl, q, rfl⟩
  exact ⟨by simp [sameAllB], below_drewN _ _⟩
theorem aw_len : (showL awL).length ≤ 1000000 := by
  have := congrArg ByteArray.size aw_show
  rw [arr_size] at this
  rw [this]
  decide
theorem aw_spread (v u : Value) (w : World) (hv : Grid w w.heap.size v awL) (hu : Nums w w.heap.size u [-1]) :
    Calls Tryz.prog 11 #[v, u] w fun e w' => ∃ v', e = .returned (.tuple #[v', .bool true]) ∧ Nums w' w'.heap.size v' [-2, -1, 3] ∧ Below w.heap.size w w' :=
  (spread_any v u awL [-1] w _ hv hu aw_few (Nat.le_refl _)).mono fun e w' ⟨hb, h⟩ => by
    rcases h with ⟨v', a, he, ho, hs, _⟩ | ⟨_, hn⟩
    · rw [hs.unique aw_ok] at ho
      exact ⟨v', he, ho.nums, hb⟩
    · exact absurd hn aw_no
theorem aw_resolve (v u : Value) (w : World) (hv : Nums w w.heap.size v [2, 3]) (hu : Nums w w.heap.size u [-2, 1]) :
    Calls Tryz.prog 15 #[v, u, .int .i64 2] w fun e w' => ∃ v', e = .returned (.tuple #[v', .bool true]) ∧ Nums w' w'.heap.size v' [1, 3] ∧ Below w.heap.size w w' :=
  (resolve_any v u [2, 3] [-2, 1] 2 w _ hv hu (by decide) (by decide) (by decide) (by decide) (Nat.le_refl _)).mono fun e w' ⟨hb, h⟩ => by
    rcases h with ⟨_, _, v', he, ho⟩ | ⟨h, _⟩
    · rw [aw_up] at ho
      exact ⟨v', he, ho.nums, hb⟩
    · rw [aw_res, aw_both] at h
      rcases h with h | h <;> cases h
set_option maxHeartbeats 8000000 in
set_option maxRecDepth 100000 in
theorem awake_any (w : World) (hp : Pow w) :
    Calls Tryz.prog 10 #[] w fun e w' => e = .returned (.bool true) ∧ Below w.heap.size w w' := by
  have HP := Lib.hid hp
  have e3 : ∀ o p q : Obj, (((w.alloc o).alloc p).alloc q).heap.size = w.heap.size + 1 + 1 + 1 := fun o p q => by simp
  have hg := aw_built w
  rw [← e3 (.cells #[.int .i64 1, .int .i64 (-2)] 3) (.cells #[.int .i64 2, .int .i64 3] 3) (.cells #[.slice (some ⟨w.heap.size, 0, none⟩) 2 2, .slice (some ⟨w.heap.size + 1, 0, none⟩) 2 2] 23)] at hg
  have HG := Lib.hid hg
  have HB : Hid (∀ o p q : Obj, Below w.heap.size w (((w.alloc o).alloc p).alloc q)) := Lib.hid (fun o p q => below_alloc (below_alloc (below_alloc (Below.refl _ w) o) p) q)
  have HS := Lib.hid (show_any _ awL _ _ HG.out aw_small aw_may (Nat.le_refl _) (HP.out.under (HB.out _ _ _) HP.out.lt) aw_len)
  rw [aw_show] at HS
  clear hp e3 hg
  go_enter Tryz.func10, Tryz.ntmps10
  go_wp2_with fail
  refine (HS.out).mono ?_
  rintro e w1 ⟨rfl, hb1⟩
  have HG1 := Lib.hid (HG.out.go hb1)
  have HB1 := Lib.hid (below_then (HB.out _ _ _) hb1)
  clear hb1 HS HG HB
  have HR := Lib.hid (show Calls Tryz.prog 20 #[.string ⟨#[49, 32, 45, 50, 32, 48, 10, 50, 32, 51, 32, 48, 10]⟩] w1 _ from read_any awL awW _ aw_text w1 (HP.out.under HB1.out HP.out.lt))
  go_wp2_with fail
  refine (HR.out).mono ?_
  rintro e w2 ⟨v2, rfl, hm2, hb2⟩
  have HG2 := Lib.hid (HG1.out.go hb2)
  have HM2 := Lib.hid hm2.grid
  have HB2 := Lib.hid (below_then HB1.out hb2)
  clear hm2 hb2 HR HG1 HB1
  have HC := Lib.hid (aw_spread _ _ (w2.alloc (.cells #[.int .i64 (-1)] 3)) (HG2.out.alloc _) (Nums.new w2 [-1] #[.int .i64 (-1)] 1 rfl rfl))
  go_wp2_with fail
  refine (HC.out).mono ?_
  rintro e w3 ⟨v3, rfl, hn3, hb3⟩
  have HG3 := Lib.hid ((HG2.out.alloc _).go hb3)
  have HM3 := Lib.hid ((HM2.out.alloc _).go hb3)
  have HN3 := Lib.hid hn3
  have HB3 := Lib.hid (below_then (below_alloc HB2.out _) hb3)
  clear hn3 hb3 HC HG2 HM2 HB2
  have HR := Lib.hid (aw_resolve _ _ ((w3.alloc (.cells #[.int .i64 2, .int .i64 3] 3)).alloc (.cells #[.int .i64 (-2), .int .i64 1] 3)) ((Nums.new w3 [2, 3] #[.int .i64 2, .int .i64 3] 2 rfl rfl).alloc _) (Nums.new (w3.alloc (.cells #[.int .i64 2, .int .i64 3] 3)) [-2, 1] #[.int .i64 (-2), .int .i64 1] 2 rfl rfl))
  rw [alloc_size] at HR
  go_wp2_with fail
  refine (HR.out).mono ?_
  rintro e w4 ⟨v4, rfl, hn4, hb4⟩
  have HG4 := Lib.hid (((HG3.out.alloc _).alloc _).go hb4)
  have HM4 := Lib.hid (((HM3.out.alloc _).alloc _).go hb4)
  have HN4 := Lib.hid (((HN3.out.alloc _).alloc _).go hb4)
  have HR4 := Lib.hid hn4
  have HB4 := Lib.hid (below_then (below_alloc (below_alloc HB3.out _) _) hb4)
  clear hn4 hb4 HR HG3 HM3 HN3 HB3
  have HS := Lib.hid (sameAll_b _ _ awL w4 HM4.out HG4.out aw_small.fits)
  go_wp2_with fail
  refine (HS.out).mono ?_
  rintro e w5 ⟨rfl, hb5⟩
  have HG5 := Lib.hid (HG4.out.go hb5)
  have HN5 := Lib.hid (HN4.out.go hb5)
  have HR5 := Lib.hid (HR4.out.go hb5)
  have HB5 := Lib.hid (below_then HB4.out hb5)
  clear hb5 HS HG4 HM4 HN4 HR4 HB4
  have HS := Lib.hid (same_b _ _ [-2, -1, 3] [-2, -1, 3] (w5.alloc (.cells #[.int .i64 (-2), .int .i64 (-1), .int .i64 3] 3)) (HN5.out.alloc _) (Nums.new w5 [-2, -1, 3] #[.int .i64 (-2), .int .i64 (-1), .int .i64 3] 3 rfl rfl) (by decide) rfl)
  go_wp2_with fail
  refine (HS.out).mono ?_
  rintro e w6 ⟨rfl, hb6⟩
  have HG6 := Lib.hid ((HG5.out.alloc _).go hb6)
  have HR6 := Lib.hid ((HR5.out.alloc _).go hb6)
  have HB6 := Lib.hid (below_then (below_alloc HB5.out _) hb6)
  clear hb6 HS HG5 HN5 HR5 HB5
  have HS := Lib.hid (same_b _ _ [1, 3] [1, 3] (w6.alloc (.cells #[.int .i64 1, .int .i64 3] 3)) (HR6.out.alloc _) (Nums.new w6 [1, 3] #[.int .i64 1, .int .i64 3] 2 rfl rfl) (by decide) rfl)
  go_wp2_with fail
  refine (HS.out).mono ?_
  rintro e w7 ⟨rfl, hb7⟩
  have HG7 := Lib.hid ((HG6.out.alloc _).go hb7)
  have HB7 := Lib.hid (below_then (below_alloc HB6.out _) hb7)
  clear hb7 HS HG6 HR6 HB6
  have HM := Lib.hid (most_any _ awL w7 _ HG7.out aw_small.fits)
  rw [aw_most] at HM
  have HH := Lib.hid (holds_any _ _ awL [1, 3] (w7.alloc (.cells #[.int .i64 1, .int .i64 3] 3)) _ (HG7.out.alloc _) aw_small (Nums.new w7 [1, 3] #[.int .i64 1, .int .i64 3] 2 rfl rfl) (by decide) aw_may (by decide) (Nat.le_refl _))
  rw [aw_holds] at HH
  go_wp2_with (go_at_call 22; refine (HM.out).mono ?_; rintro e w' ⟨rfl, hw⟩; subst hw)
  refine (HH.out).mono ?_
  rintro e w8 ⟨rfl, hb8⟩
  have HG8 := Lib.hid ((HG7.out.alloc _).go hb8)
  have HB8 := Lib.hid (below_then (below_alloc HB7.out _) hb8)
  clear hb8 HH HM HG7 HB7
  have HK := Lib.hid (check_any _ awL w8 _ HG8.out aw_small.fits)
  rw [aw_check] at HK
  go_wp2_with (go_at_call 24; refine (HK.out).mono ?_; rintro e w' ⟨rfl, hw⟩; subst hw)
  go_ret
  exact ⟨rfl, HB8.out⟩
end Go.Proofs.YtpfoaaiedfidbaaGreatDoor
