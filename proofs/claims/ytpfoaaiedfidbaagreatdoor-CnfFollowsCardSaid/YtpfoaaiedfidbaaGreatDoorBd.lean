/- Few clauses; the same clauses; whether clauses hold; the greatest variable (the document's). -/
import Derived.Test.YtpfoaaiedfidbaaGreatDoorBc
import Derived.WalkLawsBesides
namespace Go.Proofs.YtpfoaaiedfidbaaGreatDoor
open Go Go.RowKit

def shortAll (l : List (List Int)) : Bool := l.all fun c => decide (c.length ≤ 20)
def fewB (l : List (List Int)) : Bool := decide (l.length ≤ 40) && shortAll l
theorem shortAll_snoc {l : List (List Int)} {k : Nat} {c : List Int} (h : k < l.length) (hc : l.getD k [] = c) : shortAll (l.take (k + 1)) = (shortAll (l.take k) && decide (c.length ≤ 20)) := by
  unfold shortAll
  rw [List.take_succ_eq_append_getElem h]
  simp only [List.getD, List.getElem?_eq_getElem h, Option.getD_some] at hc
  rw [hc]
  simp
theorem few_bad {l : List (List Int)} {k : Nat} {c : List Int} (h : k < l.length) (hc : l.getD k [] = c) (hb : ¬ c.length ≤ 20) : fewB l = false := by
  have : shortAll l = false := by
    unfold shortAll
    rw [List.all_eq_false]
    simp only [List.getD, List.getElem?_eq_getElem h, Option.getD_some] at hc
    exact ⟨c, hc ▸ List.getElem_mem h, by simpa using hb⟩
  simp [fewB, this]
theorem few_fine {l : List (List Int)} {k : Nat} (h0 : l.length ≤ 40) (h : ¬ k < l.length) (ha : shortAll (l.take k) = true) : fewB l = true := by
  rw [List.take_of_length_le (by omega)] at ha
  simp [fewB, ha, h0]
set_option maxHeartbeats 800000 in
theorem few_any (v : Value) (l : List (List Int)) (w : World) (B : Nat) (h : Grid w B v l) (hf : Fits l) :
    Calls Tryz.prog 6 #[v] w fun e w' => e = .returned (.bool (fewB l)) ∧ w = w' := by
  obtain ⟨A, c, rfl, hc, hat⟩ := h
  have HA := Lib.hid hat
  have HF := Lib.hid hf
  have hl := hf.1
  clear hat hf
  by_cases h40 : l.length ≤ 40
  · go_enter Tryz.func6, Tryz.ntmps6
    go_wp2
    go_loop [3] (fun i => ∃ k : Nat, k ≤ l.length ∧ i = .int .i64 k ∧ Hid (shortAll (l.take k) = true)) (fun i => l.length - (intOf i).toNat)
    case atStart => exact ⟨0, Nat.zero_le _, rfl, Lib.hid (by simp [shortAll])⟩
    case round =>
      obtain ⟨k, hk, rfl, hso⟩ := hrel
      by_cases hlt : k < l.length
      · obtain ⟨b, off, rfl, hb, hcell⟩ := HA.out (by omega)
        obtain ⟨r, hr⟩ : ∃ r, l.getD k [] = r := ⟨_, rfl⟩
        obtain ⟨u, hu, hn⟩ := hcell k hlt
        rw [hr] at hn
        have HR := Lib.hid hr
        clear hcell hr
        obtain ⟨A2, c2, rfl, hc2, _⟩ := hn
        by_cases h20 : r.length ≤ 20
        · go_wp2
          go_round
          case rel => exact ⟨k + 1, by omega, by go_num, Lib.hid (by rw [shortAll_snoc hlt HR.out, hso.out]; simpa using h20)⟩
          case measure => simp [intOf]; omega
        · have hin := Lib.hid (few_bad hlt HR.out h20)
          go_wp2
          go_ret
          exact ⟨ret_bool hin.out.symm, rfl⟩
      · have hin := Lib.hid (few_fine h40 hlt hso.out)
        go_wp2
        go_ret
        exact ⟨ret_bool hin.out.symm, rfl⟩
  · have hin := Lib.hid (show fewB l = false by simp [fewB, h40])
    go_enter Tryz.func6, Tryz.ntmps6
    go_wp2
    go_ret
    exact ⟨ret_bool hin.out.symm, rfl⟩

def sameAllB (a b : List (List Int)) : Bool := decide (a = b)
theorem sameAll_len {xs ys : List (List Int)} (h : ¬ xs.length = ys.length) : sameAllB xs ys = false := by
  unfold sameAllB
  rw [decide_eq_false_iff_not]
  exact fun e => h (by rw [e])
theorem sameAll_all {xs ys : List (List Int)} (h : xs.length = ys.length) (ha : xs.take xs.length = ys.take xs.length) : sameAllB xs ys = true := by
  unfold sameAllB
  rw [decide_eq_true_iff]
  rwa [List.take_of_length_le (Nat.le_refl _), List.take_of_length_le (by omega)] at ha
theorem sameAll_at {xs ys : List (List Int)} {k : Nat} {x y : List Int} (hx : xs.getD k [] = x) (hy : ys.getD k [] = y) (h : sameB x y = false) : sameAllB xs ys = false := by
  unfold sameAllB
  rw [decide_eq_false_iff_not]
  intro e
  unfold sameB at h
  rw [decide_eq_false_iff_not] at h
  exact h (by rw [← hx, ← hy, e])
theorem take_sameAll_snoc {xs ys : List (List Int)} {k : Nat} {x y : List Int} (h1 : k < xs.length) (h2 : k < ys.length) (hx : xs.getD k [] = x) (hy : ys.getD k [] = y) (h : sameB x y = true) (ht : xs.take k = ys.take k) : xs.take (k + 1) = ys.take (k + 1) := by
  rw [List.take_succ_eq_append_getElem h1, List.take_succ_eq_append_getElem h2, ht]
  simp only [List.getD, List.getElem?_eq_getElem h1, List.getElem?_eq_getElem h2, Option.getD_some] at hx hy
  unfold sameB at h
  rw [decide_eq_true_iff] at h
  rw [hx, hy, h]
set_option maxHeartbeats 800000 in
theorem sameAll_any (v u : Value) (xs ys : List (List Int)) (w : World) (B C : Nat) (h : Grid w B v xs) (h' : Grid w C u ys) (hf : Fits xs) (hf' : Fits ys) :
    Calls Tryz.prog 21 #[v, u] w fun e w' => e = .returned (.bool (sameAllB xs ys)) ∧ ∃ q, w' = w.drewN q := by
  obtain ⟨A, c, rfl, hc, hat⟩ := h
  obtain ⟨A', c', rfl, hc', hat'⟩ := h'
  have HA := Lib.hid hat
  have HA' := Lib.hid hat'
  have HF := Lib.hid hf
  have HF' := Lib.hid hf'
  have hl := hf.1
  have hl' := hf'.1
  clear hat hat' hf hf'
  by_cases hn : xs.length = ys.length
  · have HN := Lib.hid hn
    have hn1 : ((ys.length : Int) == (ys.length : Int)) = true := by simp
    have hn2 : (!((ys.length : Int) == (ys.length : Int))) = false := by simp
    rw [hn] at hl hc
    have hx : (Value.slice A xs.length c) = .slice A ys.length c := by rw [hn]
    rw [hx]
    clear hx hn
    go_enter Tryz.func21, Tryz.ntmps21
    go_wp2
    go_loopw [5] (fun i wr => ∃ k : Nat, k ≤ ys.length ∧ i = .int .i64 k ∧ Hid (∃ q, wr = w.drewN q) ∧ Hid (xs.take k = ys.take k)) (fun i _ => ys.length - (intOf i).toNat)
    case atStart => exact ⟨0, Nat.zero_le _, rfl, Lib.hid ⟨0, rfl⟩, Lib.hid rfl⟩
    case round =>
      obtain ⟨k, hk, rfl, hq, hso⟩ := hrel
      by_cases hlt : k < ys.length
      · obtain ⟨b, off, rfl, hb, hcell⟩ := HA.out (by rw [HN.out]; omega)
        obtain ⟨b', off', rfl, hb', hcell'⟩ := HA'.out (by omega)
        obtain ⟨x, hx⟩ : ∃ x, xs.getD k [] = x := ⟨_, rfl⟩
        obtain ⟨y, hy⟩ : ∃ y, ys.getD k [] = y := ⟨_, rfl⟩
        obtain ⟨u1, hc0, hn0⟩ := hcell k (by rw [HN.out]; exact hlt)
        obtain ⟨u2, hc1, hn1⟩ := hcell' k hlt
        have g0 := HF.out.at_ (show k < xs.length by rw [HN.out]; exact hlt)
        have g1 := HF'.out.at_ hlt
        rw [hx] at hn0 g0
        rw [hy] at hn1 g1
        have d0 : wr.cell? ⟨b, off + k, none⟩ = some u1 := by obtain ⟨q, rfl⟩ := hq.out; exact hc0
        have d1 : wr.cell? ⟨b', off' + k, none⟩ = some u2 := by obtain ⟨q, rfl⟩ := hq.out; exact hc1
        have e0 := Lib.hid (show Nums wr B u1 x by obtain ⟨q, rfl⟩ := hq.out; exact hn0)
        have e1 := Lib.hid (show Nums wr C u2 y by obtain ⟨q, rfl⟩ := hq.out; exact hn1)
        have HX := Lib.hid hx
        have HY := Lib.hid hy
        clear hcell hcell' hx hy hn0 hn1 hc0 hc1
        by_cases he : sameB x y = true
        · have HE := Lib.hid he
          clear he
          have hs := Lib.hid (take_sameAll_snoc (by rw [HN.out]; exact hlt) hlt HX.out HY.out HE.out hso.out)
          have HC : ∀ n, Calls Tryz.prog 17 #[u1, u2] (wr.drewN n) (fun e w' => e = .returned (.bool true) ∧ ∃ m, w' = (wr.drewN n).drewN m) := fun n => (same_any u1 u2 x y (wr.drewN n) B C e0.out e1.out g0 g1).mono fun e w' hh => by rw [← HE.out]; exact hh
          go_wp2
          go_quiet ((go_at_call 17; exact Calls.quiet_of (HC _)))
          go_wp2
          go_roundw
          case rel => exact ⟨k + 1, by omega, by go_num, Lib.hid (by obtain ⟨q, rfl⟩ := hq.out; exact ⟨_, World.drewN_drewN _ _ _⟩), hs⟩
          case measure => simp [intOf]; omega
        · have HE := Lib.hid (by simpa using he : sameB x y = false)
          clear he
          have hin := Lib.hid (sameAll_at HX.out HY.out HE.out)
          have HC : ∀ n, Calls Tryz.prog 17 #[u1, u2] (wr.drewN n) (fun e w' => e = .returned (.bool false) ∧ ∃ m, w' = (wr.drewN n).drewN m) := fun n => (same_any u1 u2 x y (wr.drewN n) B C e0.out e1.out g0 g1).mono fun e w' hh => by rw [← HE.out]; exact hh
          go_wp2
          go_quiet ((go_at_call 17; exact Calls.quiet_of (HC _)))
          go_wp2
          go_ret
          exact ⟨ret_bool hin.out.symm, by obtain ⟨q, rfl⟩ := hq.out; exact ⟨_, World.drewN_drewN _ _ _⟩⟩
      · have hin := Lib.hid (sameAll_all HN.out (by rw [HN.out, show ys.length = k by omega]; exact hso.out))
        go_wp2
        go_ret
        exact ⟨ret_bool hin.out.symm, hq.out⟩
  · have g1 : ((xs.length : Int) == (ys.length : Int)) = false := by simp; omega
    have hin := Lib.hid (sameAll_len hn)
    have hn' : ¬ ((xs.length : Int) = (ys.length : Int)) := by omega
    go_enter Tryz.func21, Tryz.ntmps21
    go_wp2
    all_goals first
      | (go_ret
         exact ⟨ret_bool hin.out.symm, 0, rfl⟩)
      | skip
end Go.Proofs.YtpfoaaiedfidbaaGreatDoor
