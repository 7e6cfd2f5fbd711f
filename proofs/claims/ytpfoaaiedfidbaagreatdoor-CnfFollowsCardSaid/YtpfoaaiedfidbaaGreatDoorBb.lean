/- Whether two lists are one; whether all literals may be; whether clauses aren't too many. -/
import Derived.Test.YtpfoaaiedfidbaaGreatDoorBa
namespace Go.Proofs.YtpfoaaiedfidbaaGreatDoor
open Go Go.RowKit

def sameB (xs ys : List Int) : Bool := decide (xs = ys)
theorem sameB_len {xs ys : List Int} (h : ¬ xs.length = ys.length) : sameB xs ys = false := by
  unfold sameB
  rw [decide_eq_false_iff_not]
  exact fun e => h (by rw [e])
theorem sameB_all {xs ys : List Int} (h : xs.length = ys.length) (ha : xs.take xs.length = ys.take xs.length) : sameB xs ys = true := by
  unfold sameB
  rw [decide_eq_true_iff]
  rwa [List.take_of_length_le (Nat.le_refl _), List.take_of_length_le (by omega)] at ha
theorem sameB_at {xs ys : List Int} {k : Nat} {x y : Int} (hx : xs.getD k 0 = x) (hy : ys.getD k 0 = y) (h : ¬ x = y) : sameB xs ys = false := by
  unfold sameB
  rw [decide_eq_false_iff_not]
  exact fun e => h (by rw [← hx, ← hy, e])
theorem take_same_snoc {xs ys : List Int} {k : Nat} {x y : Int} (h1 : k < xs.length) (h2 : k < ys.length) (hx : xs.getD k 0 = x) (hy : ys.getD k 0 = y) (h : x = y) (ht : xs.take k = ys.take k) : xs.take (k + 1) = ys.take (k + 1) := by
  rw [List.take_succ_eq_append_getElem h1, List.take_succ_eq_append_getElem h2, ht]
  simp only [List.getD, List.getElem?_eq_getElem h1, List.getElem?_eq_getElem h2, Option.getD_some] at hx hy
  rw [hx, hy, h]
set_option maxHeartbeats 400000 in
theorem same_any (v u : Value) (xs ys : List Int) (w : World) (B C : Nat) (h : Nums w B v xs) (h' : Nums w C u ys) (hl : xs.length ≤ 9223372036854775806) (_hl' : ys.length ≤ 9223372036854775806) :
    Calls Tryz.prog 17 #[v, u] w fun e w' => e = .returned (.bool (sameB xs ys)) ∧ ∃ q, w' = w.drewN q := by
  obtain ⟨A, c, rfl, hc, hat⟩ := h
  obtain ⟨A', c', rfl, hc', hat'⟩ := h'
  have HA := Lib.hid hat
  have HA' := Lib.hid hat'
  clear hat hat'
  by_cases hn : xs.length = ys.length
  · have HN := Lib.hid hn
    have hn1 : ((ys.length : Int) == (ys.length : Int)) = true := by simp
    have hn2 : (!((ys.length : Int) == (ys.length : Int))) = false := by simp
    rw [hn] at hl hc
    have hx : (Value.slice A xs.length c) = .slice A ys.length c := by rw [hn]
    rw [hx]
    clear hx hn
    go_enter Tryz.func17, Tryz.ntmps17
    go_wp2
    go_loopw [5] (fun i wr => ∃ k q : Nat, k ≤ ys.length ∧ i = .int .i64 k ∧ wr = w.drewN q ∧ Hid (xs.take k = ys.take k)) (fun i _ => ys.length - (intOf i).toNat)
    case atStart => exact ⟨0, 0, Nat.zero_le _, rfl, rfl, Lib.hid rfl⟩
    case round =>
      obtain ⟨k, q, hk, rfl, rfl, hso⟩ := hrel
      by_cases hlt : k < ys.length
      · obtain ⟨b, off, rfl, hb, hcell⟩ := HA.out (by rw [HN.out]; omega)
        obtain ⟨b', off', rfl, hb', hcell'⟩ := HA'.out (by omega)
        obtain ⟨x, hx⟩ : ∃ x, xs.getD k 0 = x := ⟨_, rfl⟩
        obtain ⟨y, hy⟩ : ∃ y, ys.getD k 0 = y := ⟨_, rfl⟩
        have hc0 := hcell k (by rw [HN.out]; exact hlt)
        have hc1 := hcell' k hlt
        rw [hx] at hc0
        rw [hy] at hc1
        have HX := Lib.hid hx
        have HY := Lib.hid hy
        clear hcell hcell' hx hy
        go_wp2
        go_quiet (fail)
        by_cases he : x = y
        · have hs := Lib.hid (take_same_snoc (by rw [HN.out]; exact hlt) hlt HX.out HY.out he hso.out)
          have g1 : (x == y) = true := by simpa using he
          have g2 : (x != y) = false := by simpa using he
          clear he
          go_wp2
          go_roundw
          case rel => exact ⟨k + 1, _, by omega, by go_num, rfl, hs⟩
          case measure => simp [intOf]; omega
        · have hin := Lib.hid (sameB_at HX.out HY.out he)
          have g1 : (x == y) = false := by simpa using he
          have g2 : (x != y) = true := by simpa using he
          clear he
          go_wp2
          go_ret
          exact ⟨ret_bool hin.out.symm, _, World.drewN_drewN _ _ _⟩
      · have hin := Lib.hid (sameB_all HN.out (by rw [HN.out, show ys.length = k by omega]; exact hso.out))
        go_wp2
        go_ret
        exact ⟨ret_bool hin.out.symm, _, rfl⟩
  · have g1 : ((xs.length : Int) == (ys.length : Int)) = false := by simp; omega
    have hin := Lib.hid (sameB_len hn)
    have hn' : ¬ ((xs.length : Int) = (ys.length : Int)) := by omega
    go_enter Tryz.func17, Tryz.ntmps17
    go_wp2
    all_goals first
      | (go_ret
         exact ⟨ret_bool hin.out.symm, 0, rfl⟩)
      | skip
end Go.Proofs.YtpfoaaiedfidbaaGreatDoor
