/- Whether a number may be a literal; whether a list has a number; whether two lists are one. -/
import Derived.Test.YtpfoaaiedfidbaaGreatDoorAc
import Derived.LoopTactic
import Derived.IntWalk
import Derived.Lib.Hide
import Derived.BigQuiet
import Derived.Deep.QuietTactic
import Derived.Outline
import Derived.OwnWalk
namespace Go.Proofs.YtpfoaaiedfidbaaGreatDoor
open Go Go.RowKit

theorem ret_bool {a b : Bool} (h : a = b) : Ending.returned (.bool a) = .returned (.bool b) := by rw [h]
theorem ret_int {k : IntKind} {a b : Int} (h : a = b) : Ending.returned (.int k a) = .returned (.int k b) := by rw [h]
/-- May a number be a literal? -/
def mayB (n : Int) : Bool := decide (n ≠ 0 ∧ -1048576 ≤ n ∧ n ≤ 1048576)
theorem may_any (n : Int) (w : World) : Calls Tryz.prog 41 #[.int .i64 n] w fun e w' => e = .returned (.bool (mayB n)) ∧ w = w' := by
  by_cases h0 : n = 0
  · subst h0
    have hh : (!((0 : Int) == 0)) = false := rfl
    go_enter Tryz.func41, Tryz.ntmps41
    go_wp2
    go_ret
    exact ⟨ret_bool (by decide), rfl⟩
  · have h1 : (n == 0) = false := by simpa using h0
    have h2 : (!(n == 0)) = true := by simpa using h0
    by_cases ha : -1048576 ≤ n
    · by_cases hb : n ≤ 1048576
      · have e := Lib.hid (show mayB n = true by simp [mayB, h0, ha, hb])
        go_enter Tryz.func41, Tryz.ntmps41
        go_wp2
        go_ret
        exact ⟨ret_bool (by rw [e.out]; simpa using h0), rfl⟩
      · have e := Lib.hid (show mayB n = false by simp [mayB, hb])
        go_enter Tryz.func41, Tryz.ntmps41
        go_wp2
        go_ret
        exact ⟨ret_bool (by rw [e.out]), rfl⟩
    · have e := Lib.hid (show mayB n = false by simp [mayB, ha])
      go_enter Tryz.func41, Tryz.ntmps41
      go_wp2
      go_ret
      exact ⟨ret_bool (by rw [e.out]), rfl⟩
theorem right_any (n : Int) (w : World) : Calls Tryz.prog 18 #[.int .i64 n] w fun e w' => e = .returned (.bool (mayB n)) ∧ w = w' := by
  by_cases h0 : n = 0
  · subst h0
    go_enter Tryz.func18, Tryz.ntmps18
    go_wp2
    go_ret
    exact ⟨ret_bool (by decide), rfl⟩
  · have h1 : (n == 0) = false := by simpa using h0
    have h2 : (!(n == 0)) = true := by simpa using h0
    by_cases ha : -1048576 ≤ n
    · by_cases hb : n ≤ 1048576
      · have e := Lib.hid (show mayB n = true by simp [mayB, h0, ha, hb])
        go_enter Tryz.func18, Tryz.ntmps18
        go_wp2
        go_ret
        exact ⟨ret_bool (by rw [e.out]; simpa using h0), rfl⟩
      · have e := Lib.hid (show mayB n = false by simp [mayB, hb])
        go_enter Tryz.func18, Tryz.ntmps18
        go_wp2
        go_ret
        exact ⟨ret_bool (by rw [e.out]), rfl⟩
    · have e := Lib.hid (show mayB n = false by simp [mayB, ha])
      go_enter Tryz.func18, Tryz.ntmps18
      go_wp2
      go_ret
      exact ⟨ret_bool (by rw [e.out]), rfl⟩
/-- Has a list a number? -/
def hasB (xs : List Int) (n : Int) : Bool := xs.contains n
theorem hasB_iff {xs : List Int} {n : Int} : hasB xs n = true ↔ n ∈ xs := by simp [hasB]
theorem hasB_no {xs : List Int} {n : Int} : hasB xs n = false ↔ n ∉ xs := by
  rw [← Bool.not_eq_true, hasB_iff]
theorem getD_mem {xs : List Int} {k : Nat} (h : k < xs.length) : xs.getD k 0 ∈ xs := by
  simp [List.getD, List.getElem?_eq_getElem h]
theorem take_has_snoc (xs : List Int) (k : Nat) (n x : Int) (h : k < xs.length) (hx : xs.getD k 0 = x) : hasB (xs.take (k + 1)) n = (hasB (xs.take k) n || x == n) := by
  rw [List.take_succ_eq_append_getElem h]
  have e : xs.getD k 0 = xs[k] := by simp [List.getD, List.getElem?_eq_getElem h]
  rw [e] at hx
  rw [hx, Bool.eq_iff_iff, Bool.or_eq_true, hasB_iff, hasB_iff]
  simp
  constructor <;> (rintro (h | h) <;> first | exact .inl h | exact .inr h.symm)
theorem has_any (v : Value) (xs : List Int) (n : Int) (w : World) (B : Nat) (h : Nums w B v xs) (hl : xs.length ≤ 9223372036854775806) :
    Calls Tryz.prog 14 #[v, .int .i64 n] w fun e w' => e = .returned (.bool (hasB xs n)) ∧ w = w' := by
  obtain ⟨A, c, rfl, hc, hat⟩ := h
  have HA := Lib.hid hat
  clear hat
  go_enter Tryz.func14, Tryz.ntmps14
  go_wp2
  go_loop [5] (fun i => ∃ k : Nat, k ≤ xs.length ∧ i = .int .i64 k ∧ Hid (hasB (xs.take k) n = false)) (fun i => xs.length - (intOf i).toNat)
  case atStart => exact ⟨0, Nat.zero_le _, rfl, Lib.hid (by simp [hasB])⟩
  case round =>
    obtain ⟨k, hk, rfl, hno⟩ := hrel
    by_cases hlt : k < xs.length
    · obtain ⟨b, off, rfl, hb, hcell⟩ := HA.out (by omega)
      obtain ⟨x, hx⟩ : ∃ x, xs.getD k 0 = x := ⟨_, rfl⟩
      have hc0 := hcell k hlt
      rw [hx] at hc0
      have hs := Lib.hid (take_has_snoc xs k n x hlt hx)
      have hm := Lib.hid (show x ∈ xs from hx ▸ getD_mem hlt)
      clear hcell hx
      by_cases he : x = n
      · have hin := Lib.hid (show hasB xs n = true by rw [hasB_iff, ← he]; exact hm.out)
        have hb : (x == n) = true := by simpa using he
        clear he
        go_wp2
        go_ret
        exact ⟨ret_bool hin.out.symm, rfl⟩
      · have hb : (x == n) = false := by simpa using he
        clear he
        go_wp2
        go_round
        case rel => exact ⟨k + 1, by omega, by go_num, Lib.hid (by rw [hs.out, hno.out, hb]; rfl)⟩
        case measure => simp [intOf]; omega
    · have hin := Lib.hid (show hasB xs n = false by rw [← hno.out, List.take_of_length_le (by omega)])
      go_wp2
      go_ret
      exact ⟨ret_bool hin.out.symm, rfl⟩
end Go.Proofs.YtpfoaaiedfidbaaGreatDoor
