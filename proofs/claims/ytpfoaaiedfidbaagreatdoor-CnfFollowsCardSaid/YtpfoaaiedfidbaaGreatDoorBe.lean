/- Whether clauses hold (the document's); the greatest variable (the document's, the program's). -/
import Derived.Test.YtpfoaaiedfidbaaGreatDoorBd
namespace Go.Proofs.YtpfoaaiedfidbaaGreatDoor
open Go Go.RowKit

def rowHolds (c is : List Int) : Bool := c.any (hasB is)
def holdsB (l : List (List Int)) (is : List Int) : Bool := l.all fun c => rowHolds c is
theorem rowHolds_snoc {c is : List Int} {k : Nat} {x : Int} (h : k < c.length) (hx : c.getD k 0 = x) : rowHolds (c.take (k + 1)) is = (rowHolds (c.take k) is || hasB is x) := by
  unfold rowHolds
  rw [List.take_succ_eq_append_getElem h]
  simp only [List.getD, List.getElem?_eq_getElem h, Option.getD_some] at hx
  rw [hx]
  simp
theorem holdsB_snoc {l : List (List Int)} {is : List Int} {k : Nat} {c : List Int} (h : k < l.length) (hc : l.getD k [] = c) : holdsB (l.take (k + 1)) is = (holdsB (l.take k) is && rowHolds c is) := by
  unfold holdsB
  rw [List.take_succ_eq_append_getElem h]
  simp only [List.getD, List.getElem?_eq_getElem h, Option.getD_some] at hc
  rw [hc]
  simp
theorem holdsB_bad {l : List (List Int)} {is : List Int} {k : Nat} {c : List Int} (h : k < l.length) (hc : l.getD k [] = c) (hb : rowHolds c is = false) : holdsB l is = false := by
  unfold holdsB
  rw [List.all_eq_false]
  simp only [List.getD, List.getElem?_eq_getElem h, Option.getD_some] at hc
  exact ⟨c, hc ▸ List.getElem_mem h, by simp [hb]⟩
set_option maxHeartbeats 1600000 in
theorem rholds_any (v u : Value) (l : List (List Int)) (is : List Int) (w : World) (B C : Nat) (h : Grid w B v l) (hf : Fits l) (h' : Nums w C u is) (hl' : is.length ≤ 9223372036854775806) :
    Calls Tryz.prog 16 #[v, u] w fun e w' => e = .returned (.bool (holdsB l is)) ∧ w = w' := by
  obtain ⟨A, c, rfl, hc, hat⟩ := h
  have HA := Lib.hid hat
  have HF := Lib.hid hf
  have HC : ∀ n, Calls Tryz.prog 14 #[u, .int .i64 n] w fun e w' => e = .returned (.bool (hasB is n)) ∧ w = w' := fun n => has_any u is n w C h' hl'
  have hl := hf.1
  clear hat hf h' hl'
  go_enter Tryz.func16, Tryz.ntmps16
  go_wp2
  go_loop [5] (fun i => ∃ k : Nat, k ≤ l.length ∧ i = .int .i64 k ∧ Hid (holdsB (l.take k) is = true)) (fun i => l.length - (intOf i).toNat)
  case atStart => exact ⟨0, Nat.zero_le _, rfl, Lib.hid (by simp [holdsB])⟩
  case round =>
    obtain ⟨k, hk, rfl, hso⟩ := hrel
    by_cases hlt : k < l.length
    · obtain ⟨b, off, rfl, hb, hcell⟩ := HA.out (by omega)
      obtain ⟨r, hr⟩ : ∃ r, l.getD k [] = r := ⟨_, rfl⟩
      obtain ⟨u2, hu, hn⟩ := hcell k hlt
      have hrl := HF.out.at_ hlt
      rw [hr] at hn hrl
      have HR := Lib.hid hr
      clear hcell hr
      obtain ⟨A2, c2, rfl, hc2, hat2⟩ := hn
      have HA2 := Lib.hid hat2
      clear hat2
      go_wp2
      go_loop [6, 7] (fun ok i => ∃ (j : Nat) (t : Bool), j ≤ r.length ∧ i = .int .i64 j ∧ ok = .bool t ∧ Hid (rowHolds (r.take j) is = t)) (fun _ i => r.length - (intOf i).toNat)
      case atStart => exact ⟨0, false, Nat.zero_le _, rfl, rfl, Lib.hid (by simp [rowHolds])⟩
      case round =>
        obtain ⟨j, t, hj, rfl, rfl, hso2⟩ := hrel
        by_cases hlt2 : j < r.length
        · obtain ⟨b2, off2, rfl, hb2, hcell2⟩ := HA2.out (by omega)
          obtain ⟨x, hx⟩ : ∃ x, r.getD j 0 = x := ⟨_, rfl⟩
          have hc0 := hcell2 j hlt2
          rw [hx] at hc0
          have HX := Lib.hid hx
          clear hcell2 hx
          cases t with
          | true =>
            go_wp2
            go_round
            case rel => exact ⟨j + 1, true, by omega, by go_num, rfl, Lib.hid (by rw [rowHolds_snoc hlt2 HX.out, hso2.out]; rfl)⟩
            case measure => simp [intOf]; omega
          | false =>
            obtain ⟨t2, ht2⟩ : ∃ t2, hasB is x = t2 := ⟨_, rfl⟩
            have HT := Lib.hid ht2
            clear ht2
            go_wp2_with (go_at_call 14; refine (HC _).mono ?_; rintro e w' ⟨rfl, rfl⟩; rw [HT.out])
            go_round
            case rel => exact ⟨j + 1, t2, by omega, by go_num, rfl, Lib.hid (by rw [rowHolds_snoc hlt2 HX.out, hso2.out, HT.out]; rfl)⟩
            case measure => simp [intOf]; omega
        · have hrow := Lib.hid (show rowHolds r is = t by have := hso2.out; rwa [List.take_of_length_le (by omega)] at this)
          cases t with
          | true =>
            go_wp2
            go_round
            case rel => exact ⟨k + 1, by omega, by go_num, Lib.hid (by rw [holdsB_snoc hlt HR.out, hso.out, hrow.out]; rfl)⟩
            case measure => simp [intOf]; omega
          | false =>
            have hin := Lib.hid (holdsB_bad hlt HR.out hrow.out)
            go_wp2
            go_ret
            exact ⟨ret_bool hin.out.symm, rfl⟩
    · have hin := Lib.hid (show holdsB l is = true by rw [← hso.out, List.take_of_length_le (by omega)])
      go_wp2
      go_ret
      exact ⟨ret_bool hin.out.symm, rfl⟩

/-- The greatest variable of a clause's literals that may be, and of those ahead. -/
def mostStep (m n : Int) : Int := if mayB n = true then max (max m n) (-n) else m
def rowMost (m : Int) (c : List Int) : Int := c.foldl mostStep m
def mostL (l : List (List Int)) : Int := l.foldl rowMost 0
theorem mayB_iff {n : Int} : mayB n = true ↔ n ≠ 0 ∧ -1048576 ≤ n ∧ n ≤ 1048576 := by simp [mayB]
theorem rowMost_snoc {m : Int} {c : List Int} {k : Nat} {x : Int} (h : k < c.length) (hx : c.getD k 0 = x) : rowMost m (c.take (k + 1)) = mostStep (rowMost m (c.take k)) x := by
  unfold rowMost
  rw [List.take_succ_eq_append_getElem h]
  simp only [List.getD, List.getElem?_eq_getElem h, Option.getD_some] at hx
  rw [hx]
  simp
theorem mostL_snoc {l : List (List Int)} {k : Nat} {c : List Int} (h : k < l.length) (hc : l.getD k [] = c) : mostL (l.take (k + 1)) = rowMost (mostL (l.take k)) c := by
  unfold mostL
  rw [List.take_succ_eq_append_getElem h]
  simp only [List.getD, List.getElem?_eq_getElem h, Option.getD_some] at hc
  rw [hc]
  simp
theorem mostStep_bd {m n : Int} (h0 : 0 ≤ m) (h1 : m ≤ 1048576) : 0 ≤ mostStep m n ∧ mostStep m n ≤ 1048576 := by
  unfold mostStep
  split
  · rename_i h
    rw [mayB_iff] at h
    omega
  · exact ⟨h0, h1⟩
theorem rowMost_bd : ∀ {c : List Int} {m : Int}, 0 ≤ m → m ≤ 1048576 → 0 ≤ rowMost m c ∧ rowMost m c ≤ 1048576
  | [], _, h0, h1 => ⟨h0, h1⟩
  | n :: c, m, h0, h1 => by
    have := mostStep_bd (n := n) h0 h1
    exact rowMost_bd (c := c) this.1 this.2
theorem mostFold_bd : ∀ {l : List (List Int)} {m : Int}, 0 ≤ m → m ≤ 1048576 → 0 ≤ l.foldl rowMost m ∧ l.foldl rowMost m ≤ 1048576
  | [], _, h0, h1 => ⟨h0, h1⟩
  | n :: c, m, h0, h1 => by
    have := rowMost_bd (c := n) h0 h1
    exact mostFold_bd (l := c) this.1 this.2
theorem mostL_bd (l : List (List Int)) : 0 ≤ mostL l ∧ mostL l ≤ 1048576 := mostFold_bd (by omega) (by omega)
theorem mostStep_ge {m n : Int} : m ≤ mostStep m n ∧ (mayB n = true → n ≤ mostStep m n ∧ -n ≤ mostStep m n) := by
  unfold mostStep
  split
  · exact ⟨by omega, fun _ => by omega⟩
  · rename_i h
    exact ⟨by omega, fun h2 => absurd h2 h⟩
theorem rowMost_ge : ∀ {c : List Int} {m : Int}, m ≤ rowMost m c ∧ ∀ n ∈ c, mayB n = true → n ≤ rowMost m c ∧ -n ≤ rowMost m c
  | [], _ => ⟨by simp [rowMost], by simp⟩
  | x :: c, m => by
    have h1 := mostStep_ge (m := m) (n := x)
    have ih := rowMost_ge (c := c) (m := mostStep m x)
    have e : rowMost m (x :: c) = rowMost (mostStep m x) c := rfl
    rw [e]
    refine ⟨by omega, fun n hn hm => ?_⟩
    rw [List.mem_cons] at hn
    rcases hn with rfl | hn
    · have := h1.2 hm; omega
    · exact ih.2 n hn hm
theorem mostFold_ge : ∀ {l : List (List Int)} {m : Int}, m ≤ l.foldl rowMost m ∧ ∀ c ∈ l, ∀ n ∈ c, mayB n = true → n ≤ l.foldl rowMost m ∧ -n ≤ l.foldl rowMost m
  | [], _ => ⟨by simp, by simp⟩
  | x :: l, m => by
    have h1 := rowMost_ge (c := x) (m := m)
    have ih := mostFold_ge (l := l) (m := rowMost m x)
    have e : (x :: l).foldl rowMost m = l.foldl rowMost (rowMost m x) := rfl
    rw [e]
    refine ⟨by omega, fun c hc n hn hm => ?_⟩
    rw [List.mem_cons] at hc
    rcases hc with rfl | hc
    · have := h1.2 n hn hm; omega
    · exact ih.2 c hc n hn hm
theorem mostL_ge {l : List (List Int)} {c : List Int} {n : Int} (hc : c ∈ l) (hn : n ∈ c) (hm : mayB n = true) : n ≤ mostL l ∧ -n ≤ mostL l := mostFold_ge.2 c hc n hn hm
end Go.Proofs.YtpfoaaiedfidbaaGreatDoor
