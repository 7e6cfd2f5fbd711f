/- The library's IndexFunc and ContainsFunc, of a function value that may make memory of its own. -/
import Derived.Test.YtpfoaaiedfidbaaGreatDoorDa
import Derived.Deep.LoopGhost
namespace Go.Proofs.YtpfoaaiedfidbaaGreatDoor
open Go Go.RowKit

/-- Of each number of a list the function value tells p, and turns nothing that was there. -/
def Tells (g : Nat) (lb : Array Value) (p : Int → Bool) (xs : List Int) (w : World) : Prop :=
  ∀ (W : World) (x : Int), Below w.heap.size w W → x ∈ xs → Calls Tryz.prog g (#[.int .i64 x] ++ lb) W fun e w' => e = .returned (.bool (p x)) ∧ Below W.heap.size W w'
def Found (p : Int → Bool) (xs : List Int) (r : Int) : Prop :=
  (r = -1 ∧ ∀ x ∈ xs, p x = false) ∨ ∃ k : Nat, k < xs.length ∧ r = k ∧ p (xs.getD k 0) = true ∧ ∀ j, j < k → p (xs.getD j 0) = false
theorem below_of {a b : World} (h : Below a.heap.size a b) {c : World} (h2 : Below b.heap.size b c) : Below a.heap.size a c := h.trans (h2.mono h.size)
set_option maxHeartbeats 1600000 in
theorem index_any (g : Nat) (lb : Array Value) (p : Int → Bool) (eg : ∀ args w, (callFunc g args).run Tryz.prog w = .ok (.enter g args) w) (v : Value) (xs : List Int) (w : World) (B : Nat) (h : Nums w B v xs) (hB : B ≤ w.heap.size) (hl : xs.length ≤ 1000000) (hp : Tells g lb p xs w) :
    Calls Tryz.prog 53 #[v, .func (.func g) #[] lb] w fun e w' => ∃ r, e = .returned (.int .i64 r) ∧ Below w.heap.size w w' ∧ Found p xs r := by
  have HN := Lib.hid h
  have HP := Lib.hid hp
  obtain ⟨A, c, rfl, hc, _⟩ := h
  clear hp
  go_enter Tryz.func53, Tryz.ntmps53
  go_wp2
  go_loopw [8] (fun i wr => ∃ k : Nat, k ≤ xs.length ∧ i = .int .i64 k ∧ Hid (Below w.heap.size w wr) ∧ Hid (∀ j, j < k → p (xs.getD j 0) = false)) (fun i _ => xs.length - (intOf i).toNat)
  case atStart => exact ⟨0, Nat.zero_le _, rfl, Lib.hid (Below.refl _ _), Lib.hid fun j hj => by omega⟩
  case round =>
    obtain ⟨k, hk, rfl, hb, hno⟩ := hrel
    by_cases hlt : k < xs.length
    · obtain ⟨A', c', e', _, hat⟩ := HN.out.below hb.out hB
      cases e'
      obtain ⟨b, off, rfl, hbB, hcell⟩ := hat (by omega)
      obtain ⟨x, hx⟩ : ∃ x, xs.getD k 0 = x := ⟨_, rfl⟩
      have hc0 := hcell k hlt
      rw [hx] at hc0
      have HX := Lib.hid hx
      have HC := Lib.hid (HP.out wr x hb.out (hx ▸ getD_mem hlt))
      clear hcell hx hat
      cases hq : p x with
      | true =>
        have HQ := Lib.hid hq
        clear hq
        go_wp2_with (go_at_fn g; refine (HC.out).mono ?_; rintro e w' ⟨rfl, hb1⟩; rw [HQ.out]; have HB1 := Lib.hid hb1; clear hb1)
        go_ret
        exact ⟨k, rfl, below_of hb.out HB1.out, .inr ⟨k, hlt, rfl, by rw [HX.out]; exact HQ.out, hno.out⟩⟩
      | false =>
        have HQ := Lib.hid hq
        clear hq
        go_wp2_with (go_at_fn g; refine (HC.out).mono ?_; rintro e w' ⟨rfl, hb1⟩; rw [HQ.out]; have HB1 := Lib.hid hb1; clear hb1)
        go_roundw
        case rel =>
          refine ⟨k + 1, by omega, by go_num, Lib.hid (below_of hb.out HB1.out), Lib.hid fun j hj => ?_⟩
          by_cases e : j = k
          · subst e; rw [HX.out]; exact HQ.out
          · exact hno.out j (by omega)
        case measure => simp [intOf]; omega
    · go_wp2
      go_ret
      refine ⟨-1, rfl, hb.out, .inl ⟨rfl, fun x hx => ?_⟩⟩
      obtain ⟨j, hj, rfl⟩ := List.getElem_of_mem hx
      have := hno.out j (by omega)
      rwa [List.getD_eq_getElem?_getD, List.getElem?_eq_getElem hj] at this
theorem Found.any {p : Int → Bool} {xs : List Int} {r : Int} (h : Found p xs r) : xs.any p = decide (0 ≤ r) := by
  rcases h with ⟨rfl, h⟩ | ⟨k, hk, rfl, h1, _⟩
  · rw [show decide ((0 : Int) ≤ -1) = false from rfl, List.any_eq_false]
    exact fun x hx => by simp [h x hx]
  · rw [show decide ((0 : Int) ≤ (k : Int)) = true by simp, List.any_eq_true]
    exact ⟨_, getD_mem hk, h1⟩
theorem contains_any (g : Nat) (lb : Array Value) (p : Int → Bool) (eg : ∀ args w, (callFunc g args).run Tryz.prog w = .ok (.enter g args) w) (v : Value) (xs : List Int) (w : World) (B : Nat) (h : Nums w B v xs) (hB : B ≤ w.heap.size) (hl : xs.length ≤ 1000000) (hp : Tells g lb p xs w) :
    Calls Tryz.prog 43 #[v, .func (.func g) #[] lb] w fun e w' => e = .returned (.bool (xs.any p)) ∧ Below w.heap.size w w' := by
  have HC := Lib.hid (index_any g lb p eg v xs w B h hB hl hp)
  clear h hp
  go_enter Tryz.func43, Tryz.ntmps43
  go_wp2_with (go_at_call 53; refine (HC.out).mono ?_; rintro e w' ⟨r, rfl, hb, hf⟩; have HB := Lib.hid hb; have HF := Lib.hid hf; clear hb hf)
  go_ret
  exact ⟨ret_bool HF.out.any.symm, HB.out⟩
end Go.Proofs.YtpfoaaiedfidbaaGreatDoor
