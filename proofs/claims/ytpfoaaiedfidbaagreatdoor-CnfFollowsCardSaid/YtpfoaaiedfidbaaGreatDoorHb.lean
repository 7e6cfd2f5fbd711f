/- The law CnfMore: its guards. -/
import Derived.Test.YtpfoaaiedfidbaaGreatDoorHa
namespace Go.Proofs.YtpfoaaiedfidbaaGreatDoor
open Go Go.RowKit

/-- What a law leaves. -/
def TruePost (w : World) (e : Ending) (w' : World) : Prop := e = .returned (.bool true) ∧ Below w.heap.size w w'
set_option maxHeartbeats 4000000 in
set_option maxRecDepth 100000 in
theorem more_few (v u : Value) (l : List (List Int)) (_is : List Int) (n : Int) (w : World) (hg : Grid w w.heap.size v l) (hf : Fits l) (hp : Pow w) (h : fewB l = false) :
    Calls Tryz.prog 5 #[v, u, .int .i64 n] w (TruePost w) := by
  have HF := Lib.hid (few_b v l w hg hf false h)
  have HA := Lib.hid (awake_b w w hp (Below.refl _ _))
  clear hg hf hp h
  go_enter Tryz.func5, Tryz.ntmps5
  go_wp2_with (first
    | (go_at_call 6; refine (HF.out).mono ?_; rintro e w' ⟨rfl, hw⟩; subst hw)
    | (go_at_call 10; refine (HA.out).mono ?_; rintro e w' ⟨rfl, hb⟩; have HB := Lib.hid hb; clear hb))
  go_ret
  exact ⟨rfl, HB.out⟩
set_option maxHeartbeats 4000000 in
set_option maxRecDepth 100000 in
theorem more_long (v : Value) (A : Option Addr) (c : Nat) (l : List (List Int)) (is : List Int) (n : Int) (w : World) (hg : Grid w w.heap.size v l) (hf : Fits l) (hp : Pow w) (h : fewB l = true) (hl : 30 < is.length) :
    Calls Tryz.prog 5 #[v, .slice A is.length c, .int .i64 n] w (TruePost w) := by
  have HF := Lib.hid (few_b v l w hg hf true h)
  have HA := Lib.hid (awake_b w w hp (Below.refl _ _))
  have hd : (30 : Int) < (is.length : Int) := by omega
  clear hg hf hp h
  go_enter Tryz.func5, Tryz.ntmps5
  go_wp2_with (first
    | (go_at_call 6; refine (HF.out).mono ?_; rintro e w' ⟨rfl, hw⟩; subst hw)
    | (go_at_call 10; refine (HA.out).mono ?_; rintro e w' ⟨rfl, hb⟩; have HB := Lib.hid hb; clear hb))
  go_ret
  exact ⟨rfl, HB.out⟩
set_option maxHeartbeats 4000000 in
set_option maxRecDepth 100000 in
theorem more_bad (v : Value) (A : Option Addr) (c : Nat) (l : List (List Int)) (is : List Int) (n : Int) (w : World) (hg : Grid w w.heap.size v l) (hf : Fits l) (hp : Pow w) (h : fewB l = true) (hl : is.length ≤ 30) (hc : checkC l = 60) :
    Calls Tryz.prog 5 #[v, .slice A is.length c, .int .i64 n] w (TruePost w) := by
  have HF := Lib.hid (few_b v l w hg hf true h)
  have HC := Lib.hid (rcheck_b v l w hg hf 60 hc)
  have HA := Lib.hid (awake_b w w hp (Below.refl _ _))
  have hd : ¬ (30 : Int) < (is.length : Int) := by omega
  clear hg hf hp h hc
  go_enter Tryz.func5, Tryz.ntmps5
  go_wp2_with (first
    | (go_at_call 6; refine (HF.out).mono ?_; rintro e w' ⟨rfl, hw⟩; subst hw)
    | (go_at_call 7; refine (HC.out).mono ?_; rintro e w' ⟨rfl, hw⟩; subst hw)
    | (go_at_call 10; refine (HA.out).mono ?_; rintro e w' ⟨rfl, hb⟩; have HB := Lib.hid hb; clear hb))
  go_ret
  exact ⟨rfl, HB.out⟩
set_option maxHeartbeats 4000000 in
set_option maxRecDepth 100000 in
theorem more_wrong (v : Value) (A : Option Addr) (c : Nat) (l : List (List Int)) (is : List Int) (n : Int) (w : World) (hg : Grid w w.heap.size v l) (hf : Fits l) (hn : Nums w w.heap.size (.slice A is.length c) is) (hp : Pow w) (h : fewB l = true) (hl : is.length ≤ 30) (hc : checkC l = 0) (hc2 : checkC [is, [n]] = 60) :
    Calls Tryz.prog 5 #[v, .slice A is.length c, .int .i64 n] w (TruePost w) := by
  have HF := Lib.hid (few_b v l w hg hf true h)
  have HC := Lib.hid (rcheck_b v l w hg hf 0 hc)
  have HB0 := Lib.hid (fun o p : Obj => below_alloc (below_alloc (Below.refl _ w) o) p)
  have HC2 := Lib.hid (rcheck_b _ [is, [n]] _ (grid2 (w.alloc (.cells #[.int .i64 n] 3)) A (some ⟨w.heap.size, 0, none⟩) is.length c 1 1 is [n] (hn.alloc _) (Nums.new w [n] #[.int .i64 n] 1 rfl rfl)) ⟨by simp, by simp; omega⟩ 60 hc2)
  have HA := Lib.hid (awake_b w _ hp (HB0.out (.cells #[.int .i64 n] 3) (.cells #[.slice A is.length c, .slice (some ⟨w.heap.size, 0, none⟩) 1 1] 23)))
  rw [alloc_size] at HC2
  have hd : ¬ (30 : Int) < (is.length : Int) := by omega
  clear hg hf hp h hc hn hc2
  go_enter Tryz.func5, Tryz.ntmps5
  go_wp2_with (go_at_call 6; refine (HF.out).mono ?_; rintro e w' ⟨rfl, hw⟩; subst hw)
  refine (HC.out).mono ?_
  rintro e w' ⟨rfl, hw⟩
  subst hw
  go_wp2_with (first
    | (go_at_call 7; refine (HC2.out).mono ?_; rintro e w' ⟨rfl, hw⟩; subst hw)
    | (go_at_call 10; refine (HA.out).mono ?_; rintro e w' ⟨rfl, hb⟩; have HB := Lib.hid hb; clear hb))
  go_ret
  exact ⟨rfl, HB.out⟩
end Go.Proofs.YtpfoaaiedfidbaaGreatDoor
