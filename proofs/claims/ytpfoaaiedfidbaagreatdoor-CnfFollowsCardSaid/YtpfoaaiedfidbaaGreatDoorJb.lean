/- The law CnfImplies: its guards. -/
import Derived.Test.YtpfoaaiedfidbaaGreatDoorJa
namespace Go.Proofs.YtpfoaaiedfidbaaGreatDoor
open Go Go.RowKit

set_option maxHeartbeats 4000000 in
set_option maxRecDepth 100000 in
theorem implies_long1 (A A' : Option Addr) (c c' : Nat) (a b : List Int) (v : Int) (w : World) (hp : Pow w) (h : 20 < a.length) (hl : a.length ≤ 9223372036854775806) :
    Calls Tryz.prog 4 #[.slice A a.length c, .slice A' b.length c', .int .i64 v] w (TruePost w) := by
  have HA := Lib.hid (awake_b w w hp (Below.refl _ _))
  have hd : (20 : Int) < (a.length : Int) := by omega
  clear hp h
  go_enter Tryz.func4, Tryz.ntmps4
  go_wp2_with (go_at_call 10; refine (HA.out).mono ?_; rintro e w' ⟨rfl, hb⟩; have HB := Lib.hid hb; clear hb)
  go_ret
  exact ⟨rfl, HB.out⟩
set_option maxHeartbeats 4000000 in
set_option maxRecDepth 100000 in
theorem implies_long2 (A A' : Option Addr) (c c' : Nat) (a b : List Int) (v : Int) (w : World) (hp : Pow w) (h : a.length ≤ 20) (h2 : 20 < b.length) :
    Calls Tryz.prog 4 #[.slice A a.length c, .slice A' b.length c', .int .i64 v] w (TruePost w) := by
  have HA := Lib.hid (awake_b w w hp (Below.refl _ _))
  have hd : ¬ (20 : Int) < (a.length : Int) := by omega
  have hd2 : (20 : Int) < (b.length : Int) := by omega
  clear hp h h2
  go_enter Tryz.func4, Tryz.ntmps4
  go_wp2_with (go_at_call 10; refine (HA.out).mono ?_; rintro e w' ⟨rfl, hb⟩; have HB := Lib.hid hb; clear hb)
  go_ret
  exact ⟨rfl, HB.out⟩
set_option maxHeartbeats 4000000 in
set_option maxRecDepth 100000 in
theorem implies_bad (A A' : Option Addr) (c c' : Nat) (a b : List Int) (v : Int) (w : World) (h1 : Nums w w.heap.size (.slice A a.length c) a) (h2 : Nums w w.heap.size (.slice A' b.length c') b) (hp : Pow w) (hla : a.length ≤ 20) (hlb : b.length ≤ 20) (hc : checkC [a, b] = 60) :
    Calls Tryz.prog 4 #[.slice A a.length c, .slice A' b.length c', .int .i64 v] w (TruePost w) := by
  have HC := Lib.hid (rcheck_b _ [a, b] _ (grid2 w A A' a.length c b.length c' a b h1 h2) ⟨by simp, by simp; omega⟩ 60 hc)
  have HA := Lib.hid (awake_b w _ hp (below_alloc (Below.refl _ w) (.cells #[.slice A a.length c, .slice A' b.length c'] 23)))
  have hd : ¬ (20 : Int) < (a.length : Int) := by omega
  have hd2 : ¬ (20 : Int) < (b.length : Int) := by omega
  clear hp hla hlb h1 h2 hc
  go_enter Tryz.func4, Tryz.ntmps4
  go_wp2_with (first
    | (go_at_call 7; refine (HC.out).mono ?_; rintro e w' ⟨rfl, hw⟩; subst hw)
    | (go_at_call 10; refine (HA.out).mono ?_; rintro e w' ⟨rfl, hb⟩; have HB := Lib.hid hb; clear hb))
  go_ret
  exact ⟨rfl, HB.out⟩
set_option maxHeartbeats 4000000 in
set_option maxRecDepth 100000 in
theorem implies_most (A A' : Option Addr) (c c' : Nat) (a b : List Int) (v : Int) (n : Int) (w : World) (h1 : Nums w w.heap.size (.slice A a.length c) a) (h2 : Nums w w.heap.size (.slice A' b.length c') b) (hp : Pow w) (hla : a.length ≤ 20) (hlb : b.length ≤ 20) (hc : checkC [a, b] = 0) (hm : mostL [a, b] = n) (hn : 10 < n) :
    Calls Tryz.prog 4 #[.slice A a.length c, .slice A' b.length c', .int .i64 v] w (TruePost w) := by
  have HG := Lib.hid (grid2 w A A' a.length c b.length c' a b h1 h2)
  have HF : Fits [a, b] := ⟨by simp, by simp; omega⟩
  have HC := Lib.hid (rcheck_b _ [a, b] _ HG.out HF 0 hc)
  have h1' := h1.alloc (.cells #[.slice A a.length c, .slice A' b.length c'] 23)
  have h2' := h2.alloc (.cells #[.slice A a.length c, .slice A' b.length c'] 23)
  have HM := Lib.hid (rmost_b _ [a, b] _ (grid2 _ A A' a.length c b.length c' a b h1' h2') HF n hm)
  rw [alloc_size] at HM
  have HA := Lib.hid (fun o p : Obj => awake_b w _ hp (below_alloc (below_alloc (Below.refl _ w) o) p))
  have hd : ¬ (20 : Int) < (a.length : Int) := by omega
  have hd2 : ¬ (20 : Int) < (b.length : Int) := by omega
  clear hp hla hlb h1 h2 hc h1' h2' HF hm
  go_enter Tryz.func4, Tryz.ntmps4
  go_wp2_with (first
    | (go_at_call 7; refine (HC.out).mono ?_; rintro e w' ⟨rfl, hw⟩; subst hw)
    | (go_at_call 8; refine (HM.out).mono ?_; rintro e w' ⟨rfl, hw⟩; subst hw)
    | (go_at_call 10; refine (HA.out _ _).mono ?_; rintro e w' ⟨rfl, hb⟩; have HB := Lib.hid hb; clear hb))
  go_ret
  exact ⟨rfl, HB.out⟩
end Go.Proofs.YtpfoaaiedfidbaaGreatDoor
