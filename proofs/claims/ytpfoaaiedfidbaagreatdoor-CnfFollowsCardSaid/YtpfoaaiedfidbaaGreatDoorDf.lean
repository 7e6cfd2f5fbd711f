/- Resolving two clauses by a variable: whatever order its test is drawn in. -/
import Derived.Test.YtpfoaaiedfidbaaGreatDoorDe
import Derived.Test.YtpfoaaiedfidbaaGreatDoorEa
namespace Go.Proofs.YtpfoaaiedfidbaaGreatDoor
open Go Go.RowKit

def resolveOk (a b : List Int) (v : Int) : Bool := decide (0 < v) && cleanB a && cleanB b && hasB a v && hasB b (-v)
def restL (a b : List Int) (v : Int) : List Int := (a ++ b).filter fun y => !delB v y
def ResolvePost (a b : List Int) (v : Int) (w : World) (e : Ending) (w' : World) : Prop :=
  Below w.heap.size w w' ∧ ((resolveOk a b v = true ∧ bothB (restL a b v) = false ∧ ∃ v', e = .returned (.tuple #[v', .bool true]) ∧ Own w' w.heap.size v' (upL (restL a b v))) ∨
    ((resolveOk a b v = false ∨ bothB (restL a b v) = true) ∧ e = .returned (.tuple #[.slice none 0 0, .bool false])))
/-- What the walk of Resolve knows of its clauses. -/
structure RSet (A A' : Option Addr) (c c' : Nat) (a b' : List Int) (v : Int) (w : World) (B : Nat) : Prop where
  na : Nums w B (.slice A a.length c) a
  nb : Nums w B (.slice A' b'.length c') b'
  la : a.length ≤ 1000
  lb : b'.length ≤ 1000
  ma : rowMay a = true
  mb : rowMay b' = true
  hB : B ≤ w.heap.size
theorem undrew {B : Nat} {a w : World} (h : Below B a.drew w) : Below B a w := ⟨h.os, h.tape, h.output, h.size, h.block⟩
set_option maxHeartbeats 8000000 in
set_option maxRecDepth 100000 in
theorem resolve_i (A A' : Option Addr) (c c' : Nat) (a b' : List Int) (v : Int) (w : World) (B : Nat) (hs : RSet A A' c c' a b' v w B) (hv : v ≤ 0) :
    Calls Tryz.prog 15 #[.slice A a.length c, .slice A' b'.length c', .int .i64 v] w (ResolvePost a b' v w) := by
  have HOK := Lib.hid (show resolveOk a b' v = false by
    have : ¬ 0 < v := by omega
    simp [resolveOk, this])
  have HS := Lib.hid hs
  have hd : decide (v ≤ 0) = true := by simpa using hv
  clear hs
  have e51 := enters51
  go_enter Tryz.func15, Tryz.ntmps15
  go_wp2
  have hWb : Below w.heap.size w (w.alloc (.cells #[.int .i64 v] 3)) := (Below.refl _ w).alloc (Nat.le_refl _) _
  have hc0 : (w.alloc (.cells #[.int .i64 v] 3)).cell? ⟨w.heap.size, 0, none⟩ = some (.int .i64 v) := cell_new _ _ _
  have hb : w.heap.size < (w.alloc (.cells #[.int .i64 v] 3)).heap.size := by simp
  have hbB : B ≤ w.heap.size := HS.out.hB
  generalize (w.alloc (.cells #[.int .i64 v] 3)) = W at hc0 hb hWb ⊢
  have HW := Lib.hid hWb
  have NA := Lib.hid (HS.out.na.below hWb hbB)
  have NB := Lib.hid (HS.out.nb.below hWb hbB)
  have HCA : Hid (∀ U, Below W.heap.size W U → Calls Tryz.prog 30 #[.slice A a.length c] U fun e w' => e = .returned (.bool (cleanB a)) ∧ Below W.heap.size W w') := Lib.hid fun U hU =>
    (isClean_any (.slice A a.length c) a U B (NA.out.below hU (by omega)) (by have := HS.out.la; omega) HS.out.ma (by have := hU.size; omega)).mono fun e w' ⟨he, hb2⟩ => ⟨he, hU.trans (hb2.mono hU.size)⟩
  have HCB : Hid (∀ U, Below W.heap.size W U → Calls Tryz.prog 30 #[.slice A' b'.length c'] U fun e w' => e = .returned (.bool (cleanB b')) ∧ Below W.heap.size W w') := Lib.hid fun U hU =>
    (isClean_any (.slice A' b'.length c') b' U B (NB.out.below hU (by omega)) (by have := HS.out.lb; omega) HS.out.mb (by have := hU.size; omega)).mono fun e w' ⟨he, hb2⟩ => ⟨he, hU.trans (hb2.mono hU.size)⟩
  refine wp_region_T (S := fun w' => Below W.heap.size W w') (tail := fun i => decide (27 ≤ i)) (by kernel_rfl) ?_
  change wpAnyT _ _ _ _ _ _ _ _ _ (World.drew _)
  refine tk 0 8 (.int .i64 v) (Below.refl W.heap.size W).drew ?y0 ?_
  case y0 =>
    intro w' hw'
    have y0 := (hw'.cell (p := ⟨w.heap.size, 0, none⟩) hb).trans hc0
    go_simp
  try simp only [Act.put, List.setIfInBounds_toArray, List.set_cons_zero, List.set_cons_succ]
  refine tk 1 9 (.bool true) (Below.refl W.heap.size W).drew ?y1 ?_
  case y1 =>
    intro w' hw'
    go_simp
  try simp only [Act.put, List.setIfInBounds_toArray, List.set_cons_zero, List.set_cons_succ]
  refine tk 2 10 (.bool true) (Below.refl W.heap.size W).drew ?y2 ?_
  case y2 =>
    intro w' hw'
    go_simp
  try simp only [Act.put, List.setIfInBounds_toArray, List.set_cons_zero, List.set_cons_succ]
  refine sk 3 11 (Below.refl W.heap.size W).drew ?_
  try simp only [Act.put, List.setIfInBounds_toArray, List.set_cons_zero, List.set_cons_succ]
  refine sk 4 12 (Below.refl W.heap.size W).drew ?_
  try simp only [Act.put, List.setIfInBounds_toArray, List.set_cons_zero, List.set_cons_succ]
  refine sk 5 13 (Below.refl W.heap.size W).drew ?_
  try simp only [Act.put, List.setIfInBounds_toArray, List.set_cons_zero, List.set_cons_succ]
  refine tk 6 14 (.bool true) (Below.refl W.heap.size W).drew ?y6 ?_
  case y6 =>
    intro w' hw'
    go_simp
  try simp only [Act.put, List.setIfInBounds_toArray, List.set_cons_zero, List.set_cons_succ]
  refine tk 7 15 (.bool true) (Below.refl W.heap.size W).drew ?y7 ?_
  case y7 =>
    intro w' hw'
    go_simp
  try simp only [Act.put, List.setIfInBounds_toArray, List.set_cons_zero, List.set_cons_succ]
  refine sk 8 16 (Below.refl W.heap.size W).drew ?_
  try simp only [Act.put, List.setIfInBounds_toArray, List.set_cons_zero, List.set_cons_succ]
  refine sk 9 17 (Below.refl W.heap.size W).drew ?_
  try simp only [Act.put, List.setIfInBounds_toArray, List.set_cons_zero, List.set_cons_succ]
  refine sk 10 18 (Below.refl W.heap.size W).drew ?_
  try simp only [Act.put, List.setIfInBounds_toArray, List.set_cons_zero, List.set_cons_succ]
  refine tk 11 19 (.bool true) (Below.refl W.heap.size W).drew ?y11 ?_
  case y11 =>
    intro w' hw'
    go_simp
  try simp only [Act.put, List.setIfInBounds_toArray, List.set_cons_zero, List.set_cons_succ]
  refine tk 12 20 (.bool true) (Below.refl W.heap.size W).drew ?y12 ?_
  case y12 =>
    intro w' hw'
    go_simp
  try simp only [Act.put, List.setIfInBounds_toArray, List.set_cons_zero, List.set_cons_succ]
  refine sk 13 21 (Below.refl W.heap.size W).drew ?_
  try simp only [Act.put, List.setIfInBounds_toArray, List.set_cons_zero, List.set_cons_succ]
  refine sk 14 22 (Below.refl W.heap.size W).drew ?_
  try simp only [Act.put, List.setIfInBounds_toArray, List.set_cons_zero, List.set_cons_succ]
  refine sk 15 23 (Below.refl W.heap.size W).drew ?_
  try simp only [Act.put, List.setIfInBounds_toArray, List.set_cons_zero, List.set_cons_succ]
  refine sk 16 24 (Below.refl W.heap.size W).drew ?_
  try simp only [Act.put, List.setIfInBounds_toArray, List.set_cons_zero, List.set_cons_succ]
  refine sk 17 25 (Below.refl W.heap.size W).drew ?_
  try simp only [Act.put, List.setIfInBounds_toArray, List.set_cons_zero, List.set_cons_succ]
  refine tk 18 26 (.bool true) (Below.refl W.heap.size W).drew ?y18 ?_
  case y18 =>
    intro w' hw'
    go_simp
  try simp only [Act.put, List.setIfInBounds_toArray, List.set_cons_zero, List.set_cons_succ]
  refine tk 19 27 (.bool true) (Below.refl W.heap.size W).drew ?y19 ?_
  case y19 =>
    intro w' hw'
    go_simp
  try simp only [Act.put, List.setIfInBounds_toArray, List.set_cons_zero, List.set_cons_succ]
  refine sk 20 28 (Below.refl W.heap.size W).drew ?_
  try simp only [Act.put, List.setIfInBounds_toArray, List.set_cons_zero, List.set_cons_succ]
  refine sk 21 29 (Below.refl W.heap.size W).drew ?_
  try simp only [Act.put, List.setIfInBounds_toArray, List.set_cons_zero, List.set_cons_succ]
  refine sk 22 30 (Below.refl W.heap.size W).drew ?_
  try simp only [Act.put, List.setIfInBounds_toArray, List.set_cons_zero, List.set_cons_succ]
  refine sk 23 31 (Below.refl W.heap.size W).drew ?_
  try simp only [Act.put, List.setIfInBounds_toArray, List.set_cons_zero, List.set_cons_succ]
  refine sk 24 32 (Below.refl W.heap.size W).drew ?_
  try simp only [Act.put, List.setIfInBounds_toArray, List.set_cons_zero, List.set_cons_succ]
  refine sk 25 33 (Below.refl W.heap.size W).drew ?_
  try simp only [Act.put, List.setIfInBounds_toArray, List.set_cons_zero, List.set_cons_succ]
  refine tk 26 34 (.bool true) (Below.refl W.heap.size W).drew ?y26 ?_
  case y26 =>
    intro w' hw'
    go_simp
  try simp only [Act.put, List.setIfInBounds_toArray, List.set_cons_zero, List.set_cons_succ]
  refine dn ?_
  go_wp2
  go_ret2
  exact ⟨HW.out.trans (((Below.refl W.heap.size W).drew).mono (by omega)), .inr ⟨.inl HOK.out, rfl⟩⟩
set_option maxHeartbeats 8000000 in
set_option maxRecDepth 100000 in
theorem resolve_ii (A A' : Option Addr) (c c' : Nat) (a b' : List Int) (v : Int) (w : World) (B : Nat) (hs : RSet A A' c c' a b' v w B) (hv : 0 < v) (ha : cleanB a = false) :
    Calls Tryz.prog 15 #[.slice A a.length c, .slice A' b'.length c', .int .i64 v] w (ResolvePost a b' v w) := by
  have HOK := Lib.hid (show resolveOk a b' v = false by
    simp [resolveOk, ha])
  have HS := Lib.hid hs
  have hd : decide (v ≤ 0) = false := by simp; omega
  have HA := Lib.hid ha
  clear ha
  clear hs
  have e51 := enters51
  go_enter Tryz.func15, Tryz.ntmps15
  go_wp2
  have hWb : Below w.heap.size w (w.alloc (.cells #[.int .i64 v] 3)) := (Below.refl _ w).alloc (Nat.le_refl _) _
  have hc0 : (w.alloc (.cells #[.int .i64 v] 3)).cell? ⟨w.heap.size, 0, none⟩ = some (.int .i64 v) := cell_new _ _ _
  have hb : w.heap.size < (w.alloc (.cells #[.int .i64 v] 3)).heap.size := by simp
  have hbB : B ≤ w.heap.size := HS.out.hB
  generalize (w.alloc (.cells #[.int .i64 v] 3)) = W at hc0 hb hWb ⊢
  have HW := Lib.hid hWb
  have NA := Lib.hid (HS.out.na.below hWb hbB)
  have NB := Lib.hid (HS.out.nb.below hWb hbB)
  have HCA : Hid (∀ U, Below W.heap.size W U → Calls Tryz.prog 30 #[.slice A a.length c] U fun e w' => e = .returned (.bool (cleanB a)) ∧ Below W.heap.size W w') := Lib.hid fun U hU =>
    (isClean_any (.slice A a.length c) a U B (NA.out.below hU (by omega)) (by have := HS.out.la; omega) HS.out.ma (by have := hU.size; omega)).mono fun e w' ⟨he, hb2⟩ => ⟨he, hU.trans (hb2.mono hU.size)⟩
  have HCB : Hid (∀ U, Below W.heap.size W U → Calls Tryz.prog 30 #[.slice A' b'.length c'] U fun e w' => e = .returned (.bool (cleanB b')) ∧ Below W.heap.size W w') := Lib.hid fun U hU =>
    (isClean_any (.slice A' b'.length c') b' U B (NB.out.below hU (by omega)) (by have := HS.out.lb; omega) HS.out.mb (by have := hU.size; omega)).mono fun e w' ⟨he, hb2⟩ => ⟨he, hU.trans (hb2.mono hU.size)⟩
  refine wp_region_T (S := fun w' => Below W.heap.size W w') (tail := fun i => decide (27 ≤ i)) (by kernel_rfl) ?_
  change wpAnyT _ _ _ _ _ _ _ _ _ (World.drew _)
  refine tk 0 8 (.int .i64 v) (Below.refl W.heap.size W).drew ?y0 ?_
  case y0 =>
    intro w' hw'
    have y0 := (hw'.cell (p := ⟨w.heap.size, 0, none⟩) hb).trans hc0
    go_simp
  try simp only [Act.put, List.setIfInBounds_toArray, List.set_cons_zero, List.set_cons_succ]
  refine tk 1 9 (.bool false) (Below.refl W.heap.size W).drew ?y1 ?_
  case y1 =>
    intro w' hw'
    go_simp
  try simp only [Act.put, List.setIfInBounds_toArray, List.set_cons_zero, List.set_cons_succ]
  refine tk 2 10 (.bool false) (Below.refl W.heap.size W).drew ?y2 ?_
  case y2 =>
    intro w' hw'
    go_simp
  try simp only [Act.put, List.setIfInBounds_toArray, List.set_cons_zero, List.set_cons_succ]
  refine tk 3 11 (.slice A a.length c) (Below.refl W.heap.size W).drew ?y3 ?_
  case y3 =>
    intro w' hw'
    go_simp
  try simp only [Act.put, List.setIfInBounds_toArray, List.set_cons_zero, List.set_cons_succ]
  refine on 4 (fun K hK => ?_)
  go_simp
  refine (HCA.out _ (Below.refl W.heap.size W).drew).mono ?_
  rintro e w1 ⟨rfl, hbx⟩
  rw [HA.out]
  have HXw1 := Lib.hid hbx
  refine hK.out _ _ (fun _ => hbx) ?_
  clear hK K
  try simp only [Act.put, List.setIfInBounds_toArray, List.set_cons_zero, List.set_cons_succ]
  clear hbx
  refine tk 5 13 (.bool true) HXw1.out ?y5 ?_
  case y5 =>
    intro w' hw'
    go_simp
  try simp only [Act.put, List.setIfInBounds_toArray, List.set_cons_zero, List.set_cons_succ]
  refine tk 6 14 (.bool true) HXw1.out ?y6 ?_
  case y6 =>
    intro w' hw'
    go_simp
  try simp only [Act.put, List.setIfInBounds_toArray, List.set_cons_zero, List.set_cons_succ]
  refine tk 7 15 (.bool true) HXw1.out ?y7 ?_
  case y7 =>
    intro w' hw'
    go_simp
  try simp only [Act.put, List.setIfInBounds_toArray, List.set_cons_zero, List.set_cons_succ]
  refine sk 8 16 HXw1.out ?_
  try simp only [Act.put, List.setIfInBounds_toArray, List.set_cons_zero, List.set_cons_succ]
  refine sk 9 17 HXw1.out ?_
  try simp only [Act.put, List.setIfInBounds_toArray, List.set_cons_zero, List.set_cons_succ]
  refine sk 10 18 HXw1.out ?_
  try simp only [Act.put, List.setIfInBounds_toArray, List.set_cons_zero, List.set_cons_succ]
  refine tk 11 19 (.bool true) HXw1.out ?y11 ?_
  case y11 =>
    intro w' hw'
    go_simp
  try simp only [Act.put, List.setIfInBounds_toArray, List.set_cons_zero, List.set_cons_succ]
  refine tk 12 20 (.bool true) HXw1.out ?y12 ?_
  case y12 =>
    intro w' hw'
    go_simp
  try simp only [Act.put, List.setIfInBounds_toArray, List.set_cons_zero, List.set_cons_succ]
  refine sk 13 21 HXw1.out ?_
  try simp only [Act.put, List.setIfInBounds_toArray, List.set_cons_zero, List.set_cons_succ]
  refine sk 14 22 HXw1.out ?_
  try simp only [Act.put, List.setIfInBounds_toArray, List.set_cons_zero, List.set_cons_succ]
  refine sk 15 23 HXw1.out ?_
  try simp only [Act.put, List.setIfInBounds_toArray, List.set_cons_zero, List.set_cons_succ]
  refine sk 16 24 HXw1.out ?_
  try simp only [Act.put, List.setIfInBounds_toArray, List.set_cons_zero, List.set_cons_succ]
  refine sk 17 25 HXw1.out ?_
  try simp only [Act.put, List.setIfInBounds_toArray, List.set_cons_zero, List.set_cons_succ]
  refine tk 18 26 (.bool true) HXw1.out ?y18 ?_
  case y18 =>
    intro w' hw'
    go_simp
  try simp only [Act.put, List.setIfInBounds_toArray, List.set_cons_zero, List.set_cons_succ]
  refine tk 19 27 (.bool true) HXw1.out ?y19 ?_
  case y19 =>
    intro w' hw'
    go_simp
  try simp only [Act.put, List.setIfInBounds_toArray, List.set_cons_zero, List.set_cons_succ]
  refine sk 20 28 HXw1.out ?_
  try simp only [Act.put, List.setIfInBounds_toArray, List.set_cons_zero, List.set_cons_succ]
  refine sk 21 29 HXw1.out ?_
  try simp only [Act.put, List.setIfInBounds_toArray, List.set_cons_zero, List.set_cons_succ]
  refine sk 22 30 HXw1.out ?_
  try simp only [Act.put, List.setIfInBounds_toArray, List.set_cons_zero, List.set_cons_succ]
  refine sk 23 31 HXw1.out ?_
  try simp only [Act.put, List.setIfInBounds_toArray, List.set_cons_zero, List.set_cons_succ]
  refine sk 24 32 HXw1.out ?_
  try simp only [Act.put, List.setIfInBounds_toArray, List.set_cons_zero, List.set_cons_succ]
  refine sk 25 33 HXw1.out ?_
  try simp only [Act.put, List.setIfInBounds_toArray, List.set_cons_zero, List.set_cons_succ]
  refine tk 26 34 (.bool true) HXw1.out ?y26 ?_
  case y26 =>
    intro w' hw'
    go_simp
  try simp only [Act.put, List.setIfInBounds_toArray, List.set_cons_zero, List.set_cons_succ]
  refine dn ?_
  go_wp2
  go_ret2
  exact ⟨HW.out.trans ((HXw1.out).mono (by omega)), .inr ⟨.inl HOK.out, rfl⟩⟩
set_option maxHeartbeats 8000000 in
set_option maxRecDepth 100000 in
theorem resolve_iii (A A' : Option Addr) (c c' : Nat) (a b' : List Int) (v : Int) (w : World) (B : Nat) (hs : RSet A A' c c' a b' v w B) (hv : 0 < v) (ha : cleanB a = true) (hbb : cleanB b' = false) :
    Calls Tryz.prog 15 #[.slice A a.length c, .slice A' b'.length c', .int .i64 v] w (ResolvePost a b' v w) := by
  have HOK := Lib.hid (show resolveOk a b' v = false by
    simp [resolveOk, hbb])
  have HS := Lib.hid hs
  have hd : decide (v ≤ 0) = false := by simp; omega
  have HA := Lib.hid ha
  clear ha
  have HB := Lib.hid hbb
  clear hbb
  clear hs
  have e51 := enters51
  go_enter Tryz.func15, Tryz.ntmps15
  go_wp2
  have hWb : Below w.heap.size w (w.alloc (.cells #[.int .i64 v] 3)) := (Below.refl _ w).alloc (Nat.le_refl _) _
  have hc0 : (w.alloc (.cells #[.int .i64 v] 3)).cell? ⟨w.heap.size, 0, none⟩ = some (.int .i64 v) := cell_new _ _ _
  have hb : w.heap.size < (w.alloc (.cells #[.int .i64 v] 3)).heap.size := by simp
  have hbB : B ≤ w.heap.size := HS.out.hB
  generalize (w.alloc (.cells #[.int .i64 v] 3)) = W at hc0 hb hWb ⊢
  have HW := Lib.hid hWb
  have NA := Lib.hid (HS.out.na.below hWb hbB)
  have NB := Lib.hid (HS.out.nb.below hWb hbB)
  have HCA : Hid (∀ U, Below W.heap.size W U → Calls Tryz.prog 30 #[.slice A a.length c] U fun e w' => e = .returned (.bool (cleanB a)) ∧ Below W.heap.size W w') := Lib.hid fun U hU =>
    (isClean_any (.slice A a.length c) a U B (NA.out.below hU (by omega)) (by have := HS.out.la; omega) HS.out.ma (by have := hU.size; omega)).mono fun e w' ⟨he, hb2⟩ => ⟨he, hU.trans (hb2.mono hU.size)⟩
  have HCB : Hid (∀ U, Below W.heap.size W U → Calls Tryz.prog 30 #[.slice A' b'.length c'] U fun e w' => e = .returned (.bool (cleanB b')) ∧ Below W.heap.size W w') := Lib.hid fun U hU =>
    (isClean_any (.slice A' b'.length c') b' U B (NB.out.below hU (by omega)) (by have := HS.out.lb; omega) HS.out.mb (by have := hU.size; omega)).mono fun e w' ⟨he, hb2⟩ => ⟨he, hU.trans (hb2.mono hU.size)⟩
  refine wp_region_T (S := fun w' => Below W.heap.size W w') (tail := fun i => decide (27 ≤ i)) (by kernel_rfl) ?_
  change wpAnyT _ _ _ _ _ _ _ _ _ (World.drew _)
  refine tk 0 8 (.int .i64 v) (Below.refl W.heap.size W).drew ?y0 ?_
  case y0 =>
    intro w' hw'
    have y0 := (hw'.cell (p := ⟨w.heap.size, 0, none⟩) hb).trans hc0
    go_simp
  try simp only [Act.put, List.setIfInBounds_toArray, List.set_cons_zero, List.set_cons_succ]
  refine tk 1 9 (.bool false) (Below.refl W.heap.size W).drew ?y1 ?_
  case y1 =>
    intro w' hw'
    go_simp
  try simp only [Act.put, List.setIfInBounds_toArray, List.set_cons_zero, List.set_cons_succ]
  refine tk 2 10 (.bool false) (Below.refl W.heap.size W).drew ?y2 ?_
  case y2 =>
    intro w' hw'
    go_simp
  try simp only [Act.put, List.setIfInBounds_toArray, List.set_cons_zero, List.set_cons_succ]
  refine tk 3 11 (.slice A a.length c) (Below.refl W.heap.size W).drew ?y3 ?_
  case y3 =>
    intro w' hw'
    go_simp
  try simp only [Act.put, List.setIfInBounds_toArray, List.set_cons_zero, List.set_cons_succ]
  refine on 4 (fun K hK => ?_)
  go_simp
  refine (HCA.out _ (Below.refl W.heap.size W).drew).mono ?_
  rintro e w1 ⟨rfl, hbx⟩
  rw [HA.out]
  have HXw1 := Lib.hid hbx
  refine hK.out _ _ (fun _ => hbx) ?_
  clear hK K
  try simp only [Act.put, List.setIfInBounds_toArray, List.set_cons_zero, List.set_cons_succ]
  clear hbx
  refine tk 5 13 (.bool false) HXw1.out ?y5 ?_
  case y5 =>
    intro w' hw'
    go_simp
  try simp only [Act.put, List.setIfInBounds_toArray, List.set_cons_zero, List.set_cons_succ]
  refine tk 6 14 (.bool false) HXw1.out ?y6 ?_
  case y6 =>
    intro w' hw'
    go_simp
  try simp only [Act.put, List.setIfInBounds_toArray, List.set_cons_zero, List.set_cons_succ]
  refine tk 7 15 (.bool false) HXw1.out ?y7 ?_
  case y7 =>
    intro w' hw'
    go_simp
  try simp only [Act.put, List.setIfInBounds_toArray, List.set_cons_zero, List.set_cons_succ]
  refine tk 8 16 (.slice A' b'.length c') HXw1.out ?y8 ?_
  case y8 =>
    intro w' hw'
    go_simp
  try simp only [Act.put, List.setIfInBounds_toArray, List.set_cons_zero, List.set_cons_succ]
  refine on 9 (fun K hK => ?_)
  go_simp
  refine (HCB.out _ HXw1.out).mono ?_
  rintro e w2 ⟨rfl, hbx⟩
  rw [HB.out]
  have HXw2 := Lib.hid hbx
  refine hK.out _ _ (fun _ => hbx) ?_
  clear hK K
  try simp only [Act.put, List.setIfInBounds_toArray, List.set_cons_zero, List.set_cons_succ]
  clear hbx
  refine tk 10 18 (.bool true) HXw2.out ?y10 ?_
  case y10 =>
    intro w' hw'
    go_simp
  try simp only [Act.put, List.setIfInBounds_toArray, List.set_cons_zero, List.set_cons_succ]
  refine tk 11 19 (.bool true) HXw2.out ?y11 ?_
  case y11 =>
    intro w' hw'
    go_simp
  try simp only [Act.put, List.setIfInBounds_toArray, List.set_cons_zero, List.set_cons_succ]
  refine tk 12 20 (.bool true) HXw2.out ?y12 ?_
  case y12 =>
    intro w' hw'
    go_simp
  try simp only [Act.put, List.setIfInBounds_toArray, List.set_cons_zero, List.set_cons_succ]
  refine sk 13 21 HXw2.out ?_
  try simp only [Act.put, List.setIfInBounds_toArray, List.set_cons_zero, List.set_cons_succ]
  refine sk 14 22 HXw2.out ?_
  try simp only [Act.put, List.setIfInBounds_toArray, List.set_cons_zero, List.set_cons_succ]
  refine sk 15 23 HXw2.out ?_
  try simp only [Act.put, List.setIfInBounds_toArray, List.set_cons_zero, List.set_cons_succ]
  refine sk 16 24 HXw2.out ?_
  try simp only [Act.put, List.setIfInBounds_toArray, List.set_cons_zero, List.set_cons_succ]
  refine sk 17 25 HXw2.out ?_
  try simp only [Act.put, List.setIfInBounds_toArray, List.set_cons_zero, List.set_cons_succ]
  refine tk 18 26 (.bool true) HXw2.out ?y18 ?_
  case y18 =>
    intro w' hw'
    go_simp
  try simp only [Act.put, List.setIfInBounds_toArray, List.set_cons_zero, List.set_cons_succ]
  refine tk 19 27 (.bool true) HXw2.out ?y19 ?_
  case y19 =>
    intro w' hw'
    go_simp
  try simp only [Act.put, List.setIfInBounds_toArray, List.set_cons_zero, List.set_cons_succ]
  refine sk 20 28 HXw2.out ?_
  try simp only [Act.put, List.setIfInBounds_toArray, List.set_cons_zero, List.set_cons_succ]
  refine sk 21 29 HXw2.out ?_
  try simp only [Act.put, List.setIfInBounds_toArray, List.set_cons_zero, List.set_cons_succ]
  refine sk 22 30 HXw2.out ?_
  try simp only [Act.put, List.setIfInBounds_toArray, List.set_cons_zero, List.set_cons_succ]
  refine sk 23 31 HXw2.out ?_
  try simp only [Act.put, List.setIfInBounds_toArray, List.set_cons_zero, List.set_cons_succ]
  refine sk 24 32 HXw2.out ?_
  try simp only [Act.put, List.setIfInBounds_toArray, List.set_cons_zero, List.set_cons_succ]
  refine sk 25 33 HXw2.out ?_
  try simp only [Act.put, List.setIfInBounds_toArray, List.set_cons_zero, List.set_cons_succ]
  refine tk 26 34 (.bool true) HXw2.out ?y26 ?_
  case y26 =>
    intro w' hw'
    go_simp
  try simp only [Act.put, List.setIfInBounds_toArray, List.set_cons_zero, List.set_cons_succ]
  refine dn ?_
  go_wp2
  go_ret2
  exact ⟨HW.out.trans ((HXw2.out).mono (by omega)), .inr ⟨.inl HOK.out, rfl⟩⟩
set_option maxHeartbeats 8000000 in
set_option maxRecDepth 100000 in
theorem resolve_iv (A A' : Option Addr) (c c' : Nat) (a b' : List Int) (v : Int) (w : World) (B : Nat) (hs : RSet A A' c c' a b' v w B) (hv : 0 < v) (ha : cleanB a = true) (hbb : cleanB b' = true) (hva : hasB a v = false) :
    Calls Tryz.prog 15 #[.slice A a.length c, .slice A' b'.length c', .int .i64 v] w (ResolvePost a b' v w) := by
  have HOK := Lib.hid (show resolveOk a b' v = false by
    simp [resolveOk, hva])
  have HS := Lib.hid hs
  have hd : decide (v ≤ 0) = false := by simp; omega
  have HA := Lib.hid ha
  clear ha
  have HB := Lib.hid hbb
  clear hbb
  have HVA := Lib.hid hva
  clear hva
  clear hs
  have e51 := enters51
  go_enter Tryz.func15, Tryz.ntmps15
  go_wp2
  have hWb : Below w.heap.size w (w.alloc (.cells #[.int .i64 v] 3)) := (Below.refl _ w).alloc (Nat.le_refl _) _
  have hc0 : (w.alloc (.cells #[.int .i64 v] 3)).cell? ⟨w.heap.size, 0, none⟩ = some (.int .i64 v) := cell_new _ _ _
  have hb : w.heap.size < (w.alloc (.cells #[.int .i64 v] 3)).heap.size := by simp
  have hbB : B ≤ w.heap.size := HS.out.hB
  generalize (w.alloc (.cells #[.int .i64 v] 3)) = W at hc0 hb hWb ⊢
  have HW := Lib.hid hWb
  have NA := Lib.hid (HS.out.na.below hWb hbB)
  have NB := Lib.hid (HS.out.nb.below hWb hbB)
  have HCA : Hid (∀ U, Below W.heap.size W U → Calls Tryz.prog 30 #[.slice A a.length c] U fun e w' => e = .returned (.bool (cleanB a)) ∧ Below W.heap.size W w') := Lib.hid fun U hU =>
    (isClean_any (.slice A a.length c) a U B (NA.out.below hU (by omega)) (by have := HS.out.la; omega) HS.out.ma (by have := hU.size; omega)).mono fun e w' ⟨he, hb2⟩ => ⟨he, hU.trans (hb2.mono hU.size)⟩
  have HCB : Hid (∀ U, Below W.heap.size W U → Calls Tryz.prog 30 #[.slice A' b'.length c'] U fun e w' => e = .returned (.bool (cleanB b')) ∧ Below W.heap.size W w') := Lib.hid fun U hU =>
    (isClean_any (.slice A' b'.length c') b' U B (NB.out.below hU (by omega)) (by have := HS.out.lb; omega) HS.out.mb (by have := hU.size; omega)).mono fun e w' ⟨he, hb2⟩ => ⟨he, hU.trans (hb2.mono hU.size)⟩
  have HHA : Hid (∀ (U : World) (q : Nat), U.cell? ⟨q, 0, none⟩ = some (.slice A a.length c) → Below W.heap.size W U → Calls Tryz.prog 51 #[.int .i64 v, .pointer (some ⟨q, 0, none⟩)] U fun e w' => e = .returned (.bool (hasB a v)) ∧ Below W.heap.size W w') := Lib.hid fun U q hq hU =>
    (among_in q (.slice A a.length c) a v U B hq (NA.out.below hU (by omega)) ((cleanB_iff.1 HA.out).2).le (by have := HS.out.la; omega)).mono fun e w' ⟨he, n, hn⟩ => ⟨he, by rw [hn]; exact below_drewN' hU n⟩
  refine wp_region_T (S := fun w' => Below W.heap.size W w') (tail := fun i => decide (27 ≤ i)) (by kernel_rfl) ?_
  change wpAnyT _ _ _ _ _ _ _ _ _ (World.drew _)
  refine tk 0 8 (.int .i64 v) (Below.refl W.heap.size W).drew ?y0 ?_
  case y0 =>
    intro w' hw'
    have y0 := (hw'.cell (p := ⟨w.heap.size, 0, none⟩) hb).trans hc0
    go_simp
  try simp only [Act.put, List.setIfInBounds_toArray, List.set_cons_zero, List.set_cons_succ]
  refine tk 1 9 (.bool false) (Below.refl W.heap.size W).drew ?y1 ?_
  case y1 =>
    intro w' hw'
    go_simp
  try simp only [Act.put, List.setIfInBounds_toArray, List.set_cons_zero, List.set_cons_succ]
  refine tk 2 10 (.bool false) (Below.refl W.heap.size W).drew ?y2 ?_
  case y2 =>
    intro w' hw'
    go_simp
  try simp only [Act.put, List.setIfInBounds_toArray, List.set_cons_zero, List.set_cons_succ]
  refine tk 3 11 (.slice A a.length c) (Below.refl W.heap.size W).drew ?y3 ?_
  case y3 =>
    intro w' hw'
    go_simp
  try simp only [Act.put, List.setIfInBounds_toArray, List.set_cons_zero, List.set_cons_succ]
  refine on 4 (fun K hK => ?_)
  go_simp
  refine (HCA.out _ (Below.refl W.heap.size W).drew).mono ?_
  rintro e w1 ⟨rfl, hbx⟩
  rw [HA.out]
  have HXw1 := Lib.hid hbx
  refine hK.out _ _ (fun _ => hbx) ?_
  clear hK K
  try simp only [Act.put, List.setIfInBounds_toArray, List.set_cons_zero, List.set_cons_succ]
  clear hbx
  refine tk 5 13 (.bool false) HXw1.out ?y5 ?_
  case y5 =>
    intro w' hw'
    go_simp
  try simp only [Act.put, List.setIfInBounds_toArray, List.set_cons_zero, List.set_cons_succ]
  refine tk 6 14 (.bool false) HXw1.out ?y6 ?_
  case y6 =>
    intro w' hw'
    go_simp
  try simp only [Act.put, List.setIfInBounds_toArray, List.set_cons_zero, List.set_cons_succ]
  refine tk 7 15 (.bool false) HXw1.out ?y7 ?_
  case y7 =>
    intro w' hw'
    go_simp
  try simp only [Act.put, List.setIfInBounds_toArray, List.set_cons_zero, List.set_cons_succ]
  refine tk 8 16 (.slice A' b'.length c') HXw1.out ?y8 ?_
  case y8 =>
    intro w' hw'
    go_simp
  try simp only [Act.put, List.setIfInBounds_toArray, List.set_cons_zero, List.set_cons_succ]
  refine on 9 (fun K hK => ?_)
  go_simp
  refine (HCB.out _ HXw1.out).mono ?_
  rintro e w2 ⟨rfl, hbx⟩
  rw [HB.out]
  have HXw2 := Lib.hid hbx
  refine hK.out _ _ (fun _ => hbx) ?_
  clear hK K
  try simp only [Act.put, List.setIfInBounds_toArray, List.set_cons_zero, List.set_cons_succ]
  clear hbx
  refine tk 10 18 (.bool false) HXw2.out ?y10 ?_
  case y10 =>
    intro w' hw'
    go_simp
  try simp only [Act.put, List.setIfInBounds_toArray, List.set_cons_zero, List.set_cons_succ]
  refine tk 11 19 (.bool false) HXw2.out ?y11 ?_
  case y11 =>
    intro w' hw'
    go_simp
  try simp only [Act.put, List.setIfInBounds_toArray, List.set_cons_zero, List.set_cons_succ]
  refine tk 12 20 (.bool false) HXw2.out ?y12 ?_
  case y12 =>
    intro w' hw'
    go_simp
  try simp only [Act.put, List.setIfInBounds_toArray, List.set_cons_zero, List.set_cons_succ]
  refine tk 13 21 (.slice A a.length c) HXw2.out ?y13 ?_
  case y13 =>
    intro w' hw'
    go_simp
  try simp only [Act.put, List.setIfInBounds_toArray, List.set_cons_zero, List.set_cons_succ]
  refine tk 15 23 (.int .i64 v) HXw2.out ?y15 ?_
  case y15 =>
    intro w' hw'
    have y0 := (hw'.cell (p := ⟨w.heap.size, 0, none⟩) hb).trans hc0
    go_simp
  try simp only [Act.put, List.setIfInBounds_toArray, List.set_cons_zero, List.set_cons_succ]
  refine on 14 (fun K hK => ?_)
  go_simp
  refine (among_any _ _ _ _).mono ?_
  rintro e w3 ⟨rfl, hw3⟩
  have hbx : Below W.heap.size W w3 := by rw [hw3]; exact (HXw2.out).alloc (HXw2.out).size _
  have hcw3 : w3.cell? ⟨w2.heap.size, 0, none⟩ = some (.slice A a.length c) := by rw [hw3]; exact cell_new _ _ _
  have HXw3 := Lib.hid hbx
  have HCw3 := Lib.hid hcw3
  refine hK.out _ _ (fun _ => hbx) ?_
  clear hK K hw3 hcw3
  try simp only [Act.put, List.setIfInBounds_toArray, List.set_cons_zero, List.set_cons_succ]
  clear hbx
  refine on 16 (fun K hK => ?_)
  go_simp
  refine (HHA.out _ _ HCw3.out HXw3.out).mono ?_
  rintro e w4 ⟨rfl, hbx⟩
  rw [HVA.out]
  have HXw4 := Lib.hid hbx
  refine hK.out _ _ (fun _ => hbx) ?_
  clear hK K
  try simp only [Act.put, List.setIfInBounds_toArray, List.set_cons_zero, List.set_cons_succ]
  clear hbx
  refine tk 17 25 (.bool true) HXw4.out ?y17 ?_
  case y17 =>
    intro w' hw'
    go_simp
  try simp only [Act.put, List.setIfInBounds_toArray, List.set_cons_zero, List.set_cons_succ]
  refine tk 18 26 (.bool true) HXw4.out ?y18 ?_
  case y18 =>
    intro w' hw'
    go_simp
  try simp only [Act.put, List.setIfInBounds_toArray, List.set_cons_zero, List.set_cons_succ]
  refine tk 19 27 (.bool true) HXw4.out ?y19 ?_
  case y19 =>
    intro w' hw'
    go_simp
  try simp only [Act.put, List.setIfInBounds_toArray, List.set_cons_zero, List.set_cons_succ]
  refine sk 20 28 HXw4.out ?_
  try simp only [Act.put, List.setIfInBounds_toArray, List.set_cons_zero, List.set_cons_succ]
  refine sk 21 29 HXw4.out ?_
  try simp only [Act.put, List.setIfInBounds_toArray, List.set_cons_zero, List.set_cons_succ]
  refine sk 22 30 HXw4.out ?_
  try simp only [Act.put, List.setIfInBounds_toArray, List.set_cons_zero, List.set_cons_succ]
  refine sk 23 31 HXw4.out ?_
  try simp only [Act.put, List.setIfInBounds_toArray, List.set_cons_zero, List.set_cons_succ]
  refine sk 24 32 HXw4.out ?_
  try simp only [Act.put, List.setIfInBounds_toArray, List.set_cons_zero, List.set_cons_succ]
  refine sk 25 33 HXw4.out ?_
  try simp only [Act.put, List.setIfInBounds_toArray, List.set_cons_zero, List.set_cons_succ]
  refine tk 26 34 (.bool true) HXw4.out ?y26 ?_
  case y26 =>
    intro w' hw'
    go_simp
  try simp only [Act.put, List.setIfInBounds_toArray, List.set_cons_zero, List.set_cons_succ]
  refine dn ?_
  go_wp2
  go_ret2
  exact ⟨HW.out.trans ((HXw4.out).mono (by omega)), .inr ⟨.inl HOK.out, rfl⟩⟩
set_option maxHeartbeats 8000000 in
set_option maxRecDepth 100000 in
theorem resolve_v (A A' : Option Addr) (c c' : Nat) (a b' : List Int) (v : Int) (w : World) (B : Nat) (hs : RSet A A' c c' a b' v w B) (hv : 0 < v) (ha : cleanB a = true) (hbb : cleanB b' = true) (hva : hasB a v = true) (hvb : hasB b' (-v) = false) :
    Calls Tryz.prog 15 #[.slice A a.length c, .slice A' b'.length c', .int .i64 v] w (ResolvePost a b' v w) := by
  have HOK := Lib.hid (show resolveOk a b' v = false by
    simp [resolveOk, hvb])
  have HS := Lib.hid hs
  have hd : decide (v ≤ 0) = false := by simp; omega
  have HA := Lib.hid ha
  clear ha
  have HB := Lib.hid hbb
  clear hbb
  have HVA := Lib.hid hva
  have HVB := Lib.hid hvb
  obtain ⟨_, hv2, hv3⟩ := mayB_iff.1 (rowMay_iff.1 hs.ma v (hasB_iff.1 hva))
  have hrisa := (cleanB_iff.1 HA.out).2
  have HRA := Lib.hid hrisa
  clear hvb hva hrisa
  clear hs
  have e51 := enters51
  go_enter Tryz.func15, Tryz.ntmps15
  go_wp2
  have hWb : Below w.heap.size w (w.alloc (.cells #[.int .i64 v] 3)) := (Below.refl _ w).alloc (Nat.le_refl _) _
  have hc0 : (w.alloc (.cells #[.int .i64 v] 3)).cell? ⟨w.heap.size, 0, none⟩ = some (.int .i64 v) := cell_new _ _ _
  have hb : w.heap.size < (w.alloc (.cells #[.int .i64 v] 3)).heap.size := by simp
  have hbB : B ≤ w.heap.size := HS.out.hB
  generalize (w.alloc (.cells #[.int .i64 v] 3)) = W at hc0 hb hWb ⊢
  have HW := Lib.hid hWb
  have NA := Lib.hid (HS.out.na.below hWb hbB)
  have NB := Lib.hid (HS.out.nb.below hWb hbB)
  have HCA : Hid (∀ U, Below W.heap.size W U → Calls Tryz.prog 30 #[.slice A a.length c] U fun e w' => e = .returned (.bool (cleanB a)) ∧ Below W.heap.size W w') := Lib.hid fun U hU =>
    (isClean_any (.slice A a.length c) a U B (NA.out.below hU (by omega)) (by have := HS.out.la; omega) HS.out.ma (by have := hU.size; omega)).mono fun e w' ⟨he, hb2⟩ => ⟨he, hU.trans (hb2.mono hU.size)⟩
  have HCB : Hid (∀ U, Below W.heap.size W U → Calls Tryz.prog 30 #[.slice A' b'.length c'] U fun e w' => e = .returned (.bool (cleanB b')) ∧ Below W.heap.size W w') := Lib.hid fun U hU =>
    (isClean_any (.slice A' b'.length c') b' U B (NB.out.below hU (by omega)) (by have := HS.out.lb; omega) HS.out.mb (by have := hU.size; omega)).mono fun e w' ⟨he, hb2⟩ => ⟨he, hU.trans (hb2.mono hU.size)⟩
  have HHA : Hid (∀ (U : World) (q : Nat), U.cell? ⟨q, 0, none⟩ = some (.slice A a.length c) → Below W.heap.size W U → Calls Tryz.prog 51 #[.int .i64 v, .pointer (some ⟨q, 0, none⟩)] U fun e w' => e = .returned (.bool (hasB a v)) ∧ Below W.heap.size W w') := Lib.hid fun U q hq hU =>
    (among_in q (.slice A a.length c) a v U B hq (NA.out.below hU (by omega)) ((cleanB_iff.1 HA.out).2).le (by have := HS.out.la; omega)).mono fun e w' ⟨he, n, hn⟩ => ⟨he, by rw [hn]; exact below_drewN' hU n⟩
  have HHB : Hid (∀ (U : World) (q : Nat), U.cell? ⟨q, 0, none⟩ = some (.slice A' b'.length c') → Below W.heap.size W U → Calls Tryz.prog 51 #[.int .i64 (-v), .pointer (some ⟨q, 0, none⟩)] U fun e w' => e = .returned (.bool (hasB b' (-v))) ∧ Below W.heap.size W w') := Lib.hid fun U q hq hU =>
    (among_in q (.slice A' b'.length c') b' (-v) U B hq (NB.out.below hU (by omega)) ((cleanB_iff.1 HB.out).2).le (by have := HS.out.lb; omega)).mono fun e w' ⟨he, n, hn⟩ => ⟨he, by rw [hn]; exact below_drewN' hU n⟩
  refine wp_region_T (S := fun w' => Below W.heap.size W w') (tail := fun i => decide (27 ≤ i)) (by kernel_rfl) ?_
  change wpAnyT _ _ _ _ _ _ _ _ _ (World.drew _)
  refine tk 0 8 (.int .i64 v) (Below.refl W.heap.size W).drew ?y0 ?_
  case y0 =>
    intro w' hw'
    have y0 := (hw'.cell (p := ⟨w.heap.size, 0, none⟩) hb).trans hc0
    go_simp
  try simp only [Act.put, List.setIfInBounds_toArray, List.set_cons_zero, List.set_cons_succ]
  refine tk 1 9 (.bool false) (Below.refl W.heap.size W).drew ?y1 ?_
  case y1 =>
    intro w' hw'
    go_simp
  try simp only [Act.put, List.setIfInBounds_toArray, List.set_cons_zero, List.set_cons_succ]
  refine tk 2 10 (.bool false) (Below.refl W.heap.size W).drew ?y2 ?_
  case y2 =>
    intro w' hw'
    go_simp
  try simp only [Act.put, List.setIfInBounds_toArray, List.set_cons_zero, List.set_cons_succ]
  refine tk 3 11 (.slice A a.length c) (Below.refl W.heap.size W).drew ?y3 ?_
  case y3 =>
    intro w' hw'
    go_simp
  try simp only [Act.put, List.setIfInBounds_toArray, List.set_cons_zero, List.set_cons_succ]
  refine on 4 (fun K hK => ?_)
  go_simp
  refine (HCA.out _ (Below.refl W.heap.size W).drew).mono ?_
  rintro e w1 ⟨rfl, hbx⟩
  rw [HA.out]
  have HXw1 := Lib.hid hbx
  refine hK.out _ _ (fun _ => hbx) ?_
  clear hK K
  try simp only [Act.put, List.setIfInBounds_toArray, List.set_cons_zero, List.set_cons_succ]
  clear hbx
  refine tk 5 13 (.bool false) HXw1.out ?y5 ?_
  case y5 =>
    intro w' hw'
    go_simp
  try simp only [Act.put, List.setIfInBounds_toArray, List.set_cons_zero, List.set_cons_succ]
  refine tk 6 14 (.bool false) HXw1.out ?y6 ?_
  case y6 =>
    intro w' hw'
    go_simp
  try simp only [Act.put, List.setIfInBounds_toArray, List.set_cons_zero, List.set_cons_succ]
  refine tk 7 15 (.bool false) HXw1.out ?y7 ?_
  case y7 =>
    intro w' hw'
    go_simp
  try simp only [Act.put, List.setIfInBounds_toArray, List.set_cons_zero, List.set_cons_succ]
  refine tk 8 16 (.slice A' b'.length c') HXw1.out ?y8 ?_
  case y8 =>
    intro w' hw'
    go_simp
  try simp only [Act.put, List.setIfInBounds_toArray, List.set_cons_zero, List.set_cons_succ]
  refine on 9 (fun K hK => ?_)
  go_simp
  refine (HCB.out _ HXw1.out).mono ?_
  rintro e w2 ⟨rfl, hbx⟩
  rw [HB.out]
  have HXw2 := Lib.hid hbx
  refine hK.out _ _ (fun _ => hbx) ?_
  clear hK K
  try simp only [Act.put, List.setIfInBounds_toArray, List.set_cons_zero, List.set_cons_succ]
  clear hbx
  refine tk 10 18 (.bool false) HXw2.out ?y10 ?_
  case y10 =>
    intro w' hw'
    go_simp
  try simp only [Act.put, List.setIfInBounds_toArray, List.set_cons_zero, List.set_cons_succ]
  refine tk 11 19 (.bool false) HXw2.out ?y11 ?_
  case y11 =>
    intro w' hw'
    go_simp
  try simp only [Act.put, List.setIfInBounds_toArray, List.set_cons_zero, List.set_cons_succ]
  refine tk 12 20 (.bool false) HXw2.out ?y12 ?_
  case y12 =>
    intro w' hw'
    go_simp
  try simp only [Act.put, List.setIfInBounds_toArray, List.set_cons_zero, List.set_cons_succ]
  refine tk 13 21 (.slice A a.length c) HXw2.out ?y13 ?_
  case y13 =>
    intro w' hw'
    go_simp
  try simp only [Act.put, List.setIfInBounds_toArray, List.set_cons_zero, List.set_cons_succ]
  refine tk 15 23 (.int .i64 v) HXw2.out ?y15 ?_
  case y15 =>
    intro w' hw'
    have y0 := (hw'.cell (p := ⟨w.heap.size, 0, none⟩) hb).trans hc0
    go_simp
  try simp only [Act.put, List.setIfInBounds_toArray, List.set_cons_zero, List.set_cons_succ]
  refine on 14 (fun K hK => ?_)
  go_simp
  refine (among_any _ _ _ _).mono ?_
  rintro e w3 ⟨rfl, hw3⟩
  have hbx : Below W.heap.size W w3 := by rw [hw3]; exact (HXw2.out).alloc (HXw2.out).size _
  have hcw3 : w3.cell? ⟨w2.heap.size, 0, none⟩ = some (.slice A a.length c) := by rw [hw3]; exact cell_new _ _ _
  have HXw3 := Lib.hid hbx
  have HCw3 := Lib.hid hcw3
  refine hK.out _ _ (fun _ => hbx) ?_
  clear hK K hw3 hcw3
  try simp only [Act.put, List.setIfInBounds_toArray, List.set_cons_zero, List.set_cons_succ]
  clear hbx
  refine on 16 (fun K hK => ?_)
  go_simp
  refine (HHA.out _ _ HCw3.out HXw3.out).mono ?_
  rintro e w4 ⟨rfl, hbx⟩
  rw [HVA.out]
  have HXw4 := Lib.hid hbx
  refine hK.out _ _ (fun _ => hbx) ?_
  clear hK K
  try simp only [Act.put, List.setIfInBounds_toArray, List.set_cons_zero, List.set_cons_succ]
  clear hbx
  refine tk 17 25 (.bool false) HXw4.out ?y17 ?_
  case y17 =>
    intro w' hw'
    go_simp
  try simp only [Act.put, List.setIfInBounds_toArray, List.set_cons_zero, List.set_cons_succ]
  refine tk 18 26 (.bool false) HXw4.out ?y18 ?_
  case y18 =>
    intro w' hw'
    go_simp
  try simp only [Act.put, List.setIfInBounds_toArray, List.set_cons_zero, List.set_cons_succ]
  refine tk 19 27 (.bool false) HXw4.out ?y19 ?_
  case y19 =>
    intro w' hw'
    go_simp
  try simp only [Act.put, List.setIfInBounds_toArray, List.set_cons_zero, List.set_cons_succ]
  refine tk 20 28 (.slice A' b'.length c') HXw4.out ?y20 ?_
  case y20 =>
    intro w' hw'
    go_simp
  try simp only [Act.put, List.setIfInBounds_toArray, List.set_cons_zero, List.set_cons_succ]
  refine tk 22 30 (.int .i64 v) HXw4.out ?y22 ?_
  case y22 =>
    intro w' hw'
    have y0 := (hw'.cell (p := ⟨w.heap.size, 0, none⟩) hb).trans hc0
    go_simp
  try simp only [Act.put, List.setIfInBounds_toArray, List.set_cons_zero, List.set_cons_succ]
  refine tk 23 31 (.int .i64 (-v)) HXw4.out ?y23 ?_
  case y23 =>
    intro w' hw'
    have y1 : IntKind.i64.wrap (-v) = -v := IntWalk.i64_in _ (by omega)
    go_simp
  try simp only [Act.put, List.setIfInBounds_toArray, List.set_cons_zero, List.set_cons_succ]
  refine on 21 (fun K hK => ?_)
  go_simp
  refine (among_any _ _ _ _).mono ?_
  rintro e w5 ⟨rfl, hw5⟩
  have hbx : Below W.heap.size W w5 := by rw [hw5]; exact (HXw4.out).alloc (HXw4.out).size _
  have hcw5 : w5.cell? ⟨w4.heap.size, 0, none⟩ = some (.slice A' b'.length c') := by rw [hw5]; exact cell_new _ _ _
  have HXw5 := Lib.hid hbx
  have HCw5 := Lib.hid hcw5
  refine hK.out _ _ (fun _ => hbx) ?_
  clear hK K hw5 hcw5
  try simp only [Act.put, List.setIfInBounds_toArray, List.set_cons_zero, List.set_cons_succ]
  clear hbx
  refine on 24 (fun K hK => ?_)
  go_simp
  refine (HHB.out _ _ HCw5.out HXw5.out).mono ?_
  rintro e w6 ⟨rfl, hbx⟩
  rw [HVB.out]
  have HXw6 := Lib.hid hbx
  refine hK.out _ _ (fun _ => hbx) ?_
  clear hK K
  try simp only [Act.put, List.setIfInBounds_toArray, List.set_cons_zero, List.set_cons_succ]
  clear hbx
  refine tk 25 33 (.bool true) HXw6.out ?y25 ?_
  case y25 =>
    intro w' hw'
    go_simp
  try simp only [Act.put, List.setIfInBounds_toArray, List.set_cons_zero, List.set_cons_succ]
  refine tk 26 34 (.bool true) HXw6.out ?y26 ?_
  case y26 =>
    intro w' hw'
    go_simp
  try simp only [Act.put, List.setIfInBounds_toArray, List.set_cons_zero, List.set_cons_succ]
  refine dn ?_
  go_wp2
  go_ret2
  exact ⟨HW.out.trans ((HXw6.out).mono (by omega)), .inr ⟨.inl HOK.out, rfl⟩⟩
end Go.Proofs.YtpfoaaiedfidbaaGreatDoor
