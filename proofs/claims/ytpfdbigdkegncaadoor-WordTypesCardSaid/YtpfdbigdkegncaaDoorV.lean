/- The document's bits: the contracts of skuaref01's Right, Bits and Value, and what bits are worth. -/
import Derived.Test.YtpfdbigdkegncaaDoorI
namespace Go.Proofs.YtpfdbigdkegncaaDoor
open Go.RowKit

/-- The lowest n bits of a number, the lowest one first. -/
def bitsR (v : Int) : Nat → List Bool
  | 0 => []
  | n + 1 => (v % 2 == 1) :: bitsR (v / 2) n
/-- The number of bits. -/
def valL : List Bool → Int
  | [] => 0
  | b :: r => (if b then 1 else 0) + 2 * valL r

theorem bits_len (v : Int) (n : Nat) : (bitsR v n).length = n := by
  induction n generalizing v with
  | zero => rfl
  | succ n ih => simp [bitsR, ih]
theorem bits_snoc (v : Int) (k : Nat) : bitsR v (k + 1) = bitsR v k ++ [v / 2 ^ k % 2 == 1] := by
  induction k generalizing v with
  | zero => simp [bitsR]
  | succ k ih =>
    rw [bitsR, ih (v / 2)]
    have : v / 2 / 2 ^ k = v / 2 ^ (k + 1) := by
      rw [Int.ediv_ediv_of_nonneg (by decide), ← Int.pow_succ']
    rw [this]
    rfl
theorem val_bits (v : Int) (n : Nat) : valL (bitsR v n) = v % 2 ^ n := by
  induction n generalizing v with
  | zero => simp [bitsR, valL]
  | succ n ih =>
    rw [bitsR, valL, ih (v / 2)]
    have h1 : v % 2 ^ (n + 1) = v % 2 + 2 * (v / 2 % 2 ^ n) := by
      have hp : (0 : Int) < 2 ^ n := Int.pow_pos (by decide)
      rw [Int.pow_succ]
      have := Int.emod_add_mul_ediv (v / 2) (2 ^ n)
      have h2 := Int.emod_add_mul_ediv v 2
      have h3 := Int.emod_nonneg (v / 2) (Int.ne_of_gt hp)
      have h4 := Int.emod_lt_of_pos (v / 2) hp
      have key : v = (v % 2 + 2 * (v / 2 % 2 ^ n)) + 2 ^ n * 2 * (v / 2 / 2 ^ n) := by
        have e : 2 ^ n * 2 * (v / 2 / 2 ^ n) = 2 * (2 ^ n * (v / 2 / 2 ^ n)) := by rw [Int.mul_comm (2 ^ n) 2, Int.mul_assoc]
        rw [e]
        omega
      rw [key, Int.add_mul_emod_self_left]
      have e3 : (v % 2 + 2 * (v / 2 % 2 ^ n) + 2 ^ n * 2 * (v / 2 / 2 ^ n)) = v := key.symm
      rw [e3]
      exact Int.emod_eq_of_lt (by omega) (by omega)
    rw [h1]
    by_cases hb : v % 2 = 1
    · simp [hb]
    · have : v % 2 = 0 := by omega
      simp [this]
theorem val_bd (l : List Bool) : 0 ≤ valL l ∧ valL l < 2 ^ l.length := by
  induction l with
  | nil => simp [valL]
  | cons b r ih =>
    rw [valL, List.length_cons, Int.pow_succ]
    cases b <;> simp <;> omega

set_option maxHeartbeats 400000 in
theorem rright_any (W : Int) (S : Bool) (w : World) :
    Calls Tryd.prog 15 #[.agg #[.int .i64 W, .bool S]] w fun e w' => e = .returned (.bool (rt W S)) ∧ Below w.heap.size w w' := by
  have fin : Below w.heap.size w (w.alloc (.cells #[.int .i64 W, .bool S] 23)) := (Below.refl _ _).alloc (Nat.le_refl _) _
  by_cases h1 : W = 1
  · subst h1
    have e : rt 1 S = !S := by cases S <;> rfl
    rw [e]
    go_enter Tryd.func15, Tryd.ntmps15
    go_wp2
    go_ret
    exact ⟨rfl, fin⟩
  have h1' : (W == 1) = false := by simpa using h1
  by_cases h8 : W = 8
  · subst h8
    have e : rt 8 S = true := by cases S <;> rfl
    rw [e]
    go_enter Tryd.func15, Tryd.ntmps15
    go_wp2
    go_ret
    exact ⟨rfl, fin⟩
  have h8' : (W == 8) = false := by simpa using h8
  by_cases h16 : W = 16
  · subst h16
    have e : rt 16 S = true := by cases S <;> rfl
    rw [e]
    go_enter Tryd.func15, Tryd.ntmps15
    go_wp2
    go_ret
    exact ⟨rfl, fin⟩
  have h16' : (W == 16) = false := by simpa using h16
  by_cases h32 : W = 32
  · subst h32
    have e : rt 32 S = true := by cases S <;> rfl
    rw [e]
    go_enter Tryd.func15, Tryd.ntmps15
    go_wp2
    go_ret
    exact ⟨rfl, fin⟩
  have h32' : (W == 32) = false := by simpa using h32
  have e : rt W S = (W == 64) := by simp [rt, h1, h8, h16, h32]
  rw [e]
  clear h1 h8 h16 h32 e
  go_enter Tryd.func15, Tryd.ntmps15
  go_wp2
  go_ret
  exact ⟨rfl, fin⟩

theorem cell_new1 (w : World) (c : Array Value) (t : TypeId) : (w.alloc (.cells c t)).cell? ((⟨w.heap.size, 0, none⟩ : Addr).add 0) = c[0]? := by
  show (w.alloc (.cells c t)).cell? ⟨w.heap.size, 0, none⟩ = _
  unfold World.cell?
  rw [heap_last]
  rfl
theorem Tryd.info4 : (Tryd.prog.info? 4).map (fun i => (i.zero, i.size, i.bytes)) = some (some (.bool false), 1, 1) := by kernel_rfl

/-- A slice of bools that the call itself has made. -/
def BitsPost (w : World) (bs : List Bool) (e : Ending) (w' : World) : Prop :=
  ∃ sl, e = .returned sl ∧ w'.ownsRow w.heap.size 4 1 sl bs.length (bs.map Value.bool) ∧ Below w.heap.size w w'

set_option maxHeartbeats 1000000 in
theorem bits_any (v : Int) (n : Nat) (w : World) (hn : n ≤ 64) (hv0 : 0 ≤ v) (hv1 : v < 18446744073709551616) :
    Calls Tryd.prog 34 #[.int .u64 v, .int .i64 n] w (BitsPost w (bitsR v n)) := by
  obtain ⟨i0, hi, hz0, hz1, hz2⟩ := info_parts Tryd.info4
  have own0 : (w.alloc (.cells #[] 4)).ownsRow w.heap.size 4 1 (.slice (some ⟨w.heap.size, 0, none⟩) 0 0) 0 [] := World.ownsRow_lit w #[] 0 (Nat.le_refl _) (by unfold maxLen; omega) rfl
  go_enter Tryd.func34, Tryd.ntmps34
  go_wp2
  go_loopw [0, 5, 6] (fun x u i wr => ∃ k : Nat, k ≤ n ∧ i = .int .i64 k ∧ x = .int .u64 (v / 2 ^ k) ∧ wr.ownsRow w.heap.size 4 1 u k ((bitsR v k).map Value.bool) ∧ Below w.heap.size w wr) (fun _ _ i _ => n - (intOf i).toNat)
  case atStart => exact ⟨0, Nat.zero_le _, rfl, by simp, own0, (Below.refl _ _).alloc (Nat.le_refl _) _⟩
  case round =>
    obtain ⟨k, hk, rfl, rfl, hown, hb⟩ := hrel
    clear own0
    have hp : (0 : Int) < 2 ^ k := Int.pow_pos (by decide)
    have hx0 : 0 ≤ v / 2 ^ k := Int.ediv_nonneg hv0 (Int.le_of_lt hp)
    have hx1 : v / 2 ^ k < 18446744073709551616 := Int.lt_of_le_of_lt (Int.ediv_le_self _ hv0) hv1
    have hsn := bits_snoc v k
    have hdv : v / 2 ^ k / 2 = v / 2 ^ (k + 1) := by rw [Int.ediv_ediv_of_nonneg (Int.le_of_lt hp), ← Int.pow_succ]
    generalize v / 2 ^ k = x at *
    have HSN := Lib.hid hsn
    have HDV := Lib.hid hdv
    clear hsn hdv hp
    by_cases hlt : k < n
    · go_wp2_with (at_builtin; refine wpList_append_own _ rfl _ _ 55 rfl w.heap.size 4 i0 (.bool false) 1 1 Tryd.underlying55 hi hz0 hz1 hz2 rfl (by decide) _ _ _ rfl (hown.alloc _) ⟨wr.heap.size, 0, none⟩ 1 1 [.bool (x % 2 == 1)] rfl rfl ?c1 ?c2 ?c3 ?c4 ?c5 ?_)
      case c1 => intro j u hj; match j, hj with | 0, hj => cases hj; exact cell_new1 _ _ _
      case c2 => intro u hu; simp at hu; subst hu; rfl
      case c3 => unfold maxLen; omega
      case c4 => omega
      case c5 => have := hb.size; simp; omega
      intro v' w1 hown' hgrow _
      have hb1 : Below w.heap.size w w1 := (hb.alloc hb.size _).grown hgrow (by have := hb.size; simp; omega) (fun j hj => (hown.lt j hj).1)
      have hown2 : w1.ownsRow w.heap.size 4 1 v' (k + 1) ((bitsR v (k + 1)).map Value.bool) := by rw [HSN.out, List.map_append]; exact hown'
      clear hown hown' hgrow hb
      go_wp2
      go_roundw
      case rel => exact ⟨k + 1, by omega, by go_num, by rw [HDV.out], hown2, hb1⟩
      case measure => simp [intOf]; omega
    · obtain rfl : k = n := by omega
      clear hlt
      go_wp2
      go_ret
      exact ⟨_, rfl, by rw [bits_len]; exact hown, hb⟩
end Go.Proofs.YtpfdbigdkegncaaDoor
