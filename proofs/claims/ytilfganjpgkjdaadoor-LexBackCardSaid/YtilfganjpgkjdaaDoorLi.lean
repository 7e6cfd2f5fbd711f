/- The contract of the document's Keyword. -/
import Derived.Test.YtilfganjpgkjdaaDoorLh
namespace Go.Proofs.YtilfganjpgkjdaaDoor
open Go Go.RowKit

theorem key_of {l g : List UInt8} (h : l = g) (hg : keyFrom g keysL = true) : true = keyL l := by
  subst h
  exact hg.symm
theorem key_no {l : List UInt8} (h0 : ¬ l = [98, 111, 111, 108]) (h1 : ¬ l = [117, 56]) (h2 : ¬ l = [117, 49, 54]) (h3 : ¬ l = [117, 51, 50]) (h4 : ¬ l = [117, 54, 52]) (h5 : ¬ l = [105, 56]) (h6 : ¬ l = [105, 49, 54]) (h7 : ¬ l = [105, 51, 50]) (h8 : ¬ l = [105, 54, 52]) (h9 : ¬ l = [118, 111, 105, 100]) (h10 : ¬ l = [105, 102]) (h11 : ¬ l = [101, 108, 115, 101]) (h12 : ¬ l = [119, 104, 105, 108, 101]) (h13 : ¬ l = [114, 101, 116, 117, 114, 110]) (h14 : ¬ l = [97, 115, 115, 101, 114, 116]) (h15 : ¬ l = [97, 115, 115, 117, 109, 101]) (h16 : ¬ l = [110, 111, 110, 100, 101, 116]) (h17 : ¬ l = [116, 114, 117, 101]) (h18 : ¬ l = [102, 97, 108, 115, 101]) : false = keyL l := by
  unfold keyL keysL
  rw [keyFrom, if_neg (Ne.symm h0), keyFrom, if_neg (Ne.symm h1), keyFrom, if_neg (Ne.symm h2), keyFrom, if_neg (Ne.symm h3), keyFrom, if_neg (Ne.symm h4), keyFrom, if_neg (Ne.symm h5), keyFrom, if_neg (Ne.symm h6), keyFrom, if_neg (Ne.symm h7), keyFrom, if_neg (Ne.symm h8), keyFrom, if_neg (Ne.symm h9), keyFrom, if_neg (Ne.symm h10), keyFrom, if_neg (Ne.symm h11), keyFrom, if_neg (Ne.symm h12), keyFrom, if_neg (Ne.symm h13), keyFrom, if_neg (Ne.symm h14), keyFrom, if_neg (Ne.symm h15), keyFrom, if_neg (Ne.symm h16), keyFrom, if_neg (Ne.symm h17), keyFrom, if_neg (Ne.symm h18), keyFrom]
theorem eq_of_beq' {s : ByteArray} {l : List UInt8} (h : (s.toList == l) = true) : s.data.toList = l := by
  rw [Lib.toList_data] at h
  exact beq_iff_eq.mp h
theorem ne_of_beq' {s : ByteArray} {l : List UInt8} (h : (s.toList == l) = false) : ¬ s.data.toList = l := by
  rw [Lib.toList_data] at h
  exact beq_eq_false_iff_ne.mp h
theorem both {b : Bool} {p : Prop} (h1 : b = true) (h2 : b = false) : p := by rw [h1] at h2; cases h2
set_option maxHeartbeats 1000000 in
theorem rkey_any (s : ByteArray) (w : World) :
    Calls Tryd.prog 11 #[.string s] w fun e w' => e = .returned (.bool (keyL s.data.toList)) ∧ w = w' := by
  go_enter Tryd.func11, Tryd.ntmps11
  go_wp2
  all_goals
    go_ret
    refine ⟨ret_bool ?_, rfl⟩
    first
      | (refine key_of (eq_of_beq' (l := [98, 111, 111, 108]) ?_) (by decide); assumption)
      | (refine key_of (eq_of_beq' (l := [117, 56]) ?_) (by decide); assumption)
      | (refine key_of (eq_of_beq' (l := [117, 49, 54]) ?_) (by decide); assumption)
      | (refine key_of (eq_of_beq' (l := [117, 51, 50]) ?_) (by decide); assumption)
      | (refine key_of (eq_of_beq' (l := [117, 54, 52]) ?_) (by decide); assumption)
      | (refine key_of (eq_of_beq' (l := [105, 56]) ?_) (by decide); assumption)
      | (refine key_of (eq_of_beq' (l := [105, 49, 54]) ?_) (by decide); assumption)
      | (refine key_of (eq_of_beq' (l := [105, 51, 50]) ?_) (by decide); assumption)
      | (refine key_of (eq_of_beq' (l := [105, 54, 52]) ?_) (by decide); assumption)
      | (refine key_of (eq_of_beq' (l := [118, 111, 105, 100]) ?_) (by decide); assumption)
      | (refine key_of (eq_of_beq' (l := [105, 102]) ?_) (by decide); assumption)
      | (refine key_of (eq_of_beq' (l := [101, 108, 115, 101]) ?_) (by decide); assumption)
      | (refine key_of (eq_of_beq' (l := [119, 104, 105, 108, 101]) ?_) (by decide); assumption)
      | (refine key_of (eq_of_beq' (l := [114, 101, 116, 117, 114, 110]) ?_) (by decide); assumption)
      | (refine key_of (eq_of_beq' (l := [97, 115, 115, 101, 114, 116]) ?_) (by decide); assumption)
      | (refine key_of (eq_of_beq' (l := [97, 115, 115, 117, 109, 101]) ?_) (by decide); assumption)
      | (refine key_of (eq_of_beq' (l := [110, 111, 110, 100, 101, 116]) ?_) (by decide); assumption)
      | (refine key_of (eq_of_beq' (l := [116, 114, 117, 101]) ?_) (by decide); assumption)
      | (refine key_of (eq_of_beq' (l := [102, 97, 108, 115, 101]) ?_) (by decide); assumption)
      | (refine both (b := (s.toList == [98, 111, 111, 108])) ?_ ?_ <;> assumption)
      | (refine both (b := (s.toList == [117, 56])) ?_ ?_ <;> assumption)
      | (refine both (b := (s.toList == [117, 49, 54])) ?_ ?_ <;> assumption)
      | (refine both (b := (s.toList == [117, 51, 50])) ?_ ?_ <;> assumption)
      | (refine both (b := (s.toList == [117, 54, 52])) ?_ ?_ <;> assumption)
      | (refine both (b := (s.toList == [105, 56])) ?_ ?_ <;> assumption)
      | (refine both (b := (s.toList == [105, 49, 54])) ?_ ?_ <;> assumption)
      | (refine both (b := (s.toList == [105, 51, 50])) ?_ ?_ <;> assumption)
      | (refine both (b := (s.toList == [105, 54, 52])) ?_ ?_ <;> assumption)
      | (refine both (b := (s.toList == [118, 111, 105, 100])) ?_ ?_ <;> assumption)
      | (refine both (b := (s.toList == [105, 102])) ?_ ?_ <;> assumption)
      | (refine both (b := (s.toList == [101, 108, 115, 101])) ?_ ?_ <;> assumption)
      | (refine both (b := (s.toList == [119, 104, 105, 108, 101])) ?_ ?_ <;> assumption)
      | (refine both (b := (s.toList == [114, 101, 116, 117, 114, 110])) ?_ ?_ <;> assumption)
      | (refine both (b := (s.toList == [97, 115, 115, 101, 114, 116])) ?_ ?_ <;> assumption)
      | (refine both (b := (s.toList == [97, 115, 115, 117, 109, 101])) ?_ ?_ <;> assumption)
      | (refine both (b := (s.toList == [110, 111, 110, 100, 101, 116])) ?_ ?_ <;> assumption)
      | (refine both (b := (s.toList == [116, 114, 117, 101])) ?_ ?_ <;> assumption)
      | (refine both (b := (s.toList == [102, 97, 108, 115, 101])) ?_ ?_ <;> assumption)
      | (refine key_no (ne_of_beq' ?_) (ne_of_beq' ?_) (ne_of_beq' ?_) (ne_of_beq' ?_) (ne_of_beq' ?_) (ne_of_beq' ?_) (ne_of_beq' ?_) (ne_of_beq' ?_) (ne_of_beq' ?_) (ne_of_beq' ?_) (ne_of_beq' ?_) (ne_of_beq' ?_) (ne_of_beq' ?_) (ne_of_beq' ?_) (ne_of_beq' ?_) (ne_of_beq' ?_) (ne_of_beq' ?_) (ne_of_beq' ?_) (ne_of_beq' ?_) <;> assumption)
end Go.Proofs.YtilfganjpgkjdaaDoor
