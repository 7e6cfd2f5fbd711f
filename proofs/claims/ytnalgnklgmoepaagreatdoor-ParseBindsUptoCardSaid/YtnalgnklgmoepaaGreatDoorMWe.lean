/- The document's Bind; what the 324 programs of two operators are. -/
import Derived.Test.YtnalgnklgmoepaaGreatDoorMbar
set_option linter.all false
namespace Go.Proofs.YtnalgnklgmoepaaGreatDoor
open Go Go.RowKit

def bindI (x : List UInt8) : Int := levelI x + 1
def opsL : List (List UInt8) := [[124, 124], [38, 38], [124], [94], [38], [61, 61], [33, 61], [60], [60, 61], [62], [62, 61], [60, 60], [62, 62], [43], [45], [42], [47], [37]]
theorem lev_none (x : List UInt8) (h : opsL.contains x = false) : levelI x = -1 := by
  simp only [opsL, List.contains_cons, List.contains_nil, Bool.or_false, Bool.or_eq_false_iff] at h
  obtain ⟨h0, h1, h2, h3, h4, h5, h6, h7, h8, h9, h10, h11, h12, h13, h14, h15, h16, h17⟩ := h
  simp only [levelI, levelsL, levelFrom, List.contains_cons, List.contains_nil, Bool.or_false, h0, h1, h2, h3, h4, h5, h6, h7, h8, h9, h10, h11, h12, h13, h14, h15, h16, h17, Bool.false_eq_true, if_false, reduceIte, Bool.or_self]
theorem bind_in (x : List UInt8) (h : ¬ bindI x = 0) : x ∈ opsL := by
  by_cases hc : opsL.contains x = true
  · simpa using hc
  · exact absurd (by rw [bindI, lev_none x (by simpa using hc)]; rfl) h
set_option maxHeartbeats 2000000 in
set_option maxRecDepth 100000 in
theorem rbind_any (x : List UInt8) (w : World) : Calls Tryz.prog 18 #[.string ⟨x.toArray⟩] w fun e w' => e = .returned (.int .i64 (bindI x)) ∧ w = w' := by
  cases h0 : (x == [124, 124])
  case true =>
    obtain rfl : x = [124, 124] := by simpa using h0
    rw [show bindI [124, 124] = 1 by kernel_rfl]
    clear h0
    go_enter Tryz.func18, Tryz.ntmps18
    go_wp2
    go_ret
    exact ⟨rfl, rfl⟩
  case false =>
  cases h1 : (x == [38, 38])
  case true =>
    obtain rfl : x = [38, 38] := by simpa using h1
    rw [show bindI [38, 38] = 2 by kernel_rfl]
    clear h0 h1
    go_enter Tryz.func18, Tryz.ntmps18
    go_wp2
    go_ret
    exact ⟨rfl, rfl⟩
  case false =>
  cases h2 : (x == [124])
  case true =>
    obtain rfl : x = [124] := by simpa using h2
    rw [show bindI [124] = 3 by kernel_rfl]
    clear h0 h1 h2
    go_enter Tryz.func18, Tryz.ntmps18
    go_wp2
    go_ret
    exact ⟨rfl, rfl⟩
  case false =>
  cases h3 : (x == [94])
  case true =>
    obtain rfl : x = [94] := by simpa using h3
    rw [show bindI [94] = 4 by kernel_rfl]
    clear h0 h1 h2 h3
    go_enter Tryz.func18, Tryz.ntmps18
    go_wp2
    go_ret
    exact ⟨rfl, rfl⟩
  case false =>
  cases h4 : (x == [38])
  case true =>
    obtain rfl : x = [38] := by simpa using h4
    rw [show bindI [38] = 5 by kernel_rfl]
    clear h0 h1 h2 h3 h4
    go_enter Tryz.func18, Tryz.ntmps18
    go_wp2
    go_ret
    exact ⟨rfl, rfl⟩
  case false =>
  cases h5 : (x == [61, 61])
  case true =>
    obtain rfl : x = [61, 61] := by simpa using h5
    rw [show bindI [61, 61] = 6 by kernel_rfl]
    clear h0 h1 h2 h3 h4 h5
    go_enter Tryz.func18, Tryz.ntmps18
    go_wp2
    go_ret
    exact ⟨rfl, rfl⟩
  case false =>
  cases h6 : (x == [33, 61])
  case true =>
    obtain rfl : x = [33, 61] := by simpa using h6
    rw [show bindI [33, 61] = 6 by kernel_rfl]
    clear h0 h1 h2 h3 h4 h5 h6
    go_enter Tryz.func18, Tryz.ntmps18
    go_wp2
    go_ret
    exact ⟨rfl, rfl⟩
  case false =>
  cases h7 : (x == [60])
  case true =>
    obtain rfl : x = [60] := by simpa using h7
    rw [show bindI [60] = 7 by kernel_rfl]
    clear h0 h1 h2 h3 h4 h5 h6 h7
    go_enter Tryz.func18, Tryz.ntmps18
    go_wp2
    go_ret
    exact ⟨rfl, rfl⟩
  case false =>
  cases h8 : (x == [60, 61])
  case true =>
    obtain rfl : x = [60, 61] := by simpa using h8
    rw [show bindI [60, 61] = 7 by kernel_rfl]
    clear h0 h1 h2 h3 h4 h5 h6 h7 h8
    go_enter Tryz.func18, Tryz.ntmps18
    go_wp2
    go_ret
    exact ⟨rfl, rfl⟩
  case false =>
  cases h9 : (x == [62])
  case true =>
    obtain rfl : x = [62] := by simpa using h9
    rw [show bindI [62] = 7 by kernel_rfl]
    clear h0 h1 h2 h3 h4 h5 h6 h7 h8 h9
    go_enter Tryz.func18, Tryz.ntmps18
    go_wp2
    go_ret
    exact ⟨rfl, rfl⟩
  case false =>
  cases h10 : (x == [62, 61])
  case true =>
    obtain rfl : x = [62, 61] := by simpa using h10
    rw [show bindI [62, 61] = 7 by kernel_rfl]
    clear h0 h1 h2 h3 h4 h5 h6 h7 h8 h9 h10
    go_enter Tryz.func18, Tryz.ntmps18
    go_wp2
    go_ret
    exact ⟨rfl, rfl⟩
  case false =>
  cases h11 : (x == [60, 60])
  case true =>
    obtain rfl : x = [60, 60] := by simpa using h11
    rw [show bindI [60, 60] = 8 by kernel_rfl]
    clear h0 h1 h2 h3 h4 h5 h6 h7 h8 h9 h10 h11
    go_enter Tryz.func18, Tryz.ntmps18
    go_wp2
    go_ret
    exact ⟨rfl, rfl⟩
  case false =>
  cases h12 : (x == [62, 62])
  case true =>
    obtain rfl : x = [62, 62] := by simpa using h12
    rw [show bindI [62, 62] = 8 by kernel_rfl]
    clear h0 h1 h2 h3 h4 h5 h6 h7 h8 h9 h10 h11 h12
    go_enter Tryz.func18, Tryz.ntmps18
    go_wp2
    go_ret
    exact ⟨rfl, rfl⟩
  case false =>
  cases h13 : (x == [43])
  case true =>
    obtain rfl : x = [43] := by simpa using h13
    rw [show bindI [43] = 9 by kernel_rfl]
    clear h0 h1 h2 h3 h4 h5 h6 h7 h8 h9 h10 h11 h12 h13
    go_enter Tryz.func18, Tryz.ntmps18
    go_wp2
    go_ret
    exact ⟨rfl, rfl⟩
  case false =>
  cases h14 : (x == [45])
  case true =>
    obtain rfl : x = [45] := by simpa using h14
    rw [show bindI [45] = 9 by kernel_rfl]
    clear h0 h1 h2 h3 h4 h5 h6 h7 h8 h9 h10 h11 h12 h13 h14
    go_enter Tryz.func18, Tryz.ntmps18
    go_wp2
    go_ret
    exact ⟨rfl, rfl⟩
  case false =>
  cases h15 : (x == [42])
  case true =>
    obtain rfl : x = [42] := by simpa using h15
    rw [show bindI [42] = 10 by kernel_rfl]
    clear h0 h1 h2 h3 h4 h5 h6 h7 h8 h9 h10 h11 h12 h13 h14 h15
    go_enter Tryz.func18, Tryz.ntmps18
    go_wp2
    go_ret
    exact ⟨rfl, rfl⟩
  case false =>
  cases h16 : (x == [47])
  case true =>
    obtain rfl : x = [47] := by simpa using h16
    rw [show bindI [47] = 10 by kernel_rfl]
    clear h0 h1 h2 h3 h4 h5 h6 h7 h8 h9 h10 h11 h12 h13 h14 h15 h16
    go_enter Tryz.func18, Tryz.ntmps18
    go_wp2
    go_ret
    exact ⟨rfl, rfl⟩
  case false =>
  cases h17 : (x == [37])
  case true =>
    obtain rfl : x = [37] := by simpa using h17
    rw [show bindI [37] = 10 by kernel_rfl]
    clear h0 h1 h2 h3 h4 h5 h6 h7 h8 h9 h10 h11 h12 h13 h14 h15 h16 h17
    go_enter Tryz.func18, Tryz.ntmps18
    go_wp2
    go_ret
    exact ⟨rfl, rfl⟩
  case false =>
  have hn : bindI x = 0 := by
    rw [bindI, lev_none x (by simp only [opsL, List.contains_cons, List.contains_nil, h0, h1, h2, h3, h4, h5, h6, h7, h8, h9, h10, h11, h12, h13, h14, h15, h16, h17, Bool.or_self])]
    rfl
  rw [hn]
  clear hn
  go_enter Tryz.func18, Tryz.ntmps18
  go_wp2
  go_ret
  exact ⟨rfl, rfl⟩
def srcB (a b : List UInt8) : List UInt8 := [118, 111, 105, 100, 32, 102, 40, 41, 32, 123, 32, 120, 32, 61, 32, 112, 32] ++ a ++ [32, 113, 32] ++ b ++ [32, 114, 59, 32, 125]
def topB (a b : List UInt8) (x : List UInt8) (l r : Tree) : Bool :=
  if levelI b ≤ levelI a then x == b && (l.text == a && (l.kids.length == 2 && r.text == [114])) else x == a && (r.text == b && (r.kids.length == 2 && l.text == [112]))
def bindOk (a b : List UInt8) : Bool :=
  match readP 200000 (srcB a b) with
  | .ok (.mk _ _ _ _ _ [.mk _ _ _ _ _ [_, .mk _ _ _ _ _ [.mk _ _ _ _ _ [_, .mk _ x _ _ _ [l, r]]]]]) _ => topB a b x l r
  | _ => false
set_option maxRecDepth 100000 in
theorem binds_all : (opsL.all fun a => opsL.all fun b => bindOk a b) = true := by kernel_rfl
end Go.Proofs.YtnalgnklgmoepaaGreatDoor
