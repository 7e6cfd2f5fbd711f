/- The contract of expression. The contract of guarded. The contract of choice. The contract of commas. The contract of call. -/
import Derived.Deep.LoopGhost
import Derived.Test.YtnalgnklgmoepaaGreatDoorMban
set_option linter.all false
namespace Go.Proofs.YtnalgnklgmoepaaGreatDoor
open Go Go.RowKit

set_option maxHeartbeats 8000000 in
set_option maxRecDepth 100000 in
theorem expression_w (rec : WT → Tree → Ws) (hex : WDoes 113 (fun p n => #[p, n]) (rec .expr)) : WDoes 113 (fun p n => #[p, n]) (exprW rec) := by
  intro lo B acc t v w ws hW hL hF he hlen
  obtain ⟨k, x, m, ln, co, ks⟩ := t
  obtain ⟨hFk, hFx, hFm0, hFm1, hFn, hFL⟩ := id hF
  simp only [exprW, kProgram, kGlobal, kFunc, kParam, kType, kNum, kBlock, kLocal, kIf, kElse, kWhile, kReturn, kAssert, kAssume, kAssign, kNondet, kResult, kCall, kName, kIndex, kBinary, kUnary, kCast, kTrue, kFalse, kVoid, Tree.kind, Tree.text, Tree.num, Tree.line, Tree.col, Tree.kids] at he
  cases hq0 : (k == [98, 105, 110, 97, 114, 121])
  case true =>
    simp only [hq0, Bool.true_or, Bool.or_true, Bool.true_and, if_true, reduceIte] at he
    obtain rfl : k = [98, 105, 110, 97, 114, 121] := by simpa using hq0
    clear hq0
    rcases ks with _ | ⟨a0, _ | ⟨a1, _ | ⟨b, r⟩⟩⟩
    · simp at he
    · simp at he
    rotate_left
    · simp at he
    simp only at he
    obtain ⟨hb, he1⟩ := ifW_some he
    clear he
    simp only [Bool.and_eq_true, decide_eq_true_eq] at hb
    obtain ⟨hlv, hm0⟩ := hb
    have hlv2 : (0 : Int) ≤ levelI x := of_decide_eq_true hlv
    have hlv3 : ¬ levelI x < 0 := by omega
    obtain ⟨ws1, wr1, hc1, hd1, hx1⟩ := catW_some he1
    subst hx1
    clear he1
    obtain ⟨ws2, wr2, hc2, hd2, hx2⟩ := catW_some hd1
    subst hx2
    clear hd1
    injection hc2 with hc2
    subst hc2
    obtain ⟨g0, vc, hv, hR⟩ := hL.row (by simp [Tree.kids])
    have HR := Lib.hid hR
    clear hR
    simp only [Tree.kind, Tree.text, Tree.num, Tree.line, Tree.col, Tree.kids, List.length] at hv
    subst hv
    have S0 := Lib.hid (Sw.start hW hL)
    have HF := Lib.hid hF
    have HFL := Lib.hid hFL
    have HLEN := Lib.hid hlen
    have hBw := hW.lt
    have HFX := Lib.hid hFx
    have HFN := Lib.hid hFn
    clear hW hF hL hFL hlen hFk hFx hFn
    try simp only [nodeV, nodeC, Tree.kind, Tree.text, Tree.num, Tree.line, Tree.col, Tree.kids] at *

    go_enter Tryz.func113, Tryz.ntmps113
    obtain ⟨c0, c1, c2, c3, c4, c5⟩ := S0.out.cells
    have hszN := S0.out.lt
    go_wp2_with fail
    try clear c0 c1 c2 c3 c4 c5
    try clear hszN
    refine (level_any x _).mono ?_
    rintro e w3 ⟨rfl, hb3⟩
    have S3 := Lib.hid (S0.out.below hb3)
    clear S0 hb3
    obtain ⟨c0, c1, c2, c3, c4, c5⟩ := S3.out.cells
    have hszN := S3.out.lt
    go_wp2_with fail
    try clear c0 c1 c2 c3 c4 c5
    try clear hszN
    have HQ := texted_yes (t := (.mk [98, 105, 110, 97, 114, 121] x m ln co [a0, a1])) (v := .slice (some ⟨g0, 0, none⟩) 2 vc) (lo := 2) (hi := 2) _ S3.out.wr.tab rfl (by simpa [Tree.num] using hm0) (by first | simp | omega | (have := HFN.out; (try simp only [List.length] at this ⊢); omega)) (by first | simp | omega | (have := HFN.out; (try simp only [List.length] at this ⊢); omega))
    simp only [nodeV, Tree.kind, Tree.text, Tree.num, Tree.line, Tree.col, Tree.kids] at HQ
    refine HQ.mono ?_
    clear HQ
    rintro e w4 ⟨rfl, hb4⟩
    have S4 := Lib.hid (S3.out.below hb4)
    clear S3 hb4
    obtain ⟨c0, c1, c2, c3, c4, c5⟩ := S4.out.cells
    have hszN := S4.out.lt
    go_wp2_with fail
    refine (need_yes _).mono ?_
    rintro e w' ⟨rfl, rfl⟩
    try clear c0 c1 c2 c3 c4 c5 hszN
    obtain ⟨qa, na, ca, hla, hca⟩ := (HR.out.keep S4.out.kp.below).2 0 (by simp)
    simp only [Nat.zero_add, Nat.zero_mul, Nat.one_mul, Nat.reduceAdd, Nat.reduceMul, List.getElem_cons_zero, List.getElem_cons_succ] at hla hca
    have k0 := hca.c0; have k1 := hca.c1; have k2 := hca.c2; have k3 := hca.c3; have k4 := hca.c4; have k5 := hca.c5
    simp only [Nat.zero_add, Nat.zero_mul, Nat.one_mul, Nat.reduceAdd, Nat.reduceMul, List.getElem_cons_zero, List.getElem_cons_succ] at k0 k1 k2 k3 k4 k5
    have HC := Lib.hid ((operand_w rec hex) lo B acc a0 (.slice qa na ca) _ ws1 S4.out.wr hla (HFL.out.mem _ (by simp)) hc1 (by have := HLEN.out; (try simp only [List.length_append, List.length_cons, List.length_nil] at this ⊢); omega))
    clear hca hla
    try simp only [nodeV] at HC
    obtain ⟨c0, c1, c2, c3, c4, c5⟩ := S4.out.cells
    have hszN := S4.out.lt
    go_wp2_with fail
    try clear c0 c1 c2 c3 c4 c5
    try clear hszN
    try clear k0 k1 k2 k3 k4 k5
    refine (HC.out).mono ?_
    rintro e w5 ⟨rfl, hW5, hK5⟩
    have S5 := Lib.hid (S4.out.call hW5 hK5)
    clear S4 hW5 hK5 HC
    obtain ⟨c0, c1, c2, c3, c4, c5⟩ := S5.out.cells
    have hszN := S5.out.lt
    go_wp2_with fail
    try clear c0 c1 c2 c3 c4 c5
    try clear hszN
    have H := put_lit (S := w5.heap.size) [x] S5.out.wr (by simp) (by simp) (by have := HLEN.out; (try simp only [List.length_append, List.length_cons, List.length_nil] at this ⊢); omega)
    simp only [strVs, List.map, List.length] at H
    refine H.mono ?_
    clear H
    rintro e w6 ⟨rfl, hW6, hK6⟩
    have S6 := Lib.hid (S5.out.call hW6 hK6)
    clear S5 hW6 hK6 
    obtain ⟨qa, na, ca, hla, hca⟩ := (HR.out.keep S6.out.kp.below).2 1 (by simp)
    simp only [Nat.zero_add, Nat.zero_mul, Nat.one_mul, Nat.reduceAdd, Nat.reduceMul, List.getElem_cons_zero, List.getElem_cons_succ] at hla hca
    have k0 := hca.c0; have k1 := hca.c1; have k2 := hca.c2; have k3 := hca.c3; have k4 := hca.c4; have k5 := hca.c5
    simp only [Nat.zero_add, Nat.zero_mul, Nat.one_mul, Nat.reduceAdd, Nat.reduceMul, List.getElem_cons_zero, List.getElem_cons_succ] at k0 k1 k2 k3 k4 k5
    have HC := Lib.hid ((operand_w rec hex) lo B ((acc ++ ws1) ++ [x]) a1 (.slice qa na ca) _ wr2 S6.out.wr hla (HFL.out.mem _ (by simp)) hd2 (by have := HLEN.out; (try simp only [List.length_append, List.length_cons, List.length_nil] at this ⊢); omega))
    clear hca hla
    try simp only [nodeV] at HC
    obtain ⟨c0, c1, c2, c3, c4, c5⟩ := S6.out.cells
    have hszN := S6.out.lt
    go_wp2_with fail
    try clear c0 c1 c2 c3 c4 c5
    try clear hszN
    try clear k0 k1 k2 k3 k4 k5
    refine (HC.out).mono ?_
    rintro e w7 ⟨rfl, hW7, hK7⟩
    have S7 := Lib.hid (S6.out.call hW7 hK7)
    clear S6 hW7 hK7 HC
    go_wp2
    first | go_end0 | refine bodyPost_ret (v := .tuple #[]) (by simp [results, Tryz.results113, go_sem]) rfl ?_
    exact ⟨rfl, by simpa [List.append_assoc, kProgram, kGlobal, kFunc, kParam, kType, kNum, kBlock, kLocal, kIf, kElse, kWhile, kReturn, kAssert, kAssume, kAssign, kNondet, kResult, kCall, kName, kIndex, kBinary, kUnary, kCast, kTrue, kFalse, kVoid] using S7.out.wr, S7.out.kp⟩
  case false =>
  simp only [hq0, Bool.false_or, Bool.or_false, Bool.false_eq_true, if_false, reduceIte] at he
  cases hq1 : (k == [117, 110, 97, 114, 121])
  case true =>
    simp only [hq1, Bool.true_or, Bool.or_true, Bool.true_and, if_true, reduceIte] at he
    obtain rfl : k = [117, 110, 97, 114, 121] := by simpa using hq1
    clear hq1
    rcases ks with _ | ⟨a0, _ | ⟨b, r⟩⟩
    · simp at he
    rotate_left
    · simp at he
    simp only at he
    obtain ⟨hb, he1⟩ := ifW_some he
    clear he
    simp only [Bool.and_eq_true, decide_eq_true_eq] at hb
    obtain ⟨hu, hm0⟩ := hb
    obtain ⟨ws1, wr1, hc1, hd1, hx1⟩ := catW_some he1
    subst hx1
    clear he1
    injection hc1 with hc1
    subst hc1
    obtain ⟨g0, vc, hv, hR⟩ := hL.row (by simp [Tree.kids])
    have HR := Lib.hid hR
    clear hR
    simp only [Tree.kind, Tree.text, Tree.num, Tree.line, Tree.col, Tree.kids, List.length] at hv
    subst hv
    have S0 := Lib.hid (Sw.start hW hL)
    have HF := Lib.hid hF
    have HFL := Lib.hid hFL
    have HLEN := Lib.hid hlen
    have hBw := hW.lt
    have HFX := Lib.hid hFx
    have HFN := Lib.hid hFn
    clear hW hF hL hFL hlen hFk hFx hFn
    try simp only [nodeV, nodeC, Tree.kind, Tree.text, Tree.num, Tree.line, Tree.col, Tree.kids] at *

    go_enter Tryz.func113, Tryz.ntmps113
    have HTY := Lib.hid (unary_any x)
    rw [hu] at HTY
    obtain ⟨c0, c1, c2, c3, c4, c5⟩ := S0.out.cells
    have hszN := S0.out.lt
    go_wp2_with fail
    try clear c0 c1 c2 c3 c4 c5
    try clear hszN
    refine (HTY.out _).mono ?_
    rintro e w' ⟨rfl, rfl⟩
    obtain ⟨c0, c1, c2, c3, c4, c5⟩ := S0.out.cells
    have hszN := S0.out.lt
    go_wp2_with fail
    try clear c0 c1 c2 c3 c4 c5
    try clear hszN
    have HQ := texted_yes (t := (.mk [117, 110, 97, 114, 121] x m ln co [a0])) (v := .slice (some ⟨g0, 0, none⟩) 1 vc) (lo := 1) (hi := 1) _ S0.out.wr.tab rfl (by simpa [Tree.num] using hm0) (by first | simp | omega | (have := HFN.out; (try simp only [List.length] at this ⊢); omega)) (by first | simp | omega | (have := HFN.out; (try simp only [List.length] at this ⊢); omega))
    simp only [nodeV, Tree.kind, Tree.text, Tree.num, Tree.line, Tree.col, Tree.kids] at HQ
    refine HQ.mono ?_
    clear HQ
    rintro e w2 ⟨rfl, hb2⟩
    have S2 := Lib.hid (S0.out.below hb2)
    clear S0 hb2
    obtain ⟨c0, c1, c2, c3, c4, c5⟩ := S2.out.cells
    have hszN := S2.out.lt
    go_wp2_with fail
    refine (need_yes _).mono ?_
    rintro e w' ⟨rfl, rfl⟩
    try clear c0 c1 c2 c3 c4 c5 hszN
    obtain ⟨c0, c1, c2, c3, c4, c5⟩ := S2.out.cells
    have hszN := S2.out.lt
    go_wp2_with fail
    try clear c0 c1 c2 c3 c4 c5
    try clear hszN
    have H := put_lit (S := w2.heap.size) [x] S2.out.wr (by simp) (by simp) (by have := HLEN.out; (try simp only [List.length_append, List.length_cons, List.length_nil] at this ⊢); omega)
    simp only [strVs, List.map, List.length] at H
    refine H.mono ?_
    clear H
    rintro e w3 ⟨rfl, hW3, hK3⟩
    have S3 := Lib.hid (S2.out.call hW3 hK3)
    clear S2 hW3 hK3 
    obtain ⟨qa, na, ca, hla, hca⟩ := (HR.out.keep S3.out.kp.below).2 0 (by simp)
    simp only [Nat.zero_add, Nat.zero_mul, Nat.one_mul, Nat.reduceAdd, Nat.reduceMul, List.getElem_cons_zero, List.getElem_cons_succ] at hla hca
    have k0 := hca.c0; have k1 := hca.c1; have k2 := hca.c2; have k3 := hca.c3; have k4 := hca.c4; have k5 := hca.c5
    simp only [Nat.zero_add, Nat.zero_mul, Nat.one_mul, Nat.reduceAdd, Nat.reduceMul, List.getElem_cons_zero, List.getElem_cons_succ] at k0 k1 k2 k3 k4 k5
    have HC := Lib.hid ((operand_w rec hex) lo B (acc ++ [x]) a0 (.slice qa na ca) _ wr1 S3.out.wr hla (HFL.out.mem _ (by simp)) hd1 (by have := HLEN.out; (try simp only [List.length_append, List.length_cons, List.length_nil] at this ⊢); omega))
    clear hca hla
    try simp only [nodeV] at HC
    obtain ⟨c0, c1, c2, c3, c4, c5⟩ := S3.out.cells
    have hszN := S3.out.lt
    go_wp2_with fail
    try clear c0 c1 c2 c3 c4 c5
    try clear hszN
    try clear k0 k1 k2 k3 k4 k5
    refine (HC.out).mono ?_
    rintro e w4 ⟨rfl, hW4, hK4⟩
    have S4 := Lib.hid (S3.out.call hW4 hK4)
    clear S3 hW4 hK4 HC
    go_wp2
    first | go_end0 | refine bodyPost_ret (v := .tuple #[]) (by simp [results, Tryz.results113, go_sem]) rfl ?_
    exact ⟨rfl, by simpa [List.append_assoc, kProgram, kGlobal, kFunc, kParam, kType, kNum, kBlock, kLocal, kIf, kElse, kWhile, kReturn, kAssert, kAssume, kAssign, kNondet, kResult, kCall, kName, kIndex, kBinary, kUnary, kCast, kTrue, kFalse, kVoid] using S4.out.wr, S4.out.kp⟩
  case false =>
  simp only [hq1, Bool.false_or, Bool.or_false, Bool.false_eq_true, if_false, reduceIte] at he
  cases hq2 : (k == [99, 97, 115, 116])
  case true =>
    simp only [hq2, Bool.true_or, Bool.or_true, Bool.true_and, if_true, reduceIte] at he
    obtain rfl : k = [99, 97, 115, 116] := by simpa using hq2
    clear hq2
    rcases ks with _ | ⟨a0, _ | ⟨b, r⟩⟩
    · simp at he
    rotate_left
    · simp at he
    simp only at he
    obtain ⟨hb, he1⟩ := ifW_some he
    clear he
    simp only [Bool.and_eq_true, decide_eq_true_eq] at hb
    obtain ⟨hu, hm0⟩ := hb
    obtain ⟨ws1, wr1, hc1, hd1, hx1⟩ := catW_some he1
    subst hx1
    clear he1
    injection hc1 with hc1
    subst hc1
    obtain ⟨g0, vc, hv, hR⟩ := hL.row (by simp [Tree.kids])
    have HR := Lib.hid hR
    clear hR
    simp only [Tree.kind, Tree.text, Tree.num, Tree.line, Tree.col, Tree.kids, List.length] at hv
    subst hv
    have S0 := Lib.hid (Sw.start hW hL)
    have HF := Lib.hid hF
    have HFL := Lib.hid hFL
    have HLEN := Lib.hid hlen
    have hBw := hW.lt
    have HFX := Lib.hid hFx
    have HFN := Lib.hid hFn
    clear hW hF hL hFL hlen hFk hFx hFn
    try simp only [nodeV, nodeC, Tree.kind, Tree.text, Tree.num, Tree.line, Tree.col, Tree.kids] at *

    go_enter Tryz.func113, Tryz.ntmps113
    have HTY := Lib.hid (type_any ⟨x.toArray⟩ _ S0.out.wr.tab.types)
    have hdt : (⟨x.toArray⟩ : ByteArray).data.toList = x := by simp
    rw [hdt, hu] at HTY
    clear hdt
    obtain ⟨c0, c1, c2, c3, c4, c5⟩ := S0.out.cells
    have hszN := S0.out.lt
    go_wp2_with fail
    try clear c0 c1 c2 c3 c4 c5
    try clear hszN
    refine (HTY.out).mono ?_
    rintro e w' ⟨rfl, rfl⟩
    obtain ⟨c0, c1, c2, c3, c4, c5⟩ := S0.out.cells
    have hszN := S0.out.lt
    go_wp2_with fail
    try clear c0 c1 c2 c3 c4 c5
    try clear hszN
    have HQ := texted_yes (t := (.mk [99, 97, 115, 116] x m ln co [a0])) (v := .slice (some ⟨g0, 0, none⟩) 1 vc) (lo := 1) (hi := 1) _ S0.out.wr.tab rfl (by simpa [Tree.num] using hm0) (by first | simp | omega | (have := HFN.out; (try simp only [List.length] at this ⊢); omega)) (by first | simp | omega | (have := HFN.out; (try simp only [List.length] at this ⊢); omega))
    simp only [nodeV, Tree.kind, Tree.text, Tree.num, Tree.line, Tree.col, Tree.kids] at HQ
    refine HQ.mono ?_
    clear HQ
    rintro e w2 ⟨rfl, hb2⟩
    have S2 := Lib.hid (S0.out.below hb2)
    clear S0 hb2
    obtain ⟨c0, c1, c2, c3, c4, c5⟩ := S2.out.cells
    have hszN := S2.out.lt
    go_wp2_with fail
    refine (need_yes _).mono ?_
    rintro e w' ⟨rfl, rfl⟩
    try clear c0 c1 c2 c3 c4 c5 hszN
    obtain ⟨c0, c1, c2, c3, c4, c5⟩ := S2.out.cells
    have hszN := S2.out.lt
    go_wp2_with fail
    try clear c0 c1 c2 c3 c4 c5
    try clear hszN
    have H := put_lit (S := w2.heap.size) [[40], x, [41]] S2.out.wr (by simp) (by simp) (by have := HLEN.out; (try simp only [List.length_append, List.length_cons, List.length_nil] at this ⊢); omega)
    simp only [strVs, List.map, List.length] at H
    refine H.mono ?_
    clear H
    rintro e w3 ⟨rfl, hW3, hK3⟩
    have S3 := Lib.hid (S2.out.call hW3 hK3)
    clear S2 hW3 hK3 
    obtain ⟨qa, na, ca, hla, hca⟩ := (HR.out.keep S3.out.kp.below).2 0 (by simp)
    simp only [Nat.zero_add, Nat.zero_mul, Nat.one_mul, Nat.reduceAdd, Nat.reduceMul, List.getElem_cons_zero, List.getElem_cons_succ] at hla hca
    have k0 := hca.c0; have k1 := hca.c1; have k2 := hca.c2; have k3 := hca.c3; have k4 := hca.c4; have k5 := hca.c5
    simp only [Nat.zero_add, Nat.zero_mul, Nat.one_mul, Nat.reduceAdd, Nat.reduceMul, List.getElem_cons_zero, List.getElem_cons_succ] at k0 k1 k2 k3 k4 k5
    have HC := Lib.hid ((operand_w rec hex) lo B (acc ++ [[40], x, [41]]) a0 (.slice qa na ca) _ wr1 S3.out.wr hla (HFL.out.mem _ (by simp)) hd1 (by have := HLEN.out; (try simp only [List.length_append, List.length_cons, List.length_nil] at this ⊢); omega))
    clear hca hla
    try simp only [nodeV] at HC
    obtain ⟨c0, c1, c2, c3, c4, c5⟩ := S3.out.cells
    have hszN := S3.out.lt
    go_wp2_with fail
    try clear c0 c1 c2 c3 c4 c5
    try clear hszN
    try clear k0 k1 k2 k3 k4 k5
    refine (HC.out).mono ?_
    rintro e w4 ⟨rfl, hW4, hK4⟩
    have S4 := Lib.hid (S3.out.call hW4 hK4)
    clear S3 hW4 hK4 HC
    go_wp2
    first | go_end0 | refine bodyPost_ret (v := .tuple #[]) (by simp [results, Tryz.results113, go_sem]) rfl ?_
    exact ⟨rfl, by simpa [List.append_assoc, kProgram, kGlobal, kFunc, kParam, kType, kNum, kBlock, kLocal, kIf, kElse, kWhile, kReturn, kAssert, kAssume, kAssign, kNondet, kResult, kCall, kName, kIndex, kBinary, kUnary, kCast, kTrue, kFalse, kVoid] using S4.out.wr, S4.out.kp⟩
  case false =>
  simp only [hq2, Bool.false_or, Bool.or_false, Bool.false_eq_true, if_false, reduceIte] at he
  cases hq3 : (k == [116, 114, 117, 101])
  case true =>
    simp only [hq3, Bool.true_or, Bool.or_true, Bool.true_and, if_true, reduceIte] at he
    obtain rfl : k = [116, 114, 117, 101] := by simpa using hq3
    clear hq3
    obtain ⟨hb, he1⟩ := ifW_some he
    clear he
    simp only [Bool.and_eq_true, decide_eq_true_eq] at hb
    obtain ⟨hbare, hl⟩ := hb
    obtain rfl : ks = [] := by simpa using hl
    injection he1 with he1
    subst he1
    clear hl
    obtain ⟨q0, vc, hv, hvc, hvm⟩ := hL.shape
    simp only [Tree.kind, Tree.text, Tree.num, Tree.line, Tree.col, Tree.kids, List.length] at hv
    subst hv
    have S0 := Lib.hid (Sw.start hW hL)
    have HF := Lib.hid hF
    have HFL := Lib.hid hFL
    have HLEN := Lib.hid hlen
    have hBw := hW.lt
    have HFX := Lib.hid hFx
    have HFN := Lib.hid hFn
    clear hW hF hL hFL hlen hFk hFx hFn
    try simp only [nodeV, nodeC, Tree.kind, Tree.text, Tree.num, Tree.line, Tree.col, Tree.kids] at *

    go_enter Tryz.func113, Tryz.ntmps113
    obtain ⟨c0, c1, c2, c3, c4, c5⟩ := S0.out.cells
    have hszN := S0.out.lt
    go_wp2_with fail
    try clear c0 c1 c2 c3 c4 c5
    try clear hszN
    have HQ := bare_yes (t := (.mk [116, 114, 117, 101] x m ln co [])) (v := .slice q0 0 vc) (lo := 0) (hi := 0) _ S0.out.wr.tab rfl hbare (by first | simp | omega | (have := HFN.out; (try simp only [List.length] at this ⊢); omega)) (by first | simp | omega | (have := HFN.out; (try simp only [List.length] at this ⊢); omega))
    simp only [nodeV, Tree.kind, Tree.text, Tree.num, Tree.line, Tree.col, Tree.kids] at HQ
    refine HQ.mono ?_
    clear HQ
    rintro e w1 ⟨rfl, hb1⟩
    have S1 := Lib.hid (S0.out.below hb1)
    clear S0 hb1
    obtain ⟨c0, c1, c2, c3, c4, c5⟩ := S1.out.cells
    have hszN := S1.out.lt
    go_wp2_with fail
    refine (need_yes _).mono ?_
    rintro e w' ⟨rfl, rfl⟩
    try clear c0 c1 c2 c3 c4 c5 hszN
    obtain ⟨c0, c1, c2, c3, c4, c5⟩ := S1.out.cells
    have hszN := S1.out.lt
    go_wp2_with fail
    try clear c0 c1 c2 c3 c4 c5
    try clear hszN
    have H := put_lit (S := w1.heap.size) [[116, 114, 117, 101]] S1.out.wr (by simp) (by simp) (by have := HLEN.out; (try simp only [List.length_append, List.length_cons, List.length_nil] at this ⊢); omega)
    simp only [strVs, List.map, List.length] at H
    refine H.mono ?_
    clear H
    rintro e w2 ⟨rfl, hW2, hK2⟩
    have S2 := Lib.hid (S1.out.call hW2 hK2)
    clear S1 hW2 hK2 
    go_wp2
    first | go_end0 | refine bodyPost_ret (v := .tuple #[]) (by simp [results, Tryz.results113, go_sem]) rfl ?_
    exact ⟨rfl, by simpa [List.append_assoc, kProgram, kGlobal, kFunc, kParam, kType, kNum, kBlock, kLocal, kIf, kElse, kWhile, kReturn, kAssert, kAssume, kAssign, kNondet, kResult, kCall, kName, kIndex, kBinary, kUnary, kCast, kTrue, kFalse, kVoid] using S2.out.wr, S2.out.kp⟩
  case false =>
  simp only [hq3, Bool.false_or, Bool.or_false, Bool.false_eq_true, if_false, reduceIte] at he
  cases hq4 : (k == [102, 97, 108, 115, 101])
  case true =>
    simp only [hq4, Bool.true_or, Bool.or_true, Bool.true_and, if_true, reduceIte] at he
    obtain rfl : k = [102, 97, 108, 115, 101] := by simpa using hq4
    clear hq4
    obtain ⟨hb, he1⟩ := ifW_some he
    clear he
    simp only [Bool.and_eq_true, decide_eq_true_eq] at hb
    obtain ⟨hbare, hl⟩ := hb
    obtain rfl : ks = [] := by simpa using hl
    injection he1 with he1
    subst he1
    clear hl
    obtain ⟨q0, vc, hv, hvc, hvm⟩ := hL.shape
    simp only [Tree.kind, Tree.text, Tree.num, Tree.line, Tree.col, Tree.kids, List.length] at hv
    subst hv
    have S0 := Lib.hid (Sw.start hW hL)
    have HF := Lib.hid hF
    have HFL := Lib.hid hFL
    have HLEN := Lib.hid hlen
    have hBw := hW.lt
    have HFX := Lib.hid hFx
    have HFN := Lib.hid hFn
    clear hW hF hL hFL hlen hFk hFx hFn
    try simp only [nodeV, nodeC, Tree.kind, Tree.text, Tree.num, Tree.line, Tree.col, Tree.kids] at *

    go_enter Tryz.func113, Tryz.ntmps113
    obtain ⟨c0, c1, c2, c3, c4, c5⟩ := S0.out.cells
    have hszN := S0.out.lt
    go_wp2_with fail
    try clear c0 c1 c2 c3 c4 c5
    try clear hszN
    have HQ := bare_yes (t := (.mk [102, 97, 108, 115, 101] x m ln co [])) (v := .slice q0 0 vc) (lo := 0) (hi := 0) _ S0.out.wr.tab rfl hbare (by first | simp | omega | (have := HFN.out; (try simp only [List.length] at this ⊢); omega)) (by first | simp | omega | (have := HFN.out; (try simp only [List.length] at this ⊢); omega))
    simp only [nodeV, Tree.kind, Tree.text, Tree.num, Tree.line, Tree.col, Tree.kids] at HQ
    refine HQ.mono ?_
    clear HQ
    rintro e w1 ⟨rfl, hb1⟩
    have S1 := Lib.hid (S0.out.below hb1)
    clear S0 hb1
    obtain ⟨c0, c1, c2, c3, c4, c5⟩ := S1.out.cells
    have hszN := S1.out.lt
    go_wp2_with fail
    refine (need_yes _).mono ?_
    rintro e w' ⟨rfl, rfl⟩
    try clear c0 c1 c2 c3 c4 c5 hszN
    obtain ⟨c0, c1, c2, c3, c4, c5⟩ := S1.out.cells
    have hszN := S1.out.lt
    go_wp2_with fail
    try clear c0 c1 c2 c3 c4 c5
    try clear hszN
    have H := put_lit (S := w1.heap.size) [[102, 97, 108, 115, 101]] S1.out.wr (by simp) (by simp) (by have := HLEN.out; (try simp only [List.length_append, List.length_cons, List.length_nil] at this ⊢); omega)
    simp only [strVs, List.map, List.length] at H
    refine H.mono ?_
    clear H
    rintro e w2 ⟨rfl, hW2, hK2⟩
    have S2 := Lib.hid (S1.out.call hW2 hK2)
    clear S1 hW2 hK2 
    go_wp2
    first | go_end0 | refine bodyPost_ret (v := .tuple #[]) (by simp [results, Tryz.results113, go_sem]) rfl ?_
    exact ⟨rfl, by simpa [List.append_assoc, kProgram, kGlobal, kFunc, kParam, kType, kNum, kBlock, kLocal, kIf, kElse, kWhile, kReturn, kAssert, kAssume, kAssign, kNondet, kResult, kCall, kName, kIndex, kBinary, kUnary, kCast, kTrue, kFalse, kVoid] using S2.out.wr, S2.out.kp⟩
  case false =>
  simp only [hq4, Bool.false_or, Bool.or_false, Bool.false_eq_true, if_false, reduceIte] at he
  cases hq5 : (k == [110, 117, 109])
  case true =>
    simp only [hq5, Bool.true_or, Bool.or_true, Bool.true_and, if_true, reduceIte] at he
    obtain rfl : k = [110, 117, 109] := by simpa using hq5
    clear hq5
    obtain ⟨q0, vc, hv, hvc, hvm⟩ := hL.shape
    simp only [Tree.kind, Tree.text, Tree.num, Tree.line, Tree.col, Tree.kids, List.length] at hv
    subst hv
    have S0 := Lib.hid (Sw.start hW hL)
    have HF := Lib.hid hF
    have HFL := Lib.hid hFL
    have HLEN := Lib.hid hlen
    have hBw := hW.lt
    have HFX := Lib.hid hFx
    have HFN := Lib.hid hFn
    clear hW hF hL hFL hlen hFk hFx hFn
    try simp only [nodeV, nodeC, Tree.kind, Tree.text, Tree.num, Tree.line, Tree.col, Tree.kids] at *

    go_enter Tryz.func113, Tryz.ntmps113
    have HC := Lib.hid (number_w lo B acc (.mk [110, 117, 109] x m ln co ks) _ _ ws S0.out.wr S0.out.li HF.out he (by have := HLEN.out; (try simp only [List.length_append, List.length_cons, List.length_nil] at this ⊢); omega))
    try simp only [nodeV, Tree.kind, Tree.text, Tree.num, Tree.line, Tree.col, Tree.kids] at HC
    obtain ⟨c0, c1, c2, c3, c4, c5⟩ := S0.out.cells
    have hszN := S0.out.lt
    go_wp2_with fail
    try clear c0 c1 c2 c3 c4 c5
    try clear hszN
    refine (HC.out).mono ?_
    rintro e w1 ⟨rfl, hW1, hK1⟩
    have S1 := Lib.hid (S0.out.call hW1 hK1)
    clear S0 hW1 hK1 HC
    go_wp2
    first | go_end0 | refine bodyPost_ret (v := .tuple #[]) (by simp [results, Tryz.results113, go_sem]) rfl ?_
    exact ⟨rfl, by simpa [List.append_assoc, kProgram, kGlobal, kFunc, kParam, kType, kNum, kBlock, kLocal, kIf, kElse, kWhile, kReturn, kAssert, kAssume, kAssign, kNondet, kResult, kCall, kName, kIndex, kBinary, kUnary, kCast, kTrue, kFalse, kVoid] using S1.out.wr, S1.out.kp⟩
  case false =>
  simp only [hq5, Bool.false_or, Bool.or_false, Bool.false_eq_true, if_false, reduceIte] at he
  obtain ⟨q0, vc, hv, hvc, hvm⟩ := hL.shape
  simp only [Tree.kind, Tree.text, Tree.num, Tree.line, Tree.col, Tree.kids, List.length] at hv
  subst hv
  have S0 := Lib.hid (Sw.start hW hL)
  have HF := Lib.hid hF
  have HFL := Lib.hid hFL
  have HLEN := Lib.hid hlen
  have hBw := hW.lt
  have HFX := Lib.hid hFx
  have HFN := Lib.hid hFn
  clear hW hF hL hFL hlen hFk hFx hFn
  try simp only [nodeV, nodeC, Tree.kind, Tree.text, Tree.num, Tree.line, Tree.col, Tree.kids] at *

  go_enter Tryz.func113, Tryz.ntmps113
  have HC := Lib.hid ((target_w rec hex) lo B acc (.mk k x m ln co ks) _ _ ws S0.out.wr S0.out.li HF.out he (by have := HLEN.out; (try simp only [List.length_append, List.length_cons, List.length_nil] at this ⊢); omega))
  try simp only [nodeV, Tree.kind, Tree.text, Tree.num, Tree.line, Tree.col, Tree.kids] at HC
  obtain ⟨c0, c1, c2, c3, c4, c5⟩ := S0.out.cells
  have hszN := S0.out.lt
  go_wp2_with fail
  try clear c0 c1 c2 c3 c4 c5
  try clear hszN
  refine (HC.out).mono ?_
  rintro e w1 ⟨rfl, hW1, hK1⟩
  have S1 := Lib.hid (S0.out.call hW1 hK1)
  clear S0 hW1 hK1 HC
  go_wp2
  first | go_end0 | refine bodyPost_ret (v := .tuple #[]) (by simp [results, Tryz.results113, go_sem]) rfl ?_
  exact ⟨rfl, by simpa [List.append_assoc, kProgram, kGlobal, kFunc, kParam, kType, kNum, kBlock, kLocal, kIf, kElse, kWhile, kReturn, kAssert, kAssume, kAssign, kNondet, kResult, kCall, kName, kIndex, kBinary, kUnary, kCast, kTrue, kFalse, kVoid] using S1.out.wr, S1.out.kp⟩
end Go.Proofs.YtnalgnklgmoepaaGreatDoor
namespace Go.Proofs.YtnalgnklgmoepaaGreatDoor
open Go Go.RowKit

set_option maxHeartbeats 2000000 in
set_option maxRecDepth 100000 in
theorem guarded_w (rec : WT → Tree → Ws) (hex : WDoes 113 (fun p n => #[p, n]) (rec .expr)) (hbl : WDoes 82 (fun p n => #[p, n]) (rec .block)) : WDoes 111 (fun p n => #[p, n]) (guardedW rec) := by
  intro lo B acc t v w ws hW hL hF he hlen
  obtain ⟨k, x, m, ln, co, ks⟩ := t
  obtain ⟨hFk, hFx, hFm0, hFm1, hFn, hFL⟩ := id hF
  simp only [guardedW, kProgram, kGlobal, kFunc, kParam, kType, kNum, kBlock, kLocal, kIf, kElse, kWhile, kReturn, kAssert, kAssume, kAssign, kNondet, kResult, kCall, kName, kIndex, kBinary, kUnary, kCast, kTrue, kFalse, kVoid, Tree.kind, Tree.text, Tree.num, Tree.line, Tree.col, Tree.kids] at he
  rcases ks with _ | ⟨a0, _ | ⟨a1, r⟩⟩
  · simp at he
  · simp at he
  simp only at he
  obtain ⟨ws1, wr1, hc1, hd1, hx1⟩ := catW_some he
  subst hx1
  clear he
  injection hc1 with hc1
  subst hc1
  obtain ⟨ws2, wr2, hc2, hd2, hx2⟩ := catW_some hd1
  subst hx2
  clear hd1
  obtain ⟨ws3, wr3, hc3, hd3, hx3⟩ := catW_some hd2
  subst hx3
  clear hd2
  injection hc3 with hc3
  subst hc3
  obtain ⟨g0, vc, hv, hR⟩ := hL.row (by simp [Tree.kids])
  have HR := Lib.hid hR
  clear hR
  simp only [Tree.kind, Tree.text, Tree.num, Tree.line, Tree.col, Tree.kids, List.length] at hv
  subst hv
  have S0 := Lib.hid (Sw.start hW hL)
  have HF := Lib.hid hF
  have HFL := Lib.hid hFL
  have HLEN := Lib.hid hlen
  have hBw := hW.lt
  have HFX := Lib.hid hFx
  have HFN := Lib.hid hFn
  clear hW hF hL hFL hlen hFk hFx hFn
  try simp only [nodeV, nodeC, Tree.kind, Tree.text, Tree.num, Tree.line, Tree.col, Tree.kids] at *
  have hn0 : (0 : Int) < (r.length : Int) + 1 + 1 := by omega
  have hn1 : (1 : Int) < (r.length : Int) + 1 + 1 := by omega
  go_enter Tryz.func111, Tryz.ntmps111
  obtain ⟨c0, c1, c2, c3, c4, c5⟩ := S0.out.cells
  have hszN := S0.out.lt
  go_wp2_with fail
  try clear c0 c1 c2 c3 c4 c5
  try clear hszN
  have H := put_lit (S := w.heap.size + 1) [k, [40]] S0.out.wr (by simp) (by simp) (by have := HLEN.out; (try simp only [List.length_append, List.length_cons, List.length_nil] at this ⊢); omega)
  simp only [strVs, List.map, List.length] at H
  refine H.mono ?_
  clear H
  rintro e w4 ⟨rfl, hW4, hK4⟩
  have S4 := Lib.hid (S0.out.call hW4 hK4)
  clear S0 hW4 hK4 
  obtain ⟨qa, na, ca, hla, hca⟩ := (HR.out.keep S4.out.kp.below).2 0 (by simp)
  simp only [Nat.zero_add, Nat.zero_mul, Nat.one_mul, Nat.reduceAdd, Nat.reduceMul, List.getElem_cons_zero, List.getElem_cons_succ] at hla hca
  have k0 := hca.c0; have k1 := hca.c1; have k2 := hca.c2; have k3 := hca.c3; have k4 := hca.c4; have k5 := hca.c5
  simp only [Nat.zero_add, Nat.zero_mul, Nat.one_mul, Nat.reduceAdd, Nat.reduceMul, List.getElem_cons_zero, List.getElem_cons_succ] at k0 k1 k2 k3 k4 k5
  have HC := Lib.hid (hex lo B (acc ++ [k, [40]]) a0 (.slice qa na ca) _ ws2 S4.out.wr hla (HFL.out.mem _ (by simp)) hc2 (by have := HLEN.out; (try simp only [List.length_append, List.length_cons, List.length_nil] at this ⊢); omega))
  clear hca hla
  try simp only [nodeV] at HC
  obtain ⟨c0, c1, c2, c3, c4, c5⟩ := S4.out.cells
  have hszN := S4.out.lt
  go_wp2_with fail
  try clear c0 c1 c2 c3 c4 c5
  try clear hszN
  try clear k0 k1 k2 k3 k4 k5
  refine (HC.out).mono ?_
  rintro e w5 ⟨rfl, hW5, hK5⟩
  have S5 := Lib.hid (S4.out.call hW5 hK5)
  clear S4 hW5 hK5 HC
  obtain ⟨c0, c1, c2, c3, c4, c5⟩ := S5.out.cells
  have hszN := S5.out.lt
  go_wp2_with fail
  try clear c0 c1 c2 c3 c4 c5
  try clear hszN
  have H := put_lit (S := w5.heap.size) [[41]] S5.out.wr (by simp) (by simp) (by have := HLEN.out; (try simp only [List.length_append, List.length_cons, List.length_nil] at this ⊢); omega)
  simp only [strVs, List.map, List.length] at H
  refine H.mono ?_
  clear H
  rintro e w6 ⟨rfl, hW6, hK6⟩
  have S6 := Lib.hid (S5.out.call hW6 hK6)
  clear S5 hW6 hK6 
  obtain ⟨qa, na, ca, hla, hca⟩ := (HR.out.keep S6.out.kp.below).2 1 (by simp)
  simp only [Nat.zero_add, Nat.zero_mul, Nat.one_mul, Nat.reduceAdd, Nat.reduceMul, List.getElem_cons_zero, List.getElem_cons_succ] at hla hca
  have k0 := hca.c0; have k1 := hca.c1; have k2 := hca.c2; have k3 := hca.c3; have k4 := hca.c4; have k5 := hca.c5
  simp only [Nat.zero_add, Nat.zero_mul, Nat.one_mul, Nat.reduceAdd, Nat.reduceMul, List.getElem_cons_zero, List.getElem_cons_succ] at k0 k1 k2 k3 k4 k5
  have HC := Lib.hid (hbl lo B (((acc ++ [k, [40]]) ++ ws2) ++ [[41]]) a1 (.slice qa na ca) _ wr3 S6.out.wr hla (HFL.out.mem _ (by simp)) hd3 (by have := HLEN.out; (try simp only [List.length_append, List.length_cons, List.length_nil] at this ⊢); omega))
  clear hca hla
  try simp only [nodeV] at HC
  obtain ⟨c0, c1, c2, c3, c4, c5⟩ := S6.out.cells
  have hszN := S6.out.lt
  go_wp2_with fail
  try clear c0 c1 c2 c3 c4 c5
  try clear hszN
  try clear k0 k1 k2 k3 k4 k5
  refine (HC.out).mono ?_
  rintro e w7 ⟨rfl, hW7, hK7⟩
  have S7 := Lib.hid (S6.out.call hW7 hK7)
  clear S6 hW7 hK7 HC
  go_wp2
  first | go_end0 | refine bodyPost_ret (v := .tuple #[]) (by simp [results, Tryz.results111, go_sem]) rfl ?_
  exact ⟨rfl, by simpa [List.append_assoc, kProgram, kGlobal, kFunc, kParam, kType, kNum, kBlock, kLocal, kIf, kElse, kWhile, kReturn, kAssert, kAssume, kAssign, kNondet, kResult, kCall, kName, kIndex, kBinary, kUnary, kCast, kTrue, kFalse, kVoid] using S7.out.wr, S7.out.kp⟩
end Go.Proofs.YtnalgnklgmoepaaGreatDoor
namespace Go.Proofs.YtnalgnklgmoepaaGreatDoor
open Go Go.RowKit

set_option maxHeartbeats 2000000 in
set_option maxRecDepth 100000 in
theorem choice_w (rec : WT → Tree → Ws) (hex : WDoes 113 (fun p n => #[p, n]) (rec .expr)) (hbl : WDoes 82 (fun p n => #[p, n]) (rec .block)) : WDoes 110 (fun p n => #[p, n]) (choiceW rec) := by
  intro lo B acc t v w ws hW hL hF he hlen
  obtain ⟨k, x, m, ln, co, ks⟩ := t
  obtain ⟨hFk, hFx, hFm0, hFm1, hFn, hFL⟩ := id hF
  simp only [choiceW, kProgram, kGlobal, kFunc, kParam, kType, kNum, kBlock, kLocal, kIf, kElse, kWhile, kReturn, kAssert, kAssume, kAssign, kNondet, kResult, kCall, kName, kIndex, kBinary, kUnary, kCast, kTrue, kFalse, kVoid, Tree.kind, Tree.text, Tree.num, Tree.line, Tree.col, Tree.kids] at he
  obtain ⟨hbare, he1⟩ := ifW_some he
  clear he
  rcases ks with _ | ⟨a0, _ | ⟨a1, _ | ⟨a2, _ | ⟨b, r⟩⟩⟩⟩
  · simp at he1
  · simp at he1
  rotate_right
  · simp at he1
  · simp only at he1
    obtain ⟨g0, vc, hv, hR⟩ := hL.row (by simp [Tree.kids])
    have HR := Lib.hid hR
    clear hR
    simp only [Tree.kind, Tree.text, Tree.num, Tree.line, Tree.col, Tree.kids, List.length] at hv
    subst hv
    have S0 := Lib.hid (Sw.start hW hL)
    have HF := Lib.hid hF
    have HFL := Lib.hid hFL
    have HLEN := Lib.hid hlen
    have hBw := hW.lt
    have HFX := Lib.hid hFx
    have HFN := Lib.hid hFn
    clear hW hF hL hFL hlen hFk hFx hFn
    try simp only [nodeV, nodeC, Tree.kind, Tree.text, Tree.num, Tree.line, Tree.col, Tree.kids] at *

    go_enter Tryz.func110, Tryz.ntmps110
    obtain ⟨c0, c1, c2, c3, c4, c5⟩ := S0.out.cells
    have hszN := S0.out.lt
    go_wp2_with fail
    try clear c0 c1 c2 c3 c4 c5
    try clear hszN
    have HQ := bare_yes (t := (.mk k x m ln co [a0, a1])) (v := .slice (some ⟨g0, 0, none⟩) 2 vc) (lo := 2) (hi := 3) _ S0.out.wr.tab rfl hbare (by first | simp | omega | (have := HFN.out; (try simp only [List.length] at this ⊢); omega)) (by first | simp | omega | (have := HFN.out; (try simp only [List.length] at this ⊢); omega))
    simp only [nodeV, Tree.kind, Tree.text, Tree.num, Tree.line, Tree.col, Tree.kids] at HQ
    refine HQ.mono ?_
    clear HQ
    rintro e w1 ⟨rfl, hb1⟩
    have S1 := Lib.hid (S0.out.below hb1)
    clear S0 hb1
    obtain ⟨c0, c1, c2, c3, c4, c5⟩ := S1.out.cells
    have hszN := S1.out.lt
    go_wp2_with fail
    refine (need_yes _).mono ?_
    rintro e w' ⟨rfl, rfl⟩
    try clear c0 c1 c2 c3 c4 c5 hszN
    have HC := Lib.hid ((guarded_w rec hex hbl) lo B acc (.mk k x m ln co [a0, a1]) _ _ ws S1.out.wr S1.out.li HF.out he1 (by have := HLEN.out; (try simp only [List.length_append, List.length_cons, List.length_nil] at this ⊢); omega))
    try simp only [nodeV, Tree.kind, Tree.text, Tree.num, Tree.line, Tree.col, Tree.kids] at HC
    obtain ⟨c0, c1, c2, c3, c4, c5⟩ := S1.out.cells
    have hszN := S1.out.lt
    go_wp2_with fail
    try clear c0 c1 c2 c3 c4 c5
    try clear hszN
    refine (HC.out).mono ?_
    rintro e w2 ⟨rfl, hW2, hK2⟩
    have S2 := Lib.hid (S1.out.call hW2 hK2)
    clear S1 hW2 hK2 HC
    obtain ⟨c0, c1, c2, c3, c4, c5⟩ := S2.out.cells
    have hszN := S2.out.lt
    go_wp2
    first | go_end0 | refine bodyPost_ret (v := .tuple #[]) (by simp [results, Tryz.results110, go_sem]) rfl ?_
    exact ⟨rfl, by simpa [List.append_assoc, kProgram, kGlobal, kFunc, kParam, kType, kNum, kBlock, kLocal, kIf, kElse, kWhile, kReturn, kAssert, kAssume, kAssign, kNondet, kResult, kCall, kName, kIndex, kBinary, kUnary, kCast, kTrue, kFalse, kVoid] using S2.out.wr, S2.out.kp⟩
  · simp only at he1
    obtain ⟨ws1, wr1, hc1, hd1, hx1⟩ := catW_some he1
    subst hx1
    clear he1
    obtain ⟨ws2, wr2, hc2, hd2, hx2⟩ := catW_some hd1
    subst hx2
    clear hd1
    injection hc2 with hc2
    subst hc2
    obtain ⟨g0, vc, hv, hR⟩ := hL.row (by simp [Tree.kids])
    have HR := Lib.hid hR
    clear hR
    simp only [Tree.kind, Tree.text, Tree.num, Tree.line, Tree.col, Tree.kids, List.length] at hv
    subst hv
    have S0 := Lib.hid (Sw.start hW hL)
    have HF := Lib.hid hF
    have HFL := Lib.hid hFL
    have HLEN := Lib.hid hlen
    have hBw := hW.lt
    have HFX := Lib.hid hFx
    have HFN := Lib.hid hFn
    clear hW hF hL hFL hlen hFk hFx hFn
    try simp only [nodeV, nodeC, Tree.kind, Tree.text, Tree.num, Tree.line, Tree.col, Tree.kids] at *

    go_enter Tryz.func110, Tryz.ntmps110
    obtain ⟨c0, c1, c2, c3, c4, c5⟩ := S0.out.cells
    have hszN := S0.out.lt
    go_wp2_with fail
    try clear c0 c1 c2 c3 c4 c5
    try clear hszN
    have HQ := bare_yes (t := (.mk k x m ln co [a0, a1, a2])) (v := .slice (some ⟨g0, 0, none⟩) 3 vc) (lo := 2) (hi := 3) _ S0.out.wr.tab rfl hbare (by first | simp | omega | (have := HFN.out; (try simp only [List.length] at this ⊢); omega)) (by first | simp | omega | (have := HFN.out; (try simp only [List.length] at this ⊢); omega))
    simp only [nodeV, Tree.kind, Tree.text, Tree.num, Tree.line, Tree.col, Tree.kids] at HQ
    refine HQ.mono ?_
    clear HQ
    rintro e w3 ⟨rfl, hb3⟩
    have S3 := Lib.hid (S0.out.below hb3)
    clear S0 hb3
    obtain ⟨c0, c1, c2, c3, c4, c5⟩ := S3.out.cells
    have hszN := S3.out.lt
    go_wp2_with fail
    refine (need_yes _).mono ?_
    rintro e w' ⟨rfl, rfl⟩
    try clear c0 c1 c2 c3 c4 c5 hszN
    have HC := Lib.hid ((guarded_w rec hex hbl) lo B acc (.mk k x m ln co [a0, a1, a2]) _ _ ws1 S3.out.wr S3.out.li HF.out hc1 (by have := HLEN.out; (try simp only [List.length_append, List.length_cons, List.length_nil] at this ⊢); omega))
    try simp only [nodeV, Tree.kind, Tree.text, Tree.num, Tree.line, Tree.col, Tree.kids] at HC
    obtain ⟨c0, c1, c2, c3, c4, c5⟩ := S3.out.cells
    have hszN := S3.out.lt
    go_wp2_with fail
    try clear c0 c1 c2 c3 c4 c5
    try clear hszN
    refine (HC.out).mono ?_
    rintro e w4 ⟨rfl, hW4, hK4⟩
    have S4 := Lib.hid (S3.out.call hW4 hK4)
    clear S3 hW4 hK4 HC
    obtain ⟨c0, c1, c2, c3, c4, c5⟩ := S4.out.cells
    have hszN := S4.out.lt
    go_wp2_with fail
    try clear c0 c1 c2 c3 c4 c5
    try clear hszN
    have H := put_lit (S := w4.heap.size) [[101, 108, 115, 101]] S4.out.wr (by simp) (by simp) (by have := HLEN.out; (try simp only [List.length_append, List.length_cons, List.length_nil] at this ⊢); omega)
    simp only [strVs, List.map, List.length] at H
    refine H.mono ?_
    clear H
    rintro e w5 ⟨rfl, hW5, hK5⟩
    have S5 := Lib.hid (S4.out.call hW5 hK5)
    clear S4 hW5 hK5 
    obtain ⟨qa, na, ca, hla, hca⟩ := (HR.out.keep S5.out.kp.below).2 2 (by simp)
    simp only [Nat.zero_add, Nat.zero_mul, Nat.one_mul, Nat.reduceAdd, Nat.reduceMul, List.getElem_cons_zero, List.getElem_cons_succ] at hla hca
    have k0 := hca.c0; have k1 := hca.c1; have k2 := hca.c2; have k3 := hca.c3; have k4 := hca.c4; have k5 := hca.c5
    simp only [Nat.zero_add, Nat.zero_mul, Nat.one_mul, Nat.reduceAdd, Nat.reduceMul, List.getElem_cons_zero, List.getElem_cons_succ] at k0 k1 k2 k3 k4 k5
    have HC := Lib.hid (hbl lo B ((acc ++ ws1) ++ [[101, 108, 115, 101]]) a2 (.slice qa na ca) _ wr2 S5.out.wr hla (HFL.out.mem _ (by simp)) hd2 (by have := HLEN.out; (try simp only [List.length_append, List.length_cons, List.length_nil] at this ⊢); omega))
    clear hca hla
    try simp only [nodeV] at HC
    obtain ⟨c0, c1, c2, c3, c4, c5⟩ := S5.out.cells
    have hszN := S5.out.lt
    go_wp2_with fail
    try clear c0 c1 c2 c3 c4 c5
    try clear hszN
    try clear k0 k1 k2 k3 k4 k5
    refine (HC.out).mono ?_
    rintro e w6 ⟨rfl, hW6, hK6⟩
    have S6 := Lib.hid (S5.out.call hW6 hK6)
    clear S5 hW6 hK6 HC
    go_wp2
    first | go_end0 | refine bodyPost_ret (v := .tuple #[]) (by simp [results, Tryz.results110, go_sem]) rfl ?_
    exact ⟨rfl, by simpa [List.append_assoc, kProgram, kGlobal, kFunc, kParam, kType, kNum, kBlock, kLocal, kIf, kElse, kWhile, kReturn, kAssert, kAssume, kAssign, kNondet, kResult, kCall, kName, kIndex, kBinary, kUnary, kCast, kTrue, kFalse, kVoid] using S6.out.wr, S6.out.kp⟩
end Go.Proofs.YtnalgnklgmoepaaGreatDoor
namespace Go.Proofs.YtnalgnklgmoepaaGreatDoor
open Go Go.RowKit

/-- Where a slice of nodes lies. -/
def KidsAt (B : Nat) (w : World) (ts : List Tree) (q : Option Addr) : Prop := ts = [] ∨ ∃ g off, q = some ⟨g, off, none⟩ ∧ RowN B w ts g off
theorem KidsAt.keep {B : Nat} {w w' : World} {ts : List Tree} {q : Option Addr} (h : KidsAt B w ts q) (hb : Below B w w') : KidsAt B w' ts q := by
  rcases h with h | ⟨g, off, h1, h2⟩
  · exact .inl h
  · exact .inr ⟨g, off, h1, h2.keep hb⟩
theorem Lies.kids {B : Nat} {w : World} {t : Tree} {v : Value} (h : Lies w (· < B) t v) : ∃ q c, v = .slice q t.kids.length c ∧ t.kids.length ≤ c ∧ c ≤ maxLen ∧ KidsAt B w t.kids q := by
  obtain ⟨q, c, hv, h1, h2⟩ := h.shape
  by_cases hk : t.kids = []
  · exact ⟨q, c, hv, h1, h2, .inl hk⟩
  · obtain ⟨g, c', hv', hr⟩ := h.row hk
    rw [hv] at hv'
    injection hv' with e1 e2 e3
    subst e1 e3
    exact ⟨_, c, hv, h1, h2, .inr ⟨g, 0, rfl, hr⟩⟩
def tailW (p : Tree → Ws) (i : Nat) (ts : List Tree) : Ws := if i = 0 then commasW p ts else restW p (ts.drop i)
theorem tailW_end (p : Tree → Ws) (ts : List Tree) {i : Nat} (h : i ≤ ts.length) (h' : ¬ i < ts.length) : tailW p i ts = some [] := by
  unfold tailW
  have : i = ts.length := by omega
  subst this
  split
  · rename_i h0
    rw [List.length_eq_zero_iff] at h0
    rw [h0]; rfl
  · rw [List.drop_length]; rfl
theorem tailW_zero {p : Tree → Ws} {ts : List Tree} (h : 0 < ts.length) {ws : List (List UInt8)} (he : tailW p 0 ts = some ws) : ∃ a b, p ts[0] = some a ∧ tailW p 1 ts = some b ∧ ws = a ++ b := by
  cases ts with
  | nil => simp at h
  | cons t r => exact catW_some (show catW (p t) (restW p r) = some ws from he)
theorem tailW_more {p : Tree → Ws} {ts : List Tree} {i : Nat} (h : i < ts.length) (h0 : i ≠ 0) {ws : List (List UInt8)} (he : tailW p i ts = some ws) : ∃ a b, p ts[i] = some a ∧ tailW p (i + 1) ts = some b ∧ ws = [[44]] ++ (a ++ b) := by
  unfold tailW at he ⊢
  rw [if_neg h0, List.drop_eq_getElem_cons h] at he
  obtain ⟨x, y, h1, h2, rfl⟩ := catW_some (show catW (some [[44]]) (catW (p ts[i]) (restW p (ts.drop (i + 1)))) = some ws from he)
  injection h1 with h1
  subst h1
  obtain ⟨a, b, h3, h4, rfl⟩ := catW_some h2
  exact ⟨a, b, h3, by rw [if_neg (by omega)]; exact h4, rfl⟩
def ComRel (lo B : Nat) (acc : List (List UInt8)) (p : Tree → Ws) (ts : List Tree) (ws : List (List UInt8)) (w : World) (i : Value) (wr : World) : Prop :=
  ∃ (k : Nat) (pre post : List (List UInt8)), k ≤ ts.length ∧ i = .int .i64 k ∧ ws = pre ++ post ∧ tailW p k ts = some post ∧ WAt lo B (acc ++ pre) wr ∧ Keep B w wr

set_option maxHeartbeats 4000000 in
set_option maxRecDepth 100000 in
theorem commas_w (f : Nat) (p : Tree → Ws) (hen : ∀ (args : Array Value) (w : World), (callFunc f args).run Tryz.prog w = .ok (.enter f args) w) (hp : WDoes f (fun p n => #[p, n]) p) (lo B : Nat) (acc : List (List UInt8)) (ts : List Tree) (q : Option Addr) (c : Nat) (w : World) (ws : List (List UInt8))
    (hW : WAt lo B acc w) (hK : KidsAt B w ts q) (hn : ts.length ≤ 1000000) (hF : NeatL ts) (he : commasW p ts = some ws) (hlen : acc.length + ws.length ≤ 1000000000) :
    Calls Tryz.prog 80 #[.pointer (some ⟨B, 0, none⟩), .slice q ts.length c, .func (.func f) #[.pointer (some ⟨B, 0, none⟩)] #[]] w fun e w' => e = .returned (.tuple #[]) ∧ WAt lo B (acc ++ ws) w' ∧ Keep B w w' := by
  have HW := Lib.hid hW
  have HK := Lib.hid hK
  have HF := Lib.hid hF
  have HE := Lib.hid he
  have HP := Lib.hid hp
  have HLEN := Lib.hid hlen
  have hBw := hW.lt
  clear hW hK hF he hp hlen
  go_enter Tryz.func80, Tryz.ntmps80
  go_wp2_with fail
  go_loopw [10] (fun i wr => ComRel lo B acc p ts ws w i wr) (fun i _ => ts.length - (intOf i).toNat)
  case atStart => exact ⟨0, [], ws, Nat.zero_le _, rfl, rfl, HE.out, by simpa using HW.out, Keep.refl _ _⟩
  case round =>
    obtain ⟨k, pre, post, hk, rfl, hws, hpost, hWr, hKr⟩ := hrel
    have HWS := Lib.hid hws
    have HPO := Lib.hid hpost
    have HWR := Lib.hid hWr
    have HKR := Lib.hid hKr
    clear hws hpost hWr hKr
    by_cases hlt : k < ts.length
    · have hne : ts ≠ [] := fun e => by rw [e] at hlt; simp at hlt
      obtain ⟨g, off, rfl, hR⟩ := (HK.out.keep HKR.out.below).resolve_left hne
      obtain ⟨qa, na, ca, hla, hca⟩ := hR.2 k hlt
      have k0 := hca.c0; have k1 := hca.c1; have k2 := hca.c2; have k3 := hca.c3; have k4 := hca.c4; have k5 := hca.c5
      have HLA := Lib.hid hla
      have hneat := Lib.hid (NeatL.mem HF.out ts[k] (List.getElem_mem _))
      have T0 := Lib.hid (Hn.new ts[k] (.slice qa na ca) wr)
      have HW1 := Lib.hid (HWR.out.alloc (.cells (nodeC ts[k] (.slice qa na ca)).toArray 26))
      have HK1 := Lib.hid (HKR.out.alloc (Nat.le_of_lt hBw) (.cells (nodeC ts[k] (.slice qa na ca)).toArray 26))
      have hBr := HWR.out.lt
      have HLL := Lib.hid (HLA.out.keep (((Below.refl _ _).alloc (Nat.le_refl _) (.cells (nodeC ts[k] (.slice qa na ca)).toArray 26)).mono (Nat.le_of_lt hBr)))
      clear hca hla hR hne HLA
      by_cases hk0 : k = 0
      · subst hk0
        simp only [Nat.zero_mul, Nat.add_zero] at k0 k1 k2 k3 k4 k5
        obtain ⟨a, b, ha, hb, hpe⟩ := tailW_zero hlt HPO.out
        have HC := Lib.hid (HP.out lo B (acc ++ pre) ts[0] (.slice qa na ca) _ a HW1.out HLL.out hneat.out ha (by have := HLEN.out; rw [HWS.out, hpe] at this; simp only [List.length_append] at this ⊢; omega))
        have HA := Lib.hid ha
        have HB := Lib.hid hb
        have HPE := Lib.hid hpe
        clear ha hb hpe
        generalize hu : ts[0] = u at *
        simp only [nodeC, nodeV] at *
        go_wp2_with fail
        refine (HC.out).mono ?_
        rintro e w2 ⟨rfl, hW2, hK2⟩
        go_wp2
        go_roundw
        case rel => exact ⟨1, pre ++ a, b, by omega, by go_num, by rw [HWS.out, HPE.out, List.append_assoc], HB.out, by simpa [List.append_assoc] using hW2, HK1.out.trans hK2⟩
        case measure => simp [intOf]; omega
      · obtain ⟨a, b, ha, hb, hpe⟩ := tailW_more hlt hk0 HPO.out
        have hk1 : (0 : Int) < (k : Int) := by omega
        have HA := Lib.hid ha
        have HB := Lib.hid hb
        have HPE := Lib.hid hpe
        have H := Lib.hid (put_lit (S := wr.heap.size + 1) [[44]] HW1.out (by simp) (by simp) (by have := HLEN.out; rw [HWS.out, hpe] at this; simp only [List.length_append, List.length_cons, List.length_nil] at this ⊢; omega))
        simp only [strVs, List.map, List.length] at H
        clear ha hb hpe
        generalize hu : ts[k] = u at *
        simp only [nodeC, nodeV] at *
        go_wp2_with fail
        refine (H.out).mono ?_
        rintro e w2 ⟨rfl, hW2, hK2⟩
        have T2 := Lib.hid (Hn.keep T0.out hK2 hBr)
        have HC := Lib.hid (HP.out lo B (acc ++ pre ++ [[44]]) u (.slice qa na ca) w2 a hW2 (HLL.out.keep hK2.below) hneat.out HA.out (by have := HLEN.out; rw [HWS.out, HPE.out] at this; simp only [List.length_append, List.length_cons, List.length_nil] at this ⊢; omega))
        obtain ⟨c0, c1, c2, c3, c4, c5⟩ := T2.out.cells
        have hl2 := T2.out.lt
        have HK2 := Lib.hid (HK1.out.trans hK2)
        clear hW2 hK2 T0 T2 HW1 HK1 H k0 k1 k2 k3 k4 k5
        unfold nodeV at *
        go_wp2_with fail
        refine (HC.out).mono ?_
        rintro e w3 ⟨rfl, hW3, hK3⟩
        go_wp2
        go_roundw
        case rel => exact ⟨k + 1, pre ++ ([[44]] ++ a), b, by omega, by go_num, by rw [HWS.out, HPE.out]; simp only [List.append_assoc], HB.out, by simpa [List.append_assoc] using hW3, HK2.out.trans hK3⟩
        case measure => simp [intOf]; omega
    · have hend := tailW_end p ts hk hlt
      go_wp2
      go_end0
      have hp0 : post = [] := by have h := HPO.out; rw [hend] at h; injection h with h; exact h.symm
      refine ⟨rfl, ?_, HKR.out⟩
      rw [HWS.out, hp0, List.append_nil]
      exact HWR.out
end Go.Proofs.YtnalgnklgmoepaaGreatDoor
namespace Go.Proofs.YtnalgnklgmoepaaGreatDoor
open Go Go.RowKit

set_option maxHeartbeats 2000000 in
set_option maxRecDepth 100000 in
theorem call_w (rec : WT → Tree → Ws) (hex : WDoes 113 (fun p n => #[p, n]) (rec .expr)) : WDoes 112 (fun p n => #[p, n]) (callW rec) := by
  intro lo B acc t v w ws hW hL hF he hlen
  obtain ⟨k, x, m, ln, co, ks⟩ := t
  obtain ⟨hFk, hFx, hFm0, hFm1, hFn, hFL⟩ := id hF
  simp only [callW, kProgram, kGlobal, kFunc, kParam, kType, kNum, kBlock, kLocal, kIf, kElse, kWhile, kReturn, kAssert, kAssume, kAssign, kNondet, kResult, kCall, kName, kIndex, kBinary, kUnary, kCast, kTrue, kFalse, kVoid, Tree.kind, Tree.text, Tree.num, Tree.line, Tree.col, Tree.kids] at he
  obtain ⟨hb, he1⟩ := ifW_some he
  clear he
  simp only [Bool.and_eq_true, beq_iff_eq] at hb
  obtain ⟨rfl, hnm⟩ := hb
  obtain ⟨ws1, wr1, hc1, hd1, hx1⟩ := catW_some he1
  subst hx1
  clear he1
  injection hc1 with hc1
  subst hc1
  obtain ⟨ws2, wr2, hc2, hd2, hx2⟩ := catW_some hd1
  subst hx2
  clear hd1
  injection hd2 with hd2
  subst hd2
  obtain ⟨q0, vc, hv, hvc, hvm, hka⟩ := hL.kids
  have HKA := Lib.hid hka
  clear hka
  simp only [Tree.kind, Tree.text, Tree.num, Tree.line, Tree.col, Tree.kids, List.length] at hv
  subst hv
  have S0 := Lib.hid (Sw.start hW hL)
  have HF := Lib.hid hF
  have HFL := Lib.hid hFL
  have HLEN := Lib.hid hlen
  have hBw := hW.lt
  have HFX := Lib.hid hFx
  have HFN := Lib.hid hFn
  clear hW hF hL hFL hlen hFk hFx hFn
  try simp only [nodeV, nodeC, Tree.kind, Tree.text, Tree.num, Tree.line, Tree.col, Tree.kids] at *

  have hmf := makeFunc_run
  go_enter Tryz.func112, Tryz.ntmps112
  obtain ⟨c0, c1, c2, c3, c4, c5⟩ := S0.out.cells
  have hszN := S0.out.lt
  go_wp2_with fail
  try clear c0 c1 c2 c3 c4 c5
  try clear hszN
  have HQ := named_yes (t := (.mk [99, 97, 108, 108] x m ln co ks)) (v := .slice q0 ks.length vc) (lo := 0) (hi := 9223372036854775807) _ S0.out.wr.tab HFX.out rfl hnm (by first | simp | omega | (have := HFN.out; (try simp only [List.length] at this ⊢); omega)) (by first | simp | omega | (have := HFN.out; (try simp only [List.length] at this ⊢); omega))
  simp only [nodeV, Tree.kind, Tree.text, Tree.num, Tree.line, Tree.col, Tree.kids] at HQ
  refine HQ.mono ?_
  clear HQ
  rintro e w3 ⟨rfl, hb3⟩
  have S3 := Lib.hid (S0.out.below hb3)
  clear S0 hb3
  obtain ⟨c0, c1, c2, c3, c4, c5⟩ := S3.out.cells
  have hszN := S3.out.lt
  go_wp2_with fail
  refine (need_yes _).mono ?_
  rintro e w' ⟨rfl, rfl⟩
  try clear c0 c1 c2 c3 c4 c5 hszN
  obtain ⟨c0, c1, c2, c3, c4, c5⟩ := S3.out.cells
  have hszN := S3.out.lt
  go_wp2_with fail
  try clear c0 c1 c2 c3 c4 c5
  try clear hszN
  have H := put_lit (S := w3.heap.size) [x, [40]] S3.out.wr (by simp) (by simp) (by have := HLEN.out; (try simp only [List.length_append, List.length_cons, List.length_nil] at this ⊢); omega)
  simp only [strVs, List.map, List.length] at H
  refine H.mono ?_
  clear H
  rintro e w4 ⟨rfl, hW4, hK4⟩
  have S4 := Lib.hid (S3.out.call hW4 hK4)
  clear S3 hW4 hK4 
  have HC := Lib.hid (commas_w 113 (rec .expr) (fun _ _ => rfl) hex lo B (acc ++ [x, [40]]) ks q0 vc _ ws2 S4.out.wr (HKA.out.keep S4.out.kp.below) (by first | (have := HFN.out; simpa using this) | simp) HFL.out hc2 (by have := HLEN.out; (try simp only [List.length_append, List.length_cons, List.length_nil] at this ⊢); omega))
  try simp only [List.length] at HC
  obtain ⟨c0, c1, c2, c3, c4, c5⟩ := S4.out.cells
  have hszN := S4.out.lt
  go_wp2_with fail
  try clear c0 c1 c2 c3 c4 c5
  try clear hszN
  refine (HC.out).mono ?_
  rintro e w5 ⟨rfl, hW5, hK5⟩
  have S5 := Lib.hid (S4.out.call hW5 hK5)
  clear S4 hW5 hK5 HC
  obtain ⟨c0, c1, c2, c3, c4, c5⟩ := S5.out.cells
  have hszN := S5.out.lt
  go_wp2_with fail
  try clear c0 c1 c2 c3 c4 c5
  try clear hszN
  have H := put_lit (S := w5.heap.size) [[41]] S5.out.wr (by simp) (by simp) (by have := HLEN.out; (try simp only [List.length_append, List.length_cons, List.length_nil] at this ⊢); omega)
  simp only [strVs, List.map, List.length] at H
  refine H.mono ?_
  clear H
  rintro e w6 ⟨rfl, hW6, hK6⟩
  have S6 := Lib.hid (S5.out.call hW6 hK6)
  clear S5 hW6 hK6 
  go_wp2
  first | go_end0 | refine bodyPost_ret (v := .tuple #[]) (by simp [results, Tryz.results112, go_sem]) rfl ?_
  exact ⟨rfl, by simpa [List.append_assoc, kProgram, kGlobal, kFunc, kParam, kType, kNum, kBlock, kLocal, kIf, kElse, kWhile, kReturn, kAssert, kAssume, kAssign, kNondet, kResult, kCall, kName, kIndex, kBinary, kUnary, kCast, kTrue, kFalse, kVoid] using S6.out.wr, S6.out.kp⟩
end Go.Proofs.YtnalgnklgmoepaaGreatDoor
