/- The contract of gift. The contract of statement. The contract of block. The contract of param. -/
import Derived.Test.YtnalgnklgmoepaaGreatDoorMbao
set_option linter.all false
namespace Go.Proofs.YtnalgnklgmoepaaGreatDoor
open Go Go.RowKit

set_option maxHeartbeats 2000000 in
set_option maxRecDepth 100000 in
theorem gift_w (rec : WT → Tree → Ws) (hex : WDoes 113 (fun p n => #[p, n]) (rec .expr)) : WDoes 114 (fun p n => #[p, n]) (giftW rec) := by
  intro lo B acc t v w ws hW hL hF he hlen
  obtain ⟨k, x, m, ln, co, ks⟩ := t
  obtain ⟨hFk, hFx, hFm0, hFm1, hFn, hFL⟩ := id hF
  simp only [giftW, kProgram, kGlobal, kFunc, kParam, kType, kNum, kBlock, kLocal, kIf, kElse, kWhile, kReturn, kAssert, kAssume, kAssign, kNondet, kResult, kCall, kName, kIndex, kBinary, kUnary, kCast, kTrue, kFalse, kVoid, Tree.kind, Tree.text, Tree.num, Tree.line, Tree.col, Tree.kids] at he
  obtain ⟨hbare, he1⟩ := ifW_some he
  clear he
  rcases ks with _ | ⟨a0, _ | ⟨a1, _ | ⟨b, r⟩⟩⟩
  · simp at he1
  rotate_right
  · simp at he1
  · simp only at he1
    obtain ⟨hb, he2⟩ := ifW_some he1
    clear he1
    obtain rfl : k = [110, 111, 110, 100, 101, 116] := by simpa using hb
    clear hb
    obtain ⟨ws1, wr1, hc1, hd1, hx1⟩ := catW_some he2
    subst hx1
    clear he2
    injection hd1 with hd1
    subst hd1
    obtain ⟨g0, vc, hv, hR⟩ := hL.row (by simp [Tree.kids])
    have HR := Lib.hid hR
    clear hR
    simp only [Tree.kind, Tree.text, Tree.num, Tree.line, Tree.col, Tree.kids, List.length] at hv
    subst hv
    have S0 := Lib.hid (Sw.start hW hL)
    have HF := Lib.hid hF
    have HFL := Lib.hid hFL
    have HLEN := Lib.hid hlen
    have hBw := hW.lt
    have HFX := Lib.hid hFx
    have HFN := Lib.hid hFn
    clear hW hF hL hFL hlen hFk hFx hFn
    try simp only [nodeV, nodeC, Tree.kind, Tree.text, Tree.num, Tree.line, Tree.col, Tree.kids] at *

    go_enter Tryz.func114, Tryz.ntmps114
    obtain ⟨c0, c1, c2, c3, c4, c5⟩ := S0.out.cells
    have hszN := S0.out.lt
    go_wp2_with fail
    try clear c0 c1 c2 c3 c4 c5
    try clear hszN
    have HQ := bare_yes (t := (.mk [110, 111, 110, 100, 101, 116] x m ln co [a0])) (v := .slice (some ⟨g0, 0, none⟩) 1 vc) (lo := 1) (hi := 1) _ S0.out.wr.tab rfl hbare (by first | simp | omega | (have := HFN.out; (try simp only [List.length] at this ⊢); omega)) (by first | simp | omega | (have := HFN.out; (try simp only [List.length] at this ⊢); omega))
    simp only [nodeV, Tree.kind, Tree.text, Tree.num, Tree.line, Tree.col, Tree.kids] at HQ
    refine HQ.mono ?_
    clear HQ
    rintro e w2 ⟨rfl, hb2⟩
    have S2 := Lib.hid (S0.out.below hb2)
    clear S0 hb2
    obtain ⟨c0, c1, c2, c3, c4, c5⟩ := S2.out.cells
    have hszN := S2.out.lt
    go_wp2_with fail
    refine (need_yes _).mono ?_
    rintro e w' ⟨rfl, rfl⟩
    try clear c0 c1 c2 c3 c4 c5 hszN
    obtain ⟨qa, na, ca, hla, hca⟩ := (HR.out.keep S2.out.kp.below).2 0 (by simp)
    simp only [Nat.zero_add, Nat.zero_mul, Nat.one_mul, Nat.reduceAdd, Nat.reduceMul, List.getElem_cons_zero, List.getElem_cons_succ] at hla hca
    have k0 := hca.c0; have k1 := hca.c1; have k2 := hca.c2; have k3 := hca.c3; have k4 := hca.c4; have k5 := hca.c5
    simp only [Nat.zero_add, Nat.zero_mul, Nat.one_mul, Nat.reduceAdd, Nat.reduceMul, List.getElem_cons_zero, List.getElem_cons_succ] at k0 k1 k2 k3 k4 k5
    have HC := Lib.hid ((target_w rec hex) lo B acc a0 (.slice qa na ca) _ ws1 S2.out.wr hla (HFL.out.mem _ (by simp)) hc1 (by have := HLEN.out; (try simp only [List.length_append, List.length_cons, List.length_nil] at this ⊢); omega))
    clear hca hla
    try simp only [nodeV] at HC
    obtain ⟨c0, c1, c2, c3, c4, c5⟩ := S2.out.cells
    have hszN := S2.out.lt
    go_wp2_with fail
    try clear c0 c1 c2 c3 c4 c5
    try clear hszN
    try clear k0 k1 k2 k3 k4 k5
    refine (HC.out).mono ?_
    rintro e w3 ⟨rfl, hW3, hK3⟩
    have S3 := Lib.hid (S2.out.call hW3 hK3)
    clear S2 hW3 hK3 HC
    obtain ⟨c0, c1, c2, c3, c4, c5⟩ := S3.out.cells
    have hszN := S3.out.lt
    go_wp2_with fail
    try clear c0 c1 c2 c3 c4 c5
    try clear hszN
    have H := put_lit (S := w3.heap.size) [[61]] S3.out.wr (by simp) (by simp) (by have := HLEN.out; (try simp only [List.length_append, List.length_cons, List.length_nil] at this ⊢); omega)
    simp only [strVs, List.map, List.length] at H
    refine H.mono ?_
    clear H
    rintro e w4 ⟨rfl, hW4, hK4⟩
    have S4 := Lib.hid (S3.out.call hW4 hK4)
    clear S3 hW4 hK4 
    obtain ⟨c0, c1, c2, c3, c4, c5⟩ := S4.out.cells
    have hszN := S4.out.lt
    go_wp2_with fail
    try clear c0 c1 c2 c3 c4 c5
    try clear hszN
    have H := put_lit (S := w4.heap.size) [[110, 111, 110, 100, 101, 116], [40], [41]] S4.out.wr (by simp) (by simp) (by have := HLEN.out; (try simp only [List.length_append, List.length_cons, List.length_nil] at this ⊢); omega)
    simp only [strVs, List.map, List.length] at H
    refine H.mono ?_
    clear H
    rintro e w5 ⟨rfl, hW5, hK5⟩
    have S5 := Lib.hid (S4.out.call hW5 hK5)
    clear S4 hW5 hK5 
    go_wp2
    first | go_end0 | refine bodyPost_ret (v := .tuple #[]) (by simp [results, Tryz.results114, go_sem]) rfl ?_
    exact ⟨rfl, by simpa [List.append_assoc, kProgram, kGlobal, kFunc, kParam, kType, kNum, kBlock, kLocal, kIf, kElse, kWhile, kReturn, kAssert, kAssume, kAssign, kNondet, kResult, kCall, kName, kIndex, kBinary, kUnary, kCast, kTrue, kFalse, kVoid] using S5.out.wr, S5.out.kp⟩
  · simp only at he1
    have he := he1
    clear he1
    cases hq1 : (k == [97, 115, 115, 105, 103, 110])
    case true =>
      simp only [hq1, Bool.true_or, Bool.or_true, Bool.true_and, if_true, reduceIte] at he
      obtain rfl : k = [97, 115, 115, 105, 103, 110] := by simpa using hq1
      clear hq1
      obtain ⟨ws1, wr1, hc1, hd1, hx1⟩ := catW_some he
      subst hx1
      clear he
      obtain ⟨ws2, wr2, hc2, hd2, hx2⟩ := catW_some hd1
      subst hx2
      clear hd1
      injection hc2 with hc2
      subst hc2
      obtain ⟨g0, vc, hv, hR⟩ := hL.row (by simp [Tree.kids])
      have HR := Lib.hid hR
      clear hR
      simp only [Tree.kind, Tree.text, Tree.num, Tree.line, Tree.col, Tree.kids, List.length] at hv
      subst hv
      have S0 := Lib.hid (Sw.start hW hL)
      have HF := Lib.hid hF
      have HFL := Lib.hid hFL
      have HLEN := Lib.hid hlen
      have hBw := hW.lt
      have HFX := Lib.hid hFx
      have HFN := Lib.hid hFn
      clear hW hF hL hFL hlen hFk hFx hFn
      try simp only [nodeV, nodeC, Tree.kind, Tree.text, Tree.num, Tree.line, Tree.col, Tree.kids] at *

      go_enter Tryz.func114, Tryz.ntmps114
      obtain ⟨c0, c1, c2, c3, c4, c5⟩ := S0.out.cells
      have hszN := S0.out.lt
      go_wp2_with fail
      try clear c0 c1 c2 c3 c4 c5
      try clear hszN
      have HQ := bare_yes (t := (.mk [97, 115, 115, 105, 103, 110] x m ln co [a0, a1])) (v := .slice (some ⟨g0, 0, none⟩) 2 vc) (lo := 2) (hi := 2) _ S0.out.wr.tab rfl hbare (by first | simp | omega | (have := HFN.out; (try simp only [List.length] at this ⊢); omega)) (by first | simp | omega | (have := HFN.out; (try simp only [List.length] at this ⊢); omega))
      simp only [nodeV, Tree.kind, Tree.text, Tree.num, Tree.line, Tree.col, Tree.kids] at HQ
      refine HQ.mono ?_
      clear HQ
      rintro e w3 ⟨rfl, hb3⟩
      have S3 := Lib.hid (S0.out.below hb3)
      clear S0 hb3
      obtain ⟨c0, c1, c2, c3, c4, c5⟩ := S3.out.cells
      have hszN := S3.out.lt
      go_wp2_with fail
      refine (need_yes _).mono ?_
      rintro e w' ⟨rfl, rfl⟩
      try clear c0 c1 c2 c3 c4 c5 hszN
      obtain ⟨qa, na, ca, hla, hca⟩ := (HR.out.keep S3.out.kp.below).2 0 (by simp)
      simp only [Nat.zero_add, Nat.zero_mul, Nat.one_mul, Nat.reduceAdd, Nat.reduceMul, List.getElem_cons_zero, List.getElem_cons_succ] at hla hca
      have k0 := hca.c0; have k1 := hca.c1; have k2 := hca.c2; have k3 := hca.c3; have k4 := hca.c4; have k5 := hca.c5
      simp only [Nat.zero_add, Nat.zero_mul, Nat.one_mul, Nat.reduceAdd, Nat.reduceMul, List.getElem_cons_zero, List.getElem_cons_succ] at k0 k1 k2 k3 k4 k5
      have HC := Lib.hid ((target_w rec hex) lo B acc a0 (.slice qa na ca) _ ws1 S3.out.wr hla (HFL.out.mem _ (by simp)) hc1 (by have := HLEN.out; (try simp only [List.length_append, List.length_cons, List.length_nil] at this ⊢); omega))
      clear hca hla
      try simp only [nodeV] at HC
      obtain ⟨c0, c1, c2, c3, c4, c5⟩ := S3.out.cells
      have hszN := S3.out.lt
      go_wp2_with fail
      try clear c0 c1 c2 c3 c4 c5
      try clear hszN
      try clear k0 k1 k2 k3 k4 k5
      refine (HC.out).mono ?_
      rintro e w4 ⟨rfl, hW4, hK4⟩
      have S4 := Lib.hid (S3.out.call hW4 hK4)
      clear S3 hW4 hK4 HC
      obtain ⟨c0, c1, c2, c3, c4, c5⟩ := S4.out.cells
      have hszN := S4.out.lt
      go_wp2_with fail
      try clear c0 c1 c2 c3 c4 c5
      try clear hszN
      have H := put_lit (S := w4.heap.size) [[61]] S4.out.wr (by simp) (by simp) (by have := HLEN.out; (try simp only [List.length_append, List.length_cons, List.length_nil] at this ⊢); omega)
      simp only [strVs, List.map, List.length] at H
      refine H.mono ?_
      clear H
      rintro e w5 ⟨rfl, hW5, hK5⟩
      have S5 := Lib.hid (S4.out.call hW5 hK5)
      clear S4 hW5 hK5 
      obtain ⟨qa, na, ca, hla, hca⟩ := (HR.out.keep S5.out.kp.below).2 1 (by simp)
      simp only [Nat.zero_add, Nat.zero_mul, Nat.one_mul, Nat.reduceAdd, Nat.reduceMul, List.getElem_cons_zero, List.getElem_cons_succ] at hla hca
      have k0 := hca.c0; have k1 := hca.c1; have k2 := hca.c2; have k3 := hca.c3; have k4 := hca.c4; have k5 := hca.c5
      simp only [Nat.zero_add, Nat.zero_mul, Nat.one_mul, Nat.reduceAdd, Nat.reduceMul, List.getElem_cons_zero, List.getElem_cons_succ] at k0 k1 k2 k3 k4 k5
      have HC := Lib.hid (hex lo B ((acc ++ ws1) ++ [[61]]) a1 (.slice qa na ca) _ wr2 S5.out.wr hla (HFL.out.mem _ (by simp)) hd2 (by have := HLEN.out; (try simp only [List.length_append, List.length_cons, List.length_nil] at this ⊢); omega))
      clear hca hla
      try simp only [nodeV] at HC
      obtain ⟨c0, c1, c2, c3, c4, c5⟩ := S5.out.cells
      have hszN := S5.out.lt
      go_wp2_with fail
      try clear c0 c1 c2 c3 c4 c5
      try clear hszN
      try clear k0 k1 k2 k3 k4 k5
      refine (HC.out).mono ?_
      rintro e w6 ⟨rfl, hW6, hK6⟩
      have S6 := Lib.hid (S5.out.call hW6 hK6)
      clear S5 hW6 hK6 HC
      go_wp2
      first | go_end0 | refine bodyPost_ret (v := .tuple #[]) (by simp [results, Tryz.results114, go_sem]) rfl ?_
      exact ⟨rfl, by simpa [List.append_assoc, kProgram, kGlobal, kFunc, kParam, kType, kNum, kBlock, kLocal, kIf, kElse, kWhile, kReturn, kAssert, kAssume, kAssign, kNondet, kResult, kCall, kName, kIndex, kBinary, kUnary, kCast, kTrue, kFalse, kVoid] using S6.out.wr, S6.out.kp⟩
    case false =>
    simp only [hq1, Bool.false_or, Bool.or_false, Bool.false_eq_true, if_false, reduceIte] at he
    obtain ⟨hb, he2⟩ := ifW_some he
    clear he
    obtain rfl : k = [114, 101, 115, 117, 108, 116] := by simpa using hb
    clear hb hq1
    obtain ⟨ws1, wr1, hc1, hd1, hx1⟩ := catW_some he2
    subst hx1
    clear he2
    obtain ⟨ws2, wr2, hc2, hd2, hx2⟩ := catW_some hd1
    subst hx2
    clear hd1
    injection hc2 with hc2
    subst hc2
    obtain ⟨g0, vc, hv, hR⟩ := hL.row (by simp [Tree.kids])
    have HR := Lib.hid hR
    clear hR
    simp only [Tree.kind, Tree.text, Tree.num, Tree.line, Tree.col, Tree.kids, List.length] at hv
    subst hv
    have S0 := Lib.hid (Sw.start hW hL)
    have HF := Lib.hid hF
    have HFL := Lib.hid hFL
    have HLEN := Lib.hid hlen
    have hBw := hW.lt
    have HFX := Lib.hid hFx
    have HFN := Lib.hid hFn
    clear hW hF hL hFL hlen hFk hFx hFn
    try simp only [nodeV, nodeC, Tree.kind, Tree.text, Tree.num, Tree.line, Tree.col, Tree.kids] at *

    go_enter Tryz.func114, Tryz.ntmps114
    obtain ⟨c0, c1, c2, c3, c4, c5⟩ := S0.out.cells
    have hszN := S0.out.lt
    go_wp2_with fail
    try clear c0 c1 c2 c3 c4 c5
    try clear hszN
    have HQ := bare_yes (t := (.mk [114, 101, 115, 117, 108, 116] x m ln co [a0, a1])) (v := .slice (some ⟨g0, 0, none⟩) 2 vc) (lo := 2) (hi := 2) _ S0.out.wr.tab rfl hbare (by first | simp | omega | (have := HFN.out; (try simp only [List.length] at this ⊢); omega)) (by first | simp | omega | (have := HFN.out; (try simp only [List.length] at this ⊢); omega))
    simp only [nodeV, Tree.kind, Tree.text, Tree.num, Tree.line, Tree.col, Tree.kids] at HQ
    refine HQ.mono ?_
    clear HQ
    rintro e w3 ⟨rfl, hb3⟩
    have S3 := Lib.hid (S0.out.below hb3)
    clear S0 hb3
    obtain ⟨c0, c1, c2, c3, c4, c5⟩ := S3.out.cells
    have hszN := S3.out.lt
    go_wp2_with fail
    refine (need_yes _).mono ?_
    rintro e w' ⟨rfl, rfl⟩
    try clear c0 c1 c2 c3 c4 c5 hszN
    obtain ⟨qa, na, ca, hla, hca⟩ := (HR.out.keep S3.out.kp.below).2 0 (by simp)
    simp only [Nat.zero_add, Nat.zero_mul, Nat.one_mul, Nat.reduceAdd, Nat.reduceMul, List.getElem_cons_zero, List.getElem_cons_succ] at hla hca
    have k0 := hca.c0; have k1 := hca.c1; have k2 := hca.c2; have k3 := hca.c3; have k4 := hca.c4; have k5 := hca.c5
    simp only [Nat.zero_add, Nat.zero_mul, Nat.one_mul, Nat.reduceAdd, Nat.reduceMul, List.getElem_cons_zero, List.getElem_cons_succ] at k0 k1 k2 k3 k4 k5
    have HC := Lib.hid ((target_w rec hex) lo B acc a0 (.slice qa na ca) _ ws1 S3.out.wr hla (HFL.out.mem _ (by simp)) hc1 (by have := HLEN.out; (try simp only [List.length_append, List.length_cons, List.length_nil] at this ⊢); omega))
    clear hca hla
    try simp only [nodeV] at HC
    obtain ⟨c0, c1, c2, c3, c4, c5⟩ := S3.out.cells
    have hszN := S3.out.lt
    go_wp2_with fail
    try clear c0 c1 c2 c3 c4 c5
    try clear hszN
    try clear k0 k1 k2 k3 k4 k5
    refine (HC.out).mono ?_
    rintro e w4 ⟨rfl, hW4, hK4⟩
    have S4 := Lib.hid (S3.out.call hW4 hK4)
    clear S3 hW4 hK4 HC
    obtain ⟨c0, c1, c2, c3, c4, c5⟩ := S4.out.cells
    have hszN := S4.out.lt
    go_wp2_with fail
    try clear c0 c1 c2 c3 c4 c5
    try clear hszN
    have H := put_lit (S := w4.heap.size) [[61]] S4.out.wr (by simp) (by simp) (by have := HLEN.out; (try simp only [List.length_append, List.length_cons, List.length_nil] at this ⊢); omega)
    simp only [strVs, List.map, List.length] at H
    refine H.mono ?_
    clear H
    rintro e w5 ⟨rfl, hW5, hK5⟩
    have S5 := Lib.hid (S4.out.call hW5 hK5)
    clear S4 hW5 hK5 
    obtain ⟨qa, na, ca, hla, hca⟩ := (HR.out.keep S5.out.kp.below).2 1 (by simp)
    simp only [Nat.zero_add, Nat.zero_mul, Nat.one_mul, Nat.reduceAdd, Nat.reduceMul, List.getElem_cons_zero, List.getElem_cons_succ] at hla hca
    have k0 := hca.c0; have k1 := hca.c1; have k2 := hca.c2; have k3 := hca.c3; have k4 := hca.c4; have k5 := hca.c5
    simp only [Nat.zero_add, Nat.zero_mul, Nat.one_mul, Nat.reduceAdd, Nat.reduceMul, List.getElem_cons_zero, List.getElem_cons_succ] at k0 k1 k2 k3 k4 k5
    have HC := Lib.hid ((call_w rec hex) lo B ((acc ++ ws1) ++ [[61]]) a1 (.slice qa na ca) _ wr2 S5.out.wr hla (HFL.out.mem _ (by simp)) hd2 (by have := HLEN.out; (try simp only [List.length_append, List.length_cons, List.length_nil] at this ⊢); omega))
    clear hca hla
    try simp only [nodeV] at HC
    obtain ⟨c0, c1, c2, c3, c4, c5⟩ := S5.out.cells
    have hszN := S5.out.lt
    go_wp2_with fail
    try clear c0 c1 c2 c3 c4 c5
    try clear hszN
    try clear k0 k1 k2 k3 k4 k5
    refine (HC.out).mono ?_
    rintro e w6 ⟨rfl, hW6, hK6⟩
    have S6 := Lib.hid (S5.out.call hW6 hK6)
    clear S5 hW6 hK6 HC
    go_wp2
    first | go_end0 | refine bodyPost_ret (v := .tuple #[]) (by simp [results, Tryz.results114, go_sem]) rfl ?_
    exact ⟨rfl, by simpa [List.append_assoc, kProgram, kGlobal, kFunc, kParam, kType, kNum, kBlock, kLocal, kIf, kElse, kWhile, kReturn, kAssert, kAssume, kAssign, kNondet, kResult, kCall, kName, kIndex, kBinary, kUnary, kCast, kTrue, kFalse, kVoid] using S6.out.wr, S6.out.kp⟩
end Go.Proofs.YtnalgnklgmoepaaGreatDoor
namespace Go.Proofs.YtnalgnklgmoepaaGreatDoor
open Go Go.RowKit

set_option maxHeartbeats 8000000 in
set_option maxRecDepth 100000 in
theorem statement_w (rec : WT → Tree → Ws) (hex : WDoes 113 (fun p n => #[p, n]) (rec .expr)) (hbl : WDoes 82 (fun p n => #[p, n]) (rec .block)) : WDoes 101 (fun p n => #[p, n]) (stmtW rec) := by
  intro lo B acc t v w ws hW hL hF he hlen
  obtain ⟨k, x, m, ln, co, ks⟩ := t
  obtain ⟨hFk, hFx, hFm0, hFm1, hFn, hFL⟩ := id hF
  unfold stmtW semiW at he
  simp only [kProgram, kGlobal, kFunc, kParam, kType, kNum, kBlock, kLocal, kIf, kElse, kWhile, kReturn, kAssert, kAssume, kAssign, kNondet, kResult, kCall, kName, kIndex, kBinary, kUnary, kCast, kTrue, kFalse, kVoid, Tree.kind, Tree.text, Tree.num, Tree.line, Tree.col, Tree.kids] at he
  cases hq0 : (k == [105, 102])
  case true =>
    simp only [hq0, Bool.true_or, Bool.or_true, Bool.true_and, if_true, reduceIte] at he
    obtain rfl : k = [105, 102] := by simpa using hq0
    clear hq0
    obtain ⟨q0, vc, hv, hvc, hvm⟩ := hL.shape
    simp only [Tree.kind, Tree.text, Tree.num, Tree.line, Tree.col, Tree.kids, List.length] at hv
    subst hv
    have S0 := Lib.hid (Sw.start hW hL)
    have HF := Lib.hid hF
    have HFL := Lib.hid hFL
    have HLEN := Lib.hid hlen
    have hBw := hW.lt
    have HFX := Lib.hid hFx
    have HFN := Lib.hid hFn
    clear hW hF hL hFL hlen hFk hFx hFn
    try simp only [nodeV, nodeC, Tree.kind, Tree.text, Tree.num, Tree.line, Tree.col, Tree.kids] at *

    go_enter Tryz.func101, Tryz.ntmps101
    have HC := Lib.hid ((choice_w rec hex hbl) lo B acc (.mk [105, 102] x m ln co ks) _ _ ws S0.out.wr S0.out.li HF.out he (by have := HLEN.out; (try simp only [List.length_append, List.length_cons, List.length_nil] at this ⊢); omega))
    try simp only [nodeV, Tree.kind, Tree.text, Tree.num, Tree.line, Tree.col, Tree.kids] at HC
    obtain ⟨c0, c1, c2, c3, c4, c5⟩ := S0.out.cells
    have hszN := S0.out.lt
    go_wp2_with fail
    try clear c0 c1 c2 c3 c4 c5
    try clear hszN
    refine (HC.out).mono ?_
    rintro e w1 ⟨rfl, hW1, hK1⟩
    have S1 := Lib.hid (S0.out.call hW1 hK1)
    clear S0 hW1 hK1 HC
    go_wp2
    first | go_end0 | refine bodyPost_ret (v := .tuple #[]) (by simp [results, Tryz.results101, go_sem]) rfl ?_
    exact ⟨rfl, by simpa [List.append_assoc, kProgram, kGlobal, kFunc, kParam, kType, kNum, kBlock, kLocal, kIf, kElse, kWhile, kReturn, kAssert, kAssume, kAssign, kNondet, kResult, kCall, kName, kIndex, kBinary, kUnary, kCast, kTrue, kFalse, kVoid] using S1.out.wr, S1.out.kp⟩
  case false =>
  simp only [hq0, Bool.false_or, Bool.or_false, Bool.false_eq_true, if_false, reduceIte] at he
  cases hq1 : (k == [119, 104, 105, 108, 101])
  case true =>
    simp only [hq1, Bool.true_or, Bool.or_true, Bool.true_and, if_true, reduceIte] at he
    obtain rfl : k = [119, 104, 105, 108, 101] := by simpa using hq1
    clear hq1
    obtain ⟨hb, he1⟩ := ifW_some he
    clear he
    simp only [Bool.and_eq_true, decide_eq_true_eq] at hb
    obtain ⟨hbare, hl⟩ := hb
    simp only [beq_iff_eq] at hl
    obtain ⟨a0, a1, rfl⟩ : ∃ a b, ks = [a, b] := ⟨_, _, List.eq_getElem_of_length_eq_two ks hl⟩
    clear hl
    obtain ⟨g0, vc, hv, hR⟩ := hL.row (by simp [Tree.kids])
    have HR := Lib.hid hR
    clear hR
    simp only [Tree.kind, Tree.text, Tree.num, Tree.line, Tree.col, Tree.kids, List.length] at hv
    subst hv
    have S0 := Lib.hid (Sw.start hW hL)
    have HF := Lib.hid hF
    have HFL := Lib.hid hFL
    have HLEN := Lib.hid hlen
    have hBw := hW.lt
    have HFX := Lib.hid hFx
    have HFN := Lib.hid hFn
    clear hW hF hL hFL hlen hFk hFx hFn
    try simp only [nodeV, nodeC, Tree.kind, Tree.text, Tree.num, Tree.line, Tree.col, Tree.kids] at *

    go_enter Tryz.func101, Tryz.ntmps101
    obtain ⟨c0, c1, c2, c3, c4, c5⟩ := S0.out.cells
    have hszN := S0.out.lt
    go_wp2_with fail
    try clear c0 c1 c2 c3 c4 c5
    try clear hszN
    have HQ := bare_yes (t := (.mk [119, 104, 105, 108, 101] x m ln co [a0, a1])) (v := .slice (some ⟨g0, 0, none⟩) 2 vc) (lo := 2) (hi := 2) _ S0.out.wr.tab rfl hbare (by first | simp | omega | (have := HFN.out; (try simp only [List.length] at this ⊢); omega)) (by first | simp | omega | (have := HFN.out; (try simp only [List.length] at this ⊢); omega))
    simp only [nodeV, Tree.kind, Tree.text, Tree.num, Tree.line, Tree.col, Tree.kids] at HQ
    refine HQ.mono ?_
    clear HQ
    rintro e w1 ⟨rfl, hb1⟩
    have S1 := Lib.hid (S0.out.below hb1)
    clear S0 hb1
    obtain ⟨c0, c1, c2, c3, c4, c5⟩ := S1.out.cells
    have hszN := S1.out.lt
    go_wp2_with fail
    refine (need_yes _).mono ?_
    rintro e w' ⟨rfl, rfl⟩
    try clear c0 c1 c2 c3 c4 c5 hszN
    have HC := Lib.hid ((guarded_w rec hex hbl) lo B acc (.mk [119, 104, 105, 108, 101] x m ln co [a0, a1]) _ _ ws S1.out.wr S1.out.li HF.out he1 (by have := HLEN.out; (try simp only [List.length_append, List.length_cons, List.length_nil] at this ⊢); omega))
    try simp only [nodeV, Tree.kind, Tree.text, Tree.num, Tree.line, Tree.col, Tree.kids] at HC
    obtain ⟨c0, c1, c2, c3, c4, c5⟩ := S1.out.cells
    have hszN := S1.out.lt
    go_wp2_with fail
    try clear c0 c1 c2 c3 c4 c5
    try clear hszN
    refine (HC.out).mono ?_
    rintro e w2 ⟨rfl, hW2, hK2⟩
    have S2 := Lib.hid (S1.out.call hW2 hK2)
    clear S1 hW2 hK2 HC
    go_wp2
    first | go_end0 | refine bodyPost_ret (v := .tuple #[]) (by simp [results, Tryz.results101, go_sem]) rfl ?_
    exact ⟨rfl, by simpa [List.append_assoc, kProgram, kGlobal, kFunc, kParam, kType, kNum, kBlock, kLocal, kIf, kElse, kWhile, kReturn, kAssert, kAssume, kAssign, kNondet, kResult, kCall, kName, kIndex, kBinary, kUnary, kCast, kTrue, kFalse, kVoid] using S2.out.wr, S2.out.kp⟩
  case false =>
  simp only [hq1, Bool.false_or, Bool.or_false, Bool.false_eq_true, if_false, reduceIte] at he
  cases hq2 : (k == [108, 111, 99, 97, 108])
  case true =>
    simp only [hq2, Bool.true_or, Bool.or_true, Bool.true_and, if_true, reduceIte] at he
    obtain rfl : k = [108, 111, 99, 97, 108] := by simpa using hq2
    clear hq2
    obtain ⟨hb, he1⟩ := ifW_some he
    clear he
    simp only [Bool.and_eq_true, decide_eq_true_eq] at hb
    obtain ⟨hnm, hl⟩ := hb
    simp only [beq_iff_eq] at hl
    obtain ⟨a0, rfl⟩ := List.length_eq_one_iff.1 hl
    clear hl
    obtain ⟨ws1, wr1, hc1, hd1, hx1⟩ := catW_some he1
    subst hx1
    clear he1
    injection hd1 with hd1
    subst hd1
    obtain ⟨g0, vc, hv, hR⟩ := hL.row (by simp [Tree.kids])
    have HR := Lib.hid hR
    clear hR
    simp only [Tree.kind, Tree.text, Tree.num, Tree.line, Tree.col, Tree.kids, List.length] at hv
    subst hv
    have S0 := Lib.hid (Sw.start hW hL)
    have HF := Lib.hid hF
    have HFL := Lib.hid hFL
    have HLEN := Lib.hid hlen
    have hBw := hW.lt
    have HFX := Lib.hid hFx
    have HFN := Lib.hid hFn
    clear hW hF hL hFL hlen hFk hFx hFn
    try simp only [nodeV, nodeC, Tree.kind, Tree.text, Tree.num, Tree.line, Tree.col, Tree.kids] at *

    go_enter Tryz.func101, Tryz.ntmps101
    obtain ⟨c0, c1, c2, c3, c4, c5⟩ := S0.out.cells
    have hszN := S0.out.lt
    go_wp2_with fail
    try clear c0 c1 c2 c3 c4 c5
    try clear hszN
    have HQ := named_yes (t := (.mk [108, 111, 99, 97, 108] x m ln co [a0])) (v := .slice (some ⟨g0, 0, none⟩) 1 vc) (lo := 1) (hi := 1) _ S0.out.wr.tab HFX.out rfl hnm (by first | simp | omega | (have := HFN.out; (try simp only [List.length] at this ⊢); omega)) (by first | simp | omega | (have := HFN.out; (try simp only [List.length] at this ⊢); omega))
    simp only [nodeV, Tree.kind, Tree.text, Tree.num, Tree.line, Tree.col, Tree.kids] at HQ
    refine HQ.mono ?_
    clear HQ
    rintro e w2 ⟨rfl, hb2⟩
    have S2 := Lib.hid (S0.out.below hb2)
    clear S0 hb2
    obtain ⟨c0, c1, c2, c3, c4, c5⟩ := S2.out.cells
    have hszN := S2.out.lt
    go_wp2_with fail
    refine (need_yes _).mono ?_
    rintro e w' ⟨rfl, rfl⟩
    try clear c0 c1 c2 c3 c4 c5 hszN
    have HC := Lib.hid ((declared_w false) lo B acc (.mk [108, 111, 99, 97, 108] x m ln co [a0]) _ _ ws1 S2.out.wr S2.out.li HF.out hc1 (by have := HLEN.out; (try simp only [List.length_append, List.length_cons, List.length_nil] at this ⊢); omega))
    try simp only [nodeV, Tree.kind, Tree.text, Tree.num, Tree.line, Tree.col, Tree.kids] at HC
    obtain ⟨c0, c1, c2, c3, c4, c5⟩ := S2.out.cells
    have hszN := S2.out.lt
    go_wp2_with fail
    try clear c0 c1 c2 c3 c4 c5
    try clear hszN
    refine (HC.out).mono ?_
    rintro e w3 ⟨rfl, hW3, hK3⟩
    have S3 := Lib.hid (S2.out.call hW3 hK3)
    clear S2 hW3 hK3 HC
    obtain ⟨c0, c1, c2, c3, c4, c5⟩ := S3.out.cells
    have hszN := S3.out.lt
    go_wp2_with fail
    try clear c0 c1 c2 c3 c4 c5
    try clear hszN
    have H := put_lit (S := w3.heap.size) [[59]] S3.out.wr (by simp) (by simp) (by have := HLEN.out; (try simp only [List.length_append, List.length_cons, List.length_nil] at this ⊢); omega)
    simp only [strVs, List.map, List.length] at H
    refine H.mono ?_
    clear H
    rintro e w4 ⟨rfl, hW4, hK4⟩
    have S4 := Lib.hid (S3.out.call hW4 hK4)
    clear S3 hW4 hK4 
    go_wp2
    first | go_end0 | refine bodyPost_ret (v := .tuple #[]) (by simp [results, Tryz.results101, go_sem]) rfl ?_
    exact ⟨rfl, by simpa [List.append_assoc, kProgram, kGlobal, kFunc, kParam, kType, kNum, kBlock, kLocal, kIf, kElse, kWhile, kReturn, kAssert, kAssume, kAssign, kNondet, kResult, kCall, kName, kIndex, kBinary, kUnary, kCast, kTrue, kFalse, kVoid] using S4.out.wr, S4.out.kp⟩
  case false =>
  simp only [hq2, Bool.false_or, Bool.or_false, Bool.false_eq_true, if_false, reduceIte] at he
  cases hq3 : (k == [99, 97, 108, 108])
  case true =>
    simp only [hq3, Bool.true_or, Bool.or_true, Bool.true_and, if_true, reduceIte] at he
    obtain rfl : k = [99, 97, 108, 108] := by simpa using hq3
    clear hq3
    obtain ⟨ws1, wr1, hc1, hd1, hx1⟩ := catW_some he
    subst hx1
    clear he
    injection hd1 with hd1
    subst hd1
    obtain ⟨q0, vc, hv, hvc, hvm⟩ := hL.shape
    simp only [Tree.kind, Tree.text, Tree.num, Tree.line, Tree.col, Tree.kids, List.length] at hv
    subst hv
    have S0 := Lib.hid (Sw.start hW hL)
    have HF := Lib.hid hF
    have HFL := Lib.hid hFL
    have HLEN := Lib.hid hlen
    have hBw := hW.lt
    have HFX := Lib.hid hFx
    have HFN := Lib.hid hFn
    clear hW hF hL hFL hlen hFk hFx hFn
    try simp only [nodeV, nodeC, Tree.kind, Tree.text, Tree.num, Tree.line, Tree.col, Tree.kids] at *

    go_enter Tryz.func101, Tryz.ntmps101
    have HC := Lib.hid ((call_w rec hex) lo B acc (.mk [99, 97, 108, 108] x m ln co ks) _ _ ws1 S0.out.wr S0.out.li HF.out hc1 (by have := HLEN.out; (try simp only [List.length_append, List.length_cons, List.length_nil] at this ⊢); omega))
    try simp only [nodeV, Tree.kind, Tree.text, Tree.num, Tree.line, Tree.col, Tree.kids] at HC
    obtain ⟨c0, c1, c2, c3, c4, c5⟩ := S0.out.cells
    have hszN := S0.out.lt
    go_wp2_with fail
    try clear c0 c1 c2 c3 c4 c5
    try clear hszN
    refine (HC.out).mono ?_
    rintro e w2 ⟨rfl, hW2, hK2⟩
    have S2 := Lib.hid (S0.out.call hW2 hK2)
    clear S0 hW2 hK2 HC
    obtain ⟨c0, c1, c2, c3, c4, c5⟩ := S2.out.cells
    have hszN := S2.out.lt
    go_wp2_with fail
    try clear c0 c1 c2 c3 c4 c5
    try clear hszN
    have H := put_lit (S := w2.heap.size) [[59]] S2.out.wr (by simp) (by simp) (by have := HLEN.out; (try simp only [List.length_append, List.length_cons, List.length_nil] at this ⊢); omega)
    simp only [strVs, List.map, List.length] at H
    refine H.mono ?_
    clear H
    rintro e w3 ⟨rfl, hW3, hK3⟩
    have S3 := Lib.hid (S2.out.call hW3 hK3)
    clear S2 hW3 hK3 
    go_wp2
    first | go_end0 | refine bodyPost_ret (v := .tuple #[]) (by simp [results, Tryz.results101, go_sem]) rfl ?_
    exact ⟨rfl, by simpa [List.append_assoc, kProgram, kGlobal, kFunc, kParam, kType, kNum, kBlock, kLocal, kIf, kElse, kWhile, kReturn, kAssert, kAssume, kAssign, kNondet, kResult, kCall, kName, kIndex, kBinary, kUnary, kCast, kTrue, kFalse, kVoid] using S3.out.wr, S3.out.kp⟩
  case false =>
  simp only [hq3, Bool.false_or, Bool.or_false, Bool.false_eq_true, if_false, reduceIte] at he
  cases hq4 : (k == [114, 101, 116, 117, 114, 110])
  case true =>
    simp only [hq4, Bool.true_or, Bool.or_true, Bool.true_and, if_true, reduceIte] at he
    obtain rfl : k = [114, 101, 116, 117, 114, 110] := by simpa using hq4
    clear hq4
    obtain ⟨hb, he1⟩ := ifW_some he
    clear he
    simp only [Bool.and_eq_true, decide_eq_true_eq] at hb
    obtain ⟨hbare, hl⟩ := hb
    have hl1 : ks.length ≤ 1 := of_decide_eq_true hl
    obtain ⟨wsA, wrA, hA, hS, hxA⟩ := catW_some he1
    subst hxA
    clear he1
    injection hS with hS
    subst hS
    obtain ⟨ws1, wr1, hc1, hd1, hx1⟩ := catW_some hA
    subst hx1
    clear hA
    injection hc1 with hc1
    subst hc1
    obtain ⟨q0, vc, hv, hvc, hvm, hka⟩ := hL.kids
    have HKA := Lib.hid hka
    clear hka
    simp only [Tree.kind, Tree.text, Tree.num, Tree.line, Tree.col, Tree.kids, List.length] at hv
    subst hv
    have S0 := Lib.hid (Sw.start hW hL)
    have HF := Lib.hid hF
    have HFL := Lib.hid hFL
    have HLEN := Lib.hid hlen
    have hBw := hW.lt
    have HFX := Lib.hid hFx
    have HFN := Lib.hid hFn
    clear hW hF hL hFL hlen hFk hFx hFn
    try simp only [nodeV, nodeC, Tree.kind, Tree.text, Tree.num, Tree.line, Tree.col, Tree.kids] at *

    have hmf := makeFunc_run
    go_enter Tryz.func101, Tryz.ntmps101
    obtain ⟨c0, c1, c2, c3, c4, c5⟩ := S0.out.cells
    have hszN := S0.out.lt
    go_wp2_with fail
    try clear c0 c1 c2 c3 c4 c5
    try clear hszN
    have HQ := bare_yes (t := (.mk [114, 101, 116, 117, 114, 110] x m ln co ks)) (v := .slice q0 ks.length vc) (lo := 0) (hi := 1) _ S0.out.wr.tab rfl hbare (by first | simp | omega | (have := HFN.out; (try simp only [List.length] at this ⊢); omega)) (by first | simp | omega | (have := HFN.out; (try simp only [List.length] at this ⊢); omega))
    simp only [nodeV, Tree.kind, Tree.text, Tree.num, Tree.line, Tree.col, Tree.kids] at HQ
    refine HQ.mono ?_
    clear HQ
    rintro e w2 ⟨rfl, hb2⟩
    have S2 := Lib.hid (S0.out.below hb2)
    clear S0 hb2
    obtain ⟨c0, c1, c2, c3, c4, c5⟩ := S2.out.cells
    have hszN := S2.out.lt
    go_wp2_with fail
    refine (need_yes _).mono ?_
    rintro e w' ⟨rfl, rfl⟩
    try clear c0 c1 c2 c3 c4 c5 hszN
    obtain ⟨c0, c1, c2, c3, c4, c5⟩ := S2.out.cells
    have hszN := S2.out.lt
    go_wp2_with fail
    try clear c0 c1 c2 c3 c4 c5
    try clear hszN
    have H := put_lit (S := w2.heap.size) [[114, 101, 116, 117, 114, 110]] S2.out.wr (by simp) (by simp) (by have := HLEN.out; (try simp only [List.length_append, List.length_cons, List.length_nil] at this ⊢); omega)
    simp only [strVs, List.map, List.length] at H
    refine H.mono ?_
    clear H
    rintro e w3 ⟨rfl, hW3, hK3⟩
    have S3 := Lib.hid (S2.out.call hW3 hK3)
    clear S2 hW3 hK3 
    have HC := Lib.hid (commas_w 113 (rec .expr) (fun _ _ => rfl) hex lo B (acc ++ [[114, 101, 116, 117, 114, 110]]) ks q0 vc _ wr1 S3.out.wr (HKA.out.keep S3.out.kp.below) (by first | (have := HFN.out; simpa using this) | simp) HFL.out hd1 (by have := HLEN.out; (try simp only [List.length_append, List.length_cons, List.length_nil] at this ⊢); omega))
    try simp only [List.length] at HC
    obtain ⟨c0, c1, c2, c3, c4, c5⟩ := S3.out.cells
    have hszN := S3.out.lt
    go_wp2_with fail
    try clear c0 c1 c2 c3 c4 c5
    try clear hszN
    refine (HC.out).mono ?_
    rintro e w4 ⟨rfl, hW4, hK4⟩
    have S4 := Lib.hid (S3.out.call hW4 hK4)
    clear S3 hW4 hK4 HC
    obtain ⟨c0, c1, c2, c3, c4, c5⟩ := S4.out.cells
    have hszN := S4.out.lt
    go_wp2_with fail
    try clear c0 c1 c2 c3 c4 c5
    try clear hszN
    have H := put_lit (S := w4.heap.size) [[59]] S4.out.wr (by simp) (by simp) (by have := HLEN.out; (try simp only [List.length_append, List.length_cons, List.length_nil] at this ⊢); omega)
    simp only [strVs, List.map, List.length] at H
    refine H.mono ?_
    clear H
    rintro e w5 ⟨rfl, hW5, hK5⟩
    have S5 := Lib.hid (S4.out.call hW5 hK5)
    clear S4 hW5 hK5 
    go_wp2
    first | go_end0 | refine bodyPost_ret (v := .tuple #[]) (by simp [results, Tryz.results101, go_sem]) rfl ?_
    exact ⟨rfl, by simpa [List.append_assoc, kProgram, kGlobal, kFunc, kParam, kType, kNum, kBlock, kLocal, kIf, kElse, kWhile, kReturn, kAssert, kAssume, kAssign, kNondet, kResult, kCall, kName, kIndex, kBinary, kUnary, kCast, kTrue, kFalse, kVoid] using S5.out.wr, S5.out.kp⟩
  case false =>
  simp only [hq4, Bool.false_or, Bool.or_false, Bool.false_eq_true, if_false, reduceIte] at he
  cases hq5 : (k == [97, 115, 115, 101, 114, 116])
  case true =>
    simp only [hq5, Bool.true_or, Bool.or_true, Bool.true_and, if_true, reduceIte] at he
    obtain rfl : k = [97, 115, 115, 101, 114, 116] := by simpa using hq5
    clear hq5
    rcases ks with _ | ⟨a0, _ | ⟨b, r⟩⟩
    · simp at he
    rotate_left
    · simp at he
    simp only at he
    obtain ⟨hbare, he1⟩ := ifW_some he
    clear he
    obtain ⟨wsA, wrA, hA, hS, hxA⟩ := catW_some he1
    subst hxA
    clear he1
    injection hS with hS
    subst hS
    obtain ⟨ws1, wr1, hc1, hd1, hx1⟩ := catW_some hA
    subst hx1
    clear hA
    injection hc1 with hc1
    subst hc1
    obtain ⟨ws2, wr2, hc2, hd2, hx2⟩ := catW_some hd1
    subst hx2
    clear hd1
    injection hd2 with hd2
    subst hd2
    obtain ⟨g0, vc, hv, hR⟩ := hL.row (by simp [Tree.kids])
    have HR := Lib.hid hR
    clear hR
    simp only [Tree.kind, Tree.text, Tree.num, Tree.line, Tree.col, Tree.kids, List.length] at hv
    subst hv
    have S0 := Lib.hid (Sw.start hW hL)
    have HF := Lib.hid hF
    have HFL := Lib.hid hFL
    have HLEN := Lib.hid hlen
    have hBw := hW.lt
    have HFX := Lib.hid hFx
    have HFN := Lib.hid hFn
    clear hW hF hL hFL hlen hFk hFx hFn
    try simp only [nodeV, nodeC, Tree.kind, Tree.text, Tree.num, Tree.line, Tree.col, Tree.kids] at *

    go_enter Tryz.func101, Tryz.ntmps101
    obtain ⟨c0, c1, c2, c3, c4, c5⟩ := S0.out.cells
    have hszN := S0.out.lt
    go_wp2_with fail
    try clear c0 c1 c2 c3 c4 c5
    try clear hszN
    have HQ := bare_yes (t := (.mk [97, 115, 115, 101, 114, 116] x m ln co [a0])) (v := .slice (some ⟨g0, 0, none⟩) 1 vc) (lo := 1) (hi := 1) _ S0.out.wr.tab rfl hbare (by first | simp | omega | (have := HFN.out; (try simp only [List.length] at this ⊢); omega)) (by first | simp | omega | (have := HFN.out; (try simp only [List.length] at this ⊢); omega))
    simp only [nodeV, Tree.kind, Tree.text, Tree.num, Tree.line, Tree.col, Tree.kids] at HQ
    refine HQ.mono ?_
    clear HQ
    rintro e w3 ⟨rfl, hb3⟩
    have S3 := Lib.hid (S0.out.below hb3)
    clear S0 hb3
    obtain ⟨c0, c1, c2, c3, c4, c5⟩ := S3.out.cells
    have hszN := S3.out.lt
    go_wp2_with fail
    refine (need_yes _).mono ?_
    rintro e w' ⟨rfl, rfl⟩
    try clear c0 c1 c2 c3 c4 c5 hszN
    obtain ⟨c0, c1, c2, c3, c4, c5⟩ := S3.out.cells
    have hszN := S3.out.lt
    go_wp2_with fail
    try clear c0 c1 c2 c3 c4 c5
    try clear hszN
    have H := put_lit (S := w3.heap.size) [[97, 115, 115, 101, 114, 116], [40]] S3.out.wr (by simp) (by simp) (by have := HLEN.out; (try simp only [List.length_append, List.length_cons, List.length_nil] at this ⊢); omega)
    simp only [strVs, List.map, List.length] at H
    refine H.mono ?_
    clear H
    rintro e w4 ⟨rfl, hW4, hK4⟩
    have S4 := Lib.hid (S3.out.call hW4 hK4)
    clear S3 hW4 hK4 
    obtain ⟨qa, na, ca, hla, hca⟩ := (HR.out.keep S4.out.kp.below).2 0 (by simp)
    simp only [Nat.zero_add, Nat.zero_mul, Nat.one_mul, Nat.reduceAdd, Nat.reduceMul, List.getElem_cons_zero, List.getElem_cons_succ] at hla hca
    have k0 := hca.c0; have k1 := hca.c1; have k2 := hca.c2; have k3 := hca.c3; have k4 := hca.c4; have k5 := hca.c5
    simp only [Nat.zero_add, Nat.zero_mul, Nat.one_mul, Nat.reduceAdd, Nat.reduceMul, List.getElem_cons_zero, List.getElem_cons_succ] at k0 k1 k2 k3 k4 k5
    have HC := Lib.hid (hex lo B (acc ++ [[97, 115, 115, 101, 114, 116], [40]]) a0 (.slice qa na ca) _ ws2 S4.out.wr hla (HFL.out.mem _ (by simp)) hc2 (by have := HLEN.out; (try simp only [List.length_append, List.length_cons, List.length_nil] at this ⊢); omega))
    clear hca hla
    try simp only [nodeV] at HC
    obtain ⟨c0, c1, c2, c3, c4, c5⟩ := S4.out.cells
    have hszN := S4.out.lt
    go_wp2_with fail
    try clear c0 c1 c2 c3 c4 c5
    try clear hszN
    try clear k0 k1 k2 k3 k4 k5
    refine (HC.out).mono ?_
    rintro e w5 ⟨rfl, hW5, hK5⟩
    have S5 := Lib.hid (S4.out.call hW5 hK5)
    clear S4 hW5 hK5 HC
    obtain ⟨c0, c1, c2, c3, c4, c5⟩ := S5.out.cells
    have hszN := S5.out.lt
    go_wp2_with fail
    try clear c0 c1 c2 c3 c4 c5
    try clear hszN
    have H := put_lit (S := w5.heap.size) [[41]] S5.out.wr (by simp) (by simp) (by have := HLEN.out; (try simp only [List.length_append, List.length_cons, List.length_nil] at this ⊢); omega)
    simp only [strVs, List.map, List.length] at H
    refine H.mono ?_
    clear H
    rintro e w6 ⟨rfl, hW6, hK6⟩
    have S6 := Lib.hid (S5.out.call hW6 hK6)
    clear S5 hW6 hK6 
    obtain ⟨c0, c1, c2, c3, c4, c5⟩ := S6.out.cells
    have hszN := S6.out.lt
    go_wp2_with fail
    try clear c0 c1 c2 c3 c4 c5
    try clear hszN
    have H := put_lit (S := w6.heap.size) [[59]] S6.out.wr (by simp) (by simp) (by have := HLEN.out; (try simp only [List.length_append, List.length_cons, List.length_nil] at this ⊢); omega)
    simp only [strVs, List.map, List.length] at H
    refine H.mono ?_
    clear H
    rintro e w7 ⟨rfl, hW7, hK7⟩
    have S7 := Lib.hid (S6.out.call hW7 hK7)
    clear S6 hW7 hK7 
    go_wp2
    first | go_end0 | refine bodyPost_ret (v := .tuple #[]) (by simp [results, Tryz.results101, go_sem]) rfl ?_
    exact ⟨rfl, by simpa [List.append_assoc, kProgram, kGlobal, kFunc, kParam, kType, kNum, kBlock, kLocal, kIf, kElse, kWhile, kReturn, kAssert, kAssume, kAssign, kNondet, kResult, kCall, kName, kIndex, kBinary, kUnary, kCast, kTrue, kFalse, kVoid] using S7.out.wr, S7.out.kp⟩
  case false =>
  simp only [hq5, Bool.false_or, Bool.or_false, Bool.false_eq_true, if_false, reduceIte] at he
  cases hq6 : (k == [97, 115, 115, 117, 109, 101])
  case true =>
    simp only [hq6, Bool.true_or, Bool.or_true, Bool.true_and, if_true, reduceIte] at he
    obtain rfl : k = [97, 115, 115, 117, 109, 101] := by simpa using hq6
    clear hq6
    rcases ks with _ | ⟨a0, _ | ⟨b, r⟩⟩
    · simp at he
    rotate_left
    · simp at he
    simp only at he
    obtain ⟨hbare, he1⟩ := ifW_some he
    clear he
    obtain ⟨wsA, wrA, hA, hS, hxA⟩ := catW_some he1
    subst hxA
    clear he1
    injection hS with hS
    subst hS
    obtain ⟨ws1, wr1, hc1, hd1, hx1⟩ := catW_some hA
    subst hx1
    clear hA
    injection hc1 with hc1
    subst hc1
    obtain ⟨ws2, wr2, hc2, hd2, hx2⟩ := catW_some hd1
    subst hx2
    clear hd1
    injection hd2 with hd2
    subst hd2
    obtain ⟨g0, vc, hv, hR⟩ := hL.row (by simp [Tree.kids])
    have HR := Lib.hid hR
    clear hR
    simp only [Tree.kind, Tree.text, Tree.num, Tree.line, Tree.col, Tree.kids, List.length] at hv
    subst hv
    have S0 := Lib.hid (Sw.start hW hL)
    have HF := Lib.hid hF
    have HFL := Lib.hid hFL
    have HLEN := Lib.hid hlen
    have hBw := hW.lt
    have HFX := Lib.hid hFx
    have HFN := Lib.hid hFn
    clear hW hF hL hFL hlen hFk hFx hFn
    try simp only [nodeV, nodeC, Tree.kind, Tree.text, Tree.num, Tree.line, Tree.col, Tree.kids] at *

    go_enter Tryz.func101, Tryz.ntmps101
    obtain ⟨c0, c1, c2, c3, c4, c5⟩ := S0.out.cells
    have hszN := S0.out.lt
    go_wp2_with fail
    try clear c0 c1 c2 c3 c4 c5
    try clear hszN
    have HQ := bare_yes (t := (.mk [97, 115, 115, 117, 109, 101] x m ln co [a0])) (v := .slice (some ⟨g0, 0, none⟩) 1 vc) (lo := 1) (hi := 1) _ S0.out.wr.tab rfl hbare (by first | simp | omega | (have := HFN.out; (try simp only [List.length] at this ⊢); omega)) (by first | simp | omega | (have := HFN.out; (try simp only [List.length] at this ⊢); omega))
    simp only [nodeV, Tree.kind, Tree.text, Tree.num, Tree.line, Tree.col, Tree.kids] at HQ
    refine HQ.mono ?_
    clear HQ
    rintro e w3 ⟨rfl, hb3⟩
    have S3 := Lib.hid (S0.out.below hb3)
    clear S0 hb3
    obtain ⟨c0, c1, c2, c3, c4, c5⟩ := S3.out.cells
    have hszN := S3.out.lt
    go_wp2_with fail
    refine (need_yes _).mono ?_
    rintro e w' ⟨rfl, rfl⟩
    try clear c0 c1 c2 c3 c4 c5 hszN
    obtain ⟨c0, c1, c2, c3, c4, c5⟩ := S3.out.cells
    have hszN := S3.out.lt
    go_wp2_with fail
    try clear c0 c1 c2 c3 c4 c5
    try clear hszN
    have H := put_lit (S := w3.heap.size) [[97, 115, 115, 117, 109, 101], [40]] S3.out.wr (by simp) (by simp) (by have := HLEN.out; (try simp only [List.length_append, List.length_cons, List.length_nil] at this ⊢); omega)
    simp only [strVs, List.map, List.length] at H
    refine H.mono ?_
    clear H
    rintro e w4 ⟨rfl, hW4, hK4⟩
    have S4 := Lib.hid (S3.out.call hW4 hK4)
    clear S3 hW4 hK4 
    obtain ⟨qa, na, ca, hla, hca⟩ := (HR.out.keep S4.out.kp.below).2 0 (by simp)
    simp only [Nat.zero_add, Nat.zero_mul, Nat.one_mul, Nat.reduceAdd, Nat.reduceMul, List.getElem_cons_zero, List.getElem_cons_succ] at hla hca
    have k0 := hca.c0; have k1 := hca.c1; have k2 := hca.c2; have k3 := hca.c3; have k4 := hca.c4; have k5 := hca.c5
    simp only [Nat.zero_add, Nat.zero_mul, Nat.one_mul, Nat.reduceAdd, Nat.reduceMul, List.getElem_cons_zero, List.getElem_cons_succ] at k0 k1 k2 k3 k4 k5
    have HC := Lib.hid (hex lo B (acc ++ [[97, 115, 115, 117, 109, 101], [40]]) a0 (.slice qa na ca) _ ws2 S4.out.wr hla (HFL.out.mem _ (by simp)) hc2 (by have := HLEN.out; (try simp only [List.length_append, List.length_cons, List.length_nil] at this ⊢); omega))
    clear hca hla
    try simp only [nodeV] at HC
    obtain ⟨c0, c1, c2, c3, c4, c5⟩ := S4.out.cells
    have hszN := S4.out.lt
    go_wp2_with fail
    try clear c0 c1 c2 c3 c4 c5
    try clear hszN
    try clear k0 k1 k2 k3 k4 k5
    refine (HC.out).mono ?_
    rintro e w5 ⟨rfl, hW5, hK5⟩
    have S5 := Lib.hid (S4.out.call hW5 hK5)
    clear S4 hW5 hK5 HC
    obtain ⟨c0, c1, c2, c3, c4, c5⟩ := S5.out.cells
    have hszN := S5.out.lt
    go_wp2_with fail
    try clear c0 c1 c2 c3 c4 c5
    try clear hszN
    have H := put_lit (S := w5.heap.size) [[41]] S5.out.wr (by simp) (by simp) (by have := HLEN.out; (try simp only [List.length_append, List.length_cons, List.length_nil] at this ⊢); omega)
    simp only [strVs, List.map, List.length] at H
    refine H.mono ?_
    clear H
    rintro e w6 ⟨rfl, hW6, hK6⟩
    have S6 := Lib.hid (S5.out.call hW6 hK6)
    clear S5 hW6 hK6 
    obtain ⟨c0, c1, c2, c3, c4, c5⟩ := S6.out.cells
    have hszN := S6.out.lt
    go_wp2_with fail
    try clear c0 c1 c2 c3 c4 c5
    try clear hszN
    have H := put_lit (S := w6.heap.size) [[59]] S6.out.wr (by simp) (by simp) (by have := HLEN.out; (try simp only [List.length_append, List.length_cons, List.length_nil] at this ⊢); omega)
    simp only [strVs, List.map, List.length] at H
    refine H.mono ?_
    clear H
    rintro e w7 ⟨rfl, hW7, hK7⟩
    have S7 := Lib.hid (S6.out.call hW7 hK7)
    clear S6 hW7 hK7 
    go_wp2
    first | go_end0 | refine bodyPost_ret (v := .tuple #[]) (by simp [results, Tryz.results101, go_sem]) rfl ?_
    exact ⟨rfl, by simpa [List.append_assoc, kProgram, kGlobal, kFunc, kParam, kType, kNum, kBlock, kLocal, kIf, kElse, kWhile, kReturn, kAssert, kAssume, kAssign, kNondet, kResult, kCall, kName, kIndex, kBinary, kUnary, kCast, kTrue, kFalse, kVoid] using S7.out.wr, S7.out.kp⟩
  case false =>
  simp only [hq6, Bool.false_or, Bool.or_false, Bool.false_eq_true, if_false, reduceIte] at he
  obtain ⟨ws1, wr1, hc1, hd1, hx1⟩ := catW_some he
  subst hx1
  clear he
  injection hd1 with hd1
  subst hd1
  obtain ⟨q0, vc, hv, hvc, hvm⟩ := hL.shape
  simp only [Tree.kind, Tree.text, Tree.num, Tree.line, Tree.col, Tree.kids, List.length] at hv
  subst hv
  have S0 := Lib.hid (Sw.start hW hL)
  have HF := Lib.hid hF
  have HFL := Lib.hid hFL
  have HLEN := Lib.hid hlen
  have hBw := hW.lt
  have HFX := Lib.hid hFx
  have HFN := Lib.hid hFn
  clear hW hF hL hFL hlen hFk hFx hFn
  try simp only [nodeV, nodeC, Tree.kind, Tree.text, Tree.num, Tree.line, Tree.col, Tree.kids] at *

  go_enter Tryz.func101, Tryz.ntmps101
  have HC := Lib.hid ((gift_w rec hex) lo B acc (.mk k x m ln co ks) _ _ ws1 S0.out.wr S0.out.li HF.out hc1 (by have := HLEN.out; (try simp only [List.length_append, List.length_cons, List.length_nil] at this ⊢); omega))
  try simp only [nodeV, Tree.kind, Tree.text, Tree.num, Tree.line, Tree.col, Tree.kids] at HC
  obtain ⟨c0, c1, c2, c3, c4, c5⟩ := S0.out.cells
  have hszN := S0.out.lt
  go_wp2_with fail
  try clear c0 c1 c2 c3 c4 c5
  try clear hszN
  refine (HC.out).mono ?_
  rintro e w2 ⟨rfl, hW2, hK2⟩
  have S2 := Lib.hid (S0.out.call hW2 hK2)
  clear S0 hW2 hK2 HC
  obtain ⟨c0, c1, c2, c3, c4, c5⟩ := S2.out.cells
  have hszN := S2.out.lt
  go_wp2_with fail
  try clear c0 c1 c2 c3 c4 c5
  try clear hszN
  have H := put_lit (S := w2.heap.size) [[59]] S2.out.wr (by simp) (by simp) (by have := HLEN.out; (try simp only [List.length_append, List.length_cons, List.length_nil] at this ⊢); omega)
  simp only [strVs, List.map, List.length] at H
  refine H.mono ?_
  clear H
  rintro e w3 ⟨rfl, hW3, hK3⟩
  have S3 := Lib.hid (S2.out.call hW3 hK3)
  clear S2 hW3 hK3 
  go_wp2
  first | go_end0 | refine bodyPost_ret (v := .tuple #[]) (by simp [results, Tryz.results101, go_sem]) rfl ?_
  exact ⟨rfl, by simpa [List.append_assoc, kProgram, kGlobal, kFunc, kParam, kType, kNum, kBlock, kLocal, kIf, kElse, kWhile, kReturn, kAssert, kAssume, kAssign, kNondet, kResult, kCall, kName, kIndex, kBinary, kUnary, kCast, kTrue, kFalse, kVoid] using S3.out.wr, S3.out.kp⟩
end Go.Proofs.YtnalgnklgmoepaaGreatDoor
namespace Go.Proofs.YtnalgnklgmoepaaGreatDoor
open Go Go.RowKit

def ManyRel (lo B N : Nat) (acc : List (List UInt8)) (t : Tree) (v : Value) (p : Tree → Ws) (ts : List Tree) (ws : List (List UInt8)) (w : World) (i : Value) (wr : World) : Prop :=
  ∃ (k : Nat) (pre post : List (List UInt8)), k ≤ ts.length ∧ i = .int .i64 k ∧ ws = pre ++ post ∧ manyW p (ts.drop k) = some post ∧ Sw w lo B N (acc ++ pre) t v wr
theorem many_end (p : Tree → Ws) (ts : List Tree) {i : Nat} (h : i ≤ ts.length) (h' : ¬ i < ts.length) : manyW p (ts.drop i) = some [] := by
  have : i = ts.length := by omega
  rw [this, List.drop_length]; rfl
theorem many_more {p : Tree → Ws} {ts : List Tree} {i : Nat} (h : i < ts.length) {ws : List (List UInt8)} (he : manyW p (ts.drop i) = some ws) : ∃ a b, p ts[i] = some a ∧ manyW p (ts.drop (i + 1)) = some b ∧ ws = a ++ b := by
  rw [List.drop_eq_getElem_cons h] at he
  exact catW_some (show catW (p ts[i]) (manyW p (ts.drop (i + 1))) = some ws from he)

set_option maxHeartbeats 4000000 in
set_option maxRecDepth 100000 in
theorem block_w (rec : WT → Tree → Ws) (hst : WDoes 101 (fun p n => #[p, n]) (stmtW rec)) : WDoes 82 (fun p n => #[p, n]) (blockW rec) := by
  intro lo B acc t v w ws hW hL hF he hlen
  obtain ⟨k, x, m, ln, co, ks⟩ := t
  obtain ⟨hFk, hFx, hFm0, hFm1, hFn, hFL⟩ := id hF
  simp only [blockW, kProgram, kGlobal, kFunc, kParam, kType, kNum, kBlock, kLocal, kIf, kElse, kWhile, kReturn, kAssert, kAssume, kAssign, kNondet, kResult, kCall, kName, kIndex, kBinary, kUnary, kCast, kTrue, kFalse, kVoid, Tree.kind, Tree.text, Tree.num, Tree.line, Tree.col, Tree.kids] at he
  obtain ⟨hb, he1⟩ := ifW_some he
  clear he
  simp only [Bool.and_eq_true, beq_iff_eq] at hb
  obtain ⟨rfl, hbare⟩ := hb
  obtain ⟨ws1, wr1, hc1, hd1, hx1⟩ := catW_some he1
  subst hx1
  clear he1
  injection hc1 with hc1
  subst hc1
  obtain ⟨ws2, wr2, hc2, hd2, hx2⟩ := catW_some hd1
  subst hx2
  clear hd1
  injection hd2 with hd2
  subst hd2
  obtain ⟨q0, vc, hv, hvc, hvm, hka⟩ := hL.kids
  have HKA := Lib.hid hka
  clear hka
  simp only [Tree.kind, Tree.text, Tree.num, Tree.line, Tree.col, Tree.kids, List.length] at hv
  subst hv
  have S0 := Lib.hid (Sw.start hW hL)
  have HF := Lib.hid hF
  have HFL := Lib.hid hFL
  have HLEN := Lib.hid hlen
  have hBw := hW.lt
  have HFX := Lib.hid hFx
  have HFN := Lib.hid hFn
  clear hW hF hL hFL hlen hFk hFx hFn
  try simp only [nodeV, nodeC, Tree.kind, Tree.text, Tree.num, Tree.line, Tree.col, Tree.kids] at *
  have HEM := Lib.hid hc2
  clear hc2
  have hmf := makeFunc_run
  go_enter Tryz.func82, Tryz.ntmps82
  obtain ⟨c0, c1, c2, c3, c4, c5⟩ := S0.out.cells
  have hszN := S0.out.lt
  go_wp2_with fail
  try clear c0 c1 c2 c3 c4 c5
  try clear hszN
  have HQ := bare_yes (t := (.mk [98, 108, 111, 99, 107] x m ln co ks)) (v := .slice q0 ks.length vc) (lo := 0) (hi := 9223372036854775807) _ S0.out.wr.tab rfl hbare (by first | simp | omega | (have := HFN.out; (try simp only [List.length] at this ⊢); omega)) (by first | simp | omega | (have := HFN.out; (try simp only [List.length] at this ⊢); omega))
  simp only [nodeV, Tree.kind, Tree.text, Tree.num, Tree.line, Tree.col, Tree.kids] at HQ
  refine HQ.mono ?_
  clear HQ
  rintro e w3 ⟨rfl, hb3⟩
  have S3 := Lib.hid (S0.out.below hb3)
  clear S0 hb3
  obtain ⟨c0, c1, c2, c3, c4, c5⟩ := S3.out.cells
  have hszN := S3.out.lt
  go_wp2_with fail
  refine (need_yes _).mono ?_
  rintro e w' ⟨rfl, rfl⟩
  try clear c0 c1 c2 c3 c4 c5 hszN
  obtain ⟨c0, c1, c2, c3, c4, c5⟩ := S3.out.cells
  have hszN := S3.out.lt
  go_wp2_with fail
  try clear c0 c1 c2 c3 c4 c5
  try clear hszN
  have H := put_lit (S := w3.heap.size) [[123]] S3.out.wr (by simp) (by simp) (by have := HLEN.out; (try simp only [List.length_append, List.length_cons, List.length_nil] at this ⊢); omega)
  simp only [strVs, List.map, List.length] at H
  refine H.mono ?_
  clear H
  rintro e w4 ⟨rfl, hW4, hK4⟩
  have S4 := Lib.hid (S3.out.call hW4 hK4)
  clear S3 hW4 hK4 
  obtain ⟨c0, c1, c2, c3, c4, c5⟩ := S4.out.cells
  have hszN := S4.out.lt
  go_wp2_with fail
  try clear c0 c1 c2 c3 c4 c5
  try clear hszN
  go_loopw [20] (fun i wr => ManyRel lo B w.heap.size (acc ++ [[123]]) (.mk [98, 108, 111, 99, 107] x m ln co ks) (.slice q0 ks.length vc) (stmtW rec) ks ws2 w i wr) (fun i _ => ks.length - (intOf i).toNat)
  case atStart => exact ⟨0, [], ws2, Nat.zero_le _, rfl, rfl, HEM.out, by simpa using S4.out⟩
  case round =>
    have hn := HFN.out
    obtain ⟨i, pre, post, hk, rfl, hws, hpost, hS⟩ := hrel
    have HWS := Lib.hid hws
    have HPO := Lib.hid hpost
    have SR := Lib.hid hS
    clear hws hpost hS S4
    by_cases hlt : i < ks.length
    · have hne : ks ≠ [] := fun e => by rw [e] at hlt; simp at hlt
      obtain ⟨g1, off, rfl, hR⟩ := (HKA.out.keep SR.out.kp.below).resolve_left hne
      obtain ⟨qa, na, ca, hla, hca⟩ := hR.2 i hlt
      have k0 := hca.c0; have k1 := hca.c1; have k2 := hca.c2; have k3 := hca.c3; have k4 := hca.c4; have k5 := hca.c5
      have HLA := Lib.hid hla
      have hneat := Lib.hid (NeatL.mem HFL.out ks[i] (List.getElem_mem _))
      have T0 := Lib.hid (Hn.new ks[i] (.slice qa na ca) wr)
      have S1 := Lib.hid (SR.out.alloc (.cells (nodeC ks[i] (.slice qa na ca)).toArray 26))
      have hBr := SR.out.wr.lt
      have HLL := Lib.hid (HLA.out.keep (((Below.refl _ _).alloc (Nat.le_refl _) (.cells (nodeC ks[i] (.slice qa na ca)).toArray 26)).mono (Nat.le_of_lt hBr)))
      obtain ⟨a, b, ha, hb, hpe⟩ := many_more hlt HPO.out
      have HA := Lib.hid ha
      have HB := Lib.hid hb
      have HPE := Lib.hid hpe
      have hlen : (((acc ++ [[123]]) ++ pre) ++ a).length ≤ 1000000000 := by have := HLEN.out; rw [HWS.out, hpe] at this; simp only [List.length_append, List.length_cons, List.length_nil] at this ⊢; omega
      have HLEN2 := Lib.hid hlen
      clear hca hla hR hne HLA ha hb hpe hlen SR
      generalize hu : ks[i] = u at *
      simp only [nodeC, nodeV] at *
      have HC := Lib.hid (hst lo B ((acc ++ [[123]]) ++ pre) u (.slice qa na ca) _ a S1.out.wr HLL.out hneat.out HA.out (by have := HLEN2.out; simpa only [List.length_append] using this))
      try simp only [nodeV] at HC
      obtain ⟨c0, c1, c2, c3, c4, c5⟩ := S1.out.cells
      go_wp2_with fail
      clear c0 c1 c2 c3 c4 c5
      refine (HC.out).mono ?_
      rintro e w5 ⟨rfl, hW5, hK5⟩
      have S5 := Lib.hid (S1.out.call hW5 hK5)
      clear hW5 hK5 HC S1 T0 k0 k1 k2 k3 k4 k5
      go_wp2
      go_roundw
      case rel => exact ⟨i + 1, pre ++ a, b, by omega, by go_num, by rw [HWS.out, HPE.out, List.append_assoc], HB.out, by simpa [List.append_assoc] using S5.out⟩
      case measure => simp [intOf]; omega
    · have hp0 : post = [] := by have h := HPO.out; rw [many_end _ ks hk hlt] at h; injection h with h; exact h.symm
      have hws := HWS.out
      rw [hp0, List.append_nil] at hws
      subst hws
      have S2 := SR
      clear SR hp0
      obtain ⟨c0, c1, c2, c3, c4, c5⟩ := S2.out.cells
      have hszN := S2.out.lt
      go_wp2_with fail
      try clear c0 c1 c2 c3 c4 c5
      try clear hszN
      have H := put_lit (S := wr.heap.size) [[125]] S2.out.wr (by simp) (by simp) (by have := HLEN.out; (try simp only [List.length_append, List.length_cons, List.length_nil] at this ⊢); omega)
      simp only [strVs, List.map, List.length] at H
      refine H.mono ?_
      clear H
      rintro e w5 ⟨rfl, hW5, hK5⟩
      have S5 := Lib.hid (S2.out.call hW5 hK5)
      clear S2 hW5 hK5 
      go_wp2
      first | go_end0 | refine bodyPost_ret (v := .tuple #[]) (by simp [results, Tryz.results82, go_sem]) rfl ?_
      exact ⟨rfl, by simpa [List.append_assoc, kProgram, kGlobal, kFunc, kParam, kType, kNum, kBlock, kLocal, kIf, kElse, kWhile, kReturn, kAssert, kAssume, kAssign, kNondet, kResult, kCall, kName, kIndex, kBinary, kUnary, kCast, kTrue, kFalse, kVoid] using S5.out.wr, S5.out.kp⟩
end Go.Proofs.YtnalgnklgmoepaaGreatDoor
namespace Go.Proofs.YtnalgnklgmoepaaGreatDoor
open Go Go.RowKit

set_option maxHeartbeats 2000000 in
set_option maxRecDepth 100000 in
theorem param_w (hd : WDoes 78 (fun p n => #[p, n, .bool false]) (declaredW false)) : WDoes 81 (fun p n => #[p, n]) (paramW) := by
  intro lo B acc t v w ws hW hL hF he hlen
  obtain ⟨k, x, m, ln, co, ks⟩ := t
  obtain ⟨hFk, hFx, hFm0, hFm1, hFn, hFL⟩ := id hF
  simp only [paramW, kProgram, kGlobal, kFunc, kParam, kType, kNum, kBlock, kLocal, kIf, kElse, kWhile, kReturn, kAssert, kAssume, kAssign, kNondet, kResult, kCall, kName, kIndex, kBinary, kUnary, kCast, kTrue, kFalse, kVoid, Tree.kind, Tree.text, Tree.num, Tree.line, Tree.col, Tree.kids] at he
  obtain ⟨hb, he1⟩ := ifW_some he
  clear he
  simp only [Bool.and_eq_true, beq_iff_eq] at hb
  obtain ⟨⟨rfl, hnm⟩, hl⟩ := hb
  obtain ⟨a0, rfl⟩ := List.length_eq_one_iff.1 hl
  clear hl
  obtain ⟨g0, vc, hv, hR⟩ := hL.row (by simp [Tree.kids])
  have HR := Lib.hid hR
  clear hR
  simp only [Tree.kind, Tree.text, Tree.num, Tree.line, Tree.col, Tree.kids, List.length] at hv
  subst hv
  have S0 := Lib.hid (Sw.start hW hL)
  have HF := Lib.hid hF
  have HFL := Lib.hid hFL
  have HLEN := Lib.hid hlen
  have hBw := hW.lt
  have HFX := Lib.hid hFx
  have HFN := Lib.hid hFn
  clear hW hF hL hFL hlen hFk hFx hFn
  try simp only [nodeV, nodeC, Tree.kind, Tree.text, Tree.num, Tree.line, Tree.col, Tree.kids] at *

  go_enter Tryz.func81, Tryz.ntmps81
  obtain ⟨c0, c1, c2, c3, c4, c5⟩ := S0.out.cells
  have hszN := S0.out.lt
  go_wp2_with fail
  try clear c0 c1 c2 c3 c4 c5
  try clear hszN
  have HQ := named_yes (t := (.mk [112, 97, 114, 97, 109] x m ln co [a0])) (v := .slice (some ⟨g0, 0, none⟩) 1 vc) (lo := 1) (hi := 1) _ S0.out.wr.tab HFX.out rfl hnm (by first | simp | omega | (have := HFN.out; (try simp only [List.length] at this ⊢); omega)) (by first | simp | omega | (have := HFN.out; (try simp only [List.length] at this ⊢); omega))
  simp only [nodeV, Tree.kind, Tree.text, Tree.num, Tree.line, Tree.col, Tree.kids] at HQ
  refine HQ.mono ?_
  clear HQ
  rintro e w1 ⟨rfl, hb1⟩
  have S1 := Lib.hid (S0.out.below hb1)
  clear S0 hb1
  obtain ⟨c0, c1, c2, c3, c4, c5⟩ := S1.out.cells
  have hszN := S1.out.lt
  go_wp2_with fail
  refine (need_yes _).mono ?_
  rintro e w' ⟨rfl, rfl⟩
  try clear c0 c1 c2 c3 c4 c5 hszN
  have HC := Lib.hid (hd lo B acc (.mk [112, 97, 114, 97, 109] x m ln co [a0]) _ _ ws S1.out.wr S1.out.li HF.out he1 (by have := HLEN.out; (try simp only [List.length_append, List.length_cons, List.length_nil] at this ⊢); omega))
  try simp only [nodeV, Tree.kind, Tree.text, Tree.num, Tree.line, Tree.col, Tree.kids] at HC
  obtain ⟨c0, c1, c2, c3, c4, c5⟩ := S1.out.cells
  have hszN := S1.out.lt
  go_wp2_with fail
  try clear c0 c1 c2 c3 c4 c5
  try clear hszN
  refine (HC.out).mono ?_
  rintro e w2 ⟨rfl, hW2, hK2⟩
  have S2 := Lib.hid (S1.out.call hW2 hK2)
  clear S1 hW2 hK2 HC
  go_wp2
  first | go_end0 | refine bodyPost_ret (v := .tuple #[]) (by simp [results, Tryz.results81, go_sem]) rfl ?_
  exact ⟨rfl, by simpa [List.append_assoc, kProgram, kGlobal, kFunc, kParam, kType, kNum, kBlock, kLocal, kIf, kElse, kWhile, kReturn, kAssert, kAssume, kAssign, kNondet, kResult, kCall, kName, kIndex, kBinary, kUnary, kCast, kTrue, kFalse, kVoid] using S2.out.wr, S2.out.kp⟩
end Go.Proofs.YtnalgnklgmoepaaGreatDoor
