/- The contract of function. The contract of global. The contract of program. The writer's calls, tied. The contracts of written and Show. The contracts of Same, Deep and the document's Same. -/
import Derived.Test.YtnalgnklgmoepaaGreatDoorMbap
set_option linter.all false
namespace Go.Proofs.YtnalgnklgmoepaaGreatDoor
open Go Go.RowKit

set_option maxHeartbeats 2000000 in
set_option maxRecDepth 100000 in
theorem function_w (rec : WT → Tree → Ws) (hbl : WDoes 82 (fun p n => #[p, n]) (rec .block)) : WDoes 51 (fun p n => #[p, n]) (functionW rec) := by
  intro lo B acc t v w ws hW hL hF he hlen
  obtain ⟨k, x, m, ln, co, ks⟩ := t
  obtain ⟨hFk, hFx, hFm0, hFm1, hFn, hFL⟩ := id hF
  simp only [functionW, kProgram, kGlobal, kFunc, kParam, kType, kNum, kBlock, kLocal, kIf, kElse, kWhile, kReturn, kAssert, kAssume, kAssign, kNondet, kResult, kCall, kName, kIndex, kBinary, kUnary, kCast, kTrue, kFalse, kVoid, Tree.kind, Tree.text, Tree.num, Tree.line, Tree.col, Tree.kids] at he
  rcases ks with _ | ⟨a0, _ | ⟨a1, r⟩⟩
  · simp at he
  · simp at he
  simp only at he
  obtain ⟨hnm, he1⟩ := ifW_some he
  clear he
  obtain ⟨ws1, wr1, hc1, hd1, hx1⟩ := catW_some he1
  subst hx1
  clear he1
  obtain ⟨ws2, wr2, hc2, hd2, hx2⟩ := catW_some hd1
  subst hx2
  clear hd1
  injection hc2 with hc2
  subst hc2
  obtain ⟨ws3, wr3, hc3, hd3, hx3⟩ := catW_some hd2
  subst hx3
  clear hd2
  obtain ⟨ws4, wr4, hc4, hd4, hx4⟩ := catW_some hd3
  subst hx4
  clear hd3
  injection hc4 with hc4
  subst hc4
  have hsh := hL.shape
  obtain ⟨g0, vc, hv, hR⟩ := hL.row (by simp [Tree.kids])
  have HR := Lib.hid hR
  clear hR
  simp only [Tree.kind, Tree.text, Tree.num, Tree.line, Tree.col, Tree.kids, List.length] at hv
  subst hv
  have S0 := Lib.hid (Sw.start hW hL)
  have HF := Lib.hid hF
  have HFL := Lib.hid hFL
  have HLEN := Lib.hid hlen
  have hBw := hW.lt
  have HFX := Lib.hid hFx
  have HFN := Lib.hid hFn
  clear hW hF hL hFL hlen hFk hFx hFn
  try simp only [nodeV, nodeC, Tree.kind, Tree.text, Tree.num, Tree.line, Tree.col, Tree.kids] at *
  have hmf := makeFunc_run
  obtain ⟨q9, c9, e9, hvc9, hvm9⟩ := hsh
  injection e9 with e91 e92 e93
  subst e93
  simp only [List.length] at hvc9
  clear e91 e92
  have hn := HFN.out
  simp only [List.length] at hn
  have hw1 : wrap64 ((r.length : Int) + 1) = (r.length : Int) + 1 := by unfold wrap64; omega
  have hi1 : (1 : Int) ≤ (r.length : Int) + 1 := by omega
  have hi2 : (r.length : Int) + 1 ≤ (vc : Int) := by omega
  have hi3 : (1 : Int) ≤ (vc : Int) := by omega
  have hi4 : ¬ (r.length : Int) + 1 < 0 := by omega
  have hi5 : (r.length : Int) + 1 < (r.length : Int) + 1 + 1 := by omega
  go_enter Tryz.func51, Tryz.ntmps51
  obtain ⟨c0, c1, c2, c3, c4, c5⟩ := S0.out.cells
  have hszN := S0.out.lt
  go_wp2_with fail
  try clear c0 c1 c2 c3 c4 c5
  try clear hszN
  have HQ := named_yes (t := (.mk k x m ln co (a0 :: a1 :: r))) (v := .slice (some ⟨g0, 0, none⟩) (r.length + 1 + 1) vc) (lo := 2) (hi := 9223372036854775807) _ S0.out.wr.tab HFX.out rfl hnm (by first | (simp; done) | omega | (have := HFN.out; (try simp only [List.length] at this ⊢); omega)) (by first | (simp; done) | omega | (have := HFN.out; (try simp only [List.length] at this ⊢); omega))
  simp only [nodeV, Tree.kind, Tree.text, Tree.num, Tree.line, Tree.col, Tree.kids] at HQ
  refine HQ.mono ?_
  clear HQ
  rintro e w5 ⟨rfl, hb5⟩
  have S5 := Lib.hid (S0.out.below hb5)
  clear S0 hb5
  obtain ⟨c0, c1, c2, c3, c4, c5⟩ := S5.out.cells
  have hszN := S5.out.lt
  go_wp2_with fail
  refine (need_yes _).mono ?_
  rintro e w' ⟨rfl, rfl⟩
  try clear c0 c1 c2 c3 c4 c5 hszN
  have HC := Lib.hid ((declared_w true) lo B acc (.mk k x m ln co (a0 :: a1 :: r)) _ _ ws1 S5.out.wr S5.out.li HF.out hc1 (by have := HLEN.out; (try simp only [List.length_append, List.length_cons, List.length_nil] at this ⊢); omega))
  try simp only [nodeV, Tree.kind, Tree.text, Tree.num, Tree.line, Tree.col, Tree.kids] at HC
  obtain ⟨c0, c1, c2, c3, c4, c5⟩ := S5.out.cells
  have hszN := S5.out.lt
  go_wp2_with fail
  try clear c0 c1 c2 c3 c4 c5
  try clear hszN
  refine (HC.out).mono ?_
  rintro e w6 ⟨rfl, hW6, hK6⟩
  have S6 := Lib.hid (S5.out.call hW6 hK6)
  clear S5 hW6 hK6 HC
  obtain ⟨c0, c1, c2, c3, c4, c5⟩ := S6.out.cells
  have hszN := S6.out.lt
  go_wp2_with fail
  try clear c0 c1 c2 c3 c4 c5
  try clear hszN
  have H := put_lit (S := w6.heap.size) [[40]] S6.out.wr (by simp) (by simp) (by have := HLEN.out; (try simp only [List.length_append, List.length_cons, List.length_nil] at this ⊢); omega)
  simp only [strVs, List.map, List.length] at H
  refine H.mono ?_
  clear H
  rintro e w7 ⟨rfl, hW7, hK7⟩
  have S7 := Lib.hid (S6.out.call hW7 hK7)
  clear S6 hW7 hK7 
  have hdl : ((a1 :: r).dropLast).length = r.length := by simp
  have hsub : ∀ i (hi : i < ((a1 :: r).dropLast).length), ∃ h : 1 + i < (a0 :: a1 :: r).length, (a0 :: a1 :: r)[1 + i] = ((a1 :: r).dropLast)[i] := fun i hi => ⟨by rw [hdl] at hi; simp; omega, by rw [List.getElem_dropLast]; simp [Nat.add_comm 1 i]⟩
  have HC := commas_w 81 paramW (fun _ _ => rfl) (param_w (declared_w false)) lo B ((acc ++ ws1) ++ [[40]]) ((a1 :: r).dropLast) (some ⟨g0, 6, none⟩) (vc - 1) _ ws3 S7.out.wr (.inr ⟨g0, 6, rfl, (HR.out.keep S7.out.kp.below).sub _ 1 hsub⟩) (by rw [hdl]; omega) (NeatL.of fun t ht => NeatL.mem HFL.out t (List.mem_cons_of_mem _ (List.dropLast_subset _ ht))) hc3 (by have := HLEN.out; (try simp only [List.length_append, List.length_cons, List.length_nil] at this ⊢); omega)
  rw [hdl] at HC
  have HC := Lib.hid HC
  clear hdl hsub
  obtain ⟨c0, c1, c2, c3, c4, c5⟩ := S7.out.cells
  have hszN := S7.out.lt
  go_wp2_with fail
  try clear c0 c1 c2 c3 c4 c5
  try clear hszN
  refine (HC.out).mono ?_
  rintro e w8 ⟨rfl, hW8, hK8⟩
  have S8 := Lib.hid (S7.out.call hW8 hK8)
  clear S7 hW8 hK8 HC
  obtain ⟨c0, c1, c2, c3, c4, c5⟩ := S8.out.cells
  have hszN := S8.out.lt
  go_wp2_with fail
  try clear c0 c1 c2 c3 c4 c5
  try clear hszN
  have H := put_lit (S := w8.heap.size) [[41]] S8.out.wr (by simp) (by simp) (by have := HLEN.out; (try simp only [List.length_append, List.length_cons, List.length_nil] at this ⊢); omega)
  simp only [strVs, List.map, List.length] at H
  refine H.mono ?_
  clear H
  rintro e w9 ⟨rfl, hW9, hK9⟩
  have S9 := Lib.hid (S8.out.call hW9 hK9)
  clear S8 hW9 hK9 
  obtain ⟨qa, na, ca, hla, hca⟩ := (HR.out.keep S9.out.kp.below).2 (r.length + 1) (by simp)
  have hgl : (a0 :: a1 :: r)[r.length + 1]'(by simp) = (a1 :: r).getLast (List.cons_ne_nil a1 r) := by rw [List.getLast_eq_getElem]; simp
  rw [hgl] at hla hca
  have hng : Neat ((a1 :: r).getLast (List.cons_ne_nil a1 r)) := NeatL.mem HFL.out _ (List.mem_cons_of_mem _ (List.getLast_mem _))
  generalize (a1 :: r).getLast (List.cons_ne_nil a1 r) = y at *
  have k0 := hca.c0; have k1 := hca.c1; have k2 := hca.c2; have k3 := hca.c3; have k4 := hca.c4; have k5 := hca.c5
  simp only [Nat.zero_add] at k0 k1 k2 k3 k4 k5
  have HC := Lib.hid (hbl lo B ((((acc ++ ws1) ++ [[40]]) ++ ws3) ++ [[41]]) y (.slice qa na ca) _ wr4 S9.out.wr hla hng hd4 (by have := HLEN.out; (try simp only [List.length_append, List.length_cons, List.length_nil] at this ⊢); omega))
  clear hca hla
  try simp only [nodeV] at HC
  obtain ⟨c0, c1, c2, c3, c4, c5⟩ := S9.out.cells
  have hszN := S9.out.lt
  go_wp2_with fail
  try clear c0 c1 c2 c3 c4 c5
  try clear hszN
  try clear k0 k1 k2 k3 k4 k5
  refine (HC.out).mono ?_
  rintro e w10 ⟨rfl, hW10, hK10⟩
  have S10 := Lib.hid (S9.out.call hW10 hK10)
  clear S9 hW10 hK10 HC
  go_wp2
  first | go_end0 | refine bodyPost_ret (v := .tuple #[]) (by simp [results, Tryz.results51, go_sem]) rfl ?_
  exact ⟨rfl, by simpa [List.append_assoc, kProgram, kGlobal, kFunc, kParam, kType, kNum, kBlock, kLocal, kIf, kElse, kWhile, kReturn, kAssert, kAssume, kAssign, kNondet, kResult, kCall, kName, kIndex, kBinary, kUnary, kCast, kTrue, kFalse, kVoid] using S10.out.wr, S10.out.kp⟩
end Go.Proofs.YtnalgnklgmoepaaGreatDoor
namespace Go.Proofs.YtnalgnklgmoepaaGreatDoor
open Go Go.RowKit

set_option maxHeartbeats 2000000 in
set_option maxRecDepth 100000 in
theorem global_w  : WDoes 52 (fun p n => #[p, n]) (globalW) := by
  intro lo B acc t v w ws hW hL hF he hlen
  obtain ⟨k, x, m, ln, co, ks⟩ := t
  obtain ⟨hFk, hFx, hFm0, hFm1, hFn, hFL⟩ := id hF
  unfold globalW semiW at he
  simp only [kProgram, kGlobal, kFunc, kParam, kType, kNum, kBlock, kLocal, kIf, kElse, kWhile, kReturn, kAssert, kAssume, kAssign, kNondet, kResult, kCall, kName, kIndex, kBinary, kUnary, kCast, kTrue, kFalse, kVoid, Tree.kind, Tree.text, Tree.num, Tree.line, Tree.col, Tree.kids] at he
  obtain ⟨hb, he1⟩ := ifW_some he
  clear he
  simp only [Bool.and_eq_true, beq_iff_eq] at hb
  obtain ⟨rfl, hnm⟩ := hb
  rcases ks with _ | ⟨a0, _ | ⟨a1, _ | ⟨b, r⟩⟩⟩
  · simp at he1
  rotate_right
  · simp at he1
  · simp only at he1
    obtain ⟨ws1, wr1, hc1, hd1, hx1⟩ := catW_some he1
    subst hx1
    clear he1
    injection hd1 with hd1
    subst hd1
    obtain ⟨g0, vc, hv, hR⟩ := hL.row (by simp [Tree.kids])
    have HR := Lib.hid hR
    clear hR
    simp only [Tree.kind, Tree.text, Tree.num, Tree.line, Tree.col, Tree.kids, List.length] at hv
    subst hv
    have S0 := Lib.hid (Sw.start hW hL)
    have HF := Lib.hid hF
    have HFL := Lib.hid hFL
    have HLEN := Lib.hid hlen
    have hBw := hW.lt
    have HFX := Lib.hid hFx
    have HFN := Lib.hid hFn
    clear hW hF hL hFL hlen hFk hFx hFn
    try simp only [nodeV, nodeC, Tree.kind, Tree.text, Tree.num, Tree.line, Tree.col, Tree.kids] at *

    go_enter Tryz.func52, Tryz.ntmps52
    obtain ⟨c0, c1, c2, c3, c4, c5⟩ := S0.out.cells
    have hszN := S0.out.lt
    go_wp2_with fail
    try clear c0 c1 c2 c3 c4 c5
    try clear hszN
    have HQ := named_yes (t := (.mk [103, 108, 111, 98, 97, 108] x m ln co [a0])) (v := .slice (some ⟨g0, 0, none⟩) 1 vc) (lo := 1) (hi := 2) _ S0.out.wr.tab HFX.out rfl hnm (by first | simp | omega | (have := HFN.out; (try simp only [List.length] at this ⊢); omega)) (by first | simp | omega | (have := HFN.out; (try simp only [List.length] at this ⊢); omega))
    simp only [nodeV, Tree.kind, Tree.text, Tree.num, Tree.line, Tree.col, Tree.kids] at HQ
    refine HQ.mono ?_
    clear HQ
    rintro e w2 ⟨rfl, hb2⟩
    have S2 := Lib.hid (S0.out.below hb2)
    clear S0 hb2
    obtain ⟨c0, c1, c2, c3, c4, c5⟩ := S2.out.cells
    have hszN := S2.out.lt
    go_wp2_with fail
    refine (need_yes _).mono ?_
    rintro e w' ⟨rfl, rfl⟩
    try clear c0 c1 c2 c3 c4 c5 hszN
    have HC := Lib.hid ((declared_w false) lo B acc (.mk [103, 108, 111, 98, 97, 108] x m ln co [a0]) _ _ ws1 S2.out.wr S2.out.li HF.out hc1 (by have := HLEN.out; (try simp only [List.length_append, List.length_cons, List.length_nil] at this ⊢); omega))
    try simp only [nodeV, Tree.kind, Tree.text, Tree.num, Tree.line, Tree.col, Tree.kids] at HC
    obtain ⟨c0, c1, c2, c3, c4, c5⟩ := S2.out.cells
    have hszN := S2.out.lt
    go_wp2_with fail
    try clear c0 c1 c2 c3 c4 c5
    try clear hszN
    refine (HC.out).mono ?_
    rintro e w3 ⟨rfl, hW3, hK3⟩
    have S3 := Lib.hid (S2.out.call hW3 hK3)
    clear S2 hW3 hK3 HC
    obtain ⟨c0, c1, c2, c3, c4, c5⟩ := S3.out.cells
    have hszN := S3.out.lt
    go_wp2_with fail
    try clear c0 c1 c2 c3 c4 c5
    try clear hszN
    have H := put_lit (S := w3.heap.size) [[59]] S3.out.wr (by simp) (by simp) (by have := HLEN.out; (try simp only [List.length_append, List.length_cons, List.length_nil] at this ⊢); omega)
    simp only [strVs, List.map, List.length] at H
    refine H.mono ?_
    clear H
    rintro e w4 ⟨rfl, hW4, hK4⟩
    have S4 := Lib.hid (S3.out.call hW4 hK4)
    clear S3 hW4 hK4 
    go_wp2
    first | go_end0 | refine bodyPost_ret (v := .tuple #[]) (by simp [results, Tryz.results52, go_sem]) rfl ?_
    exact ⟨rfl, by simpa [List.append_assoc, kProgram, kGlobal, kFunc, kParam, kType, kNum, kBlock, kLocal, kIf, kElse, kWhile, kReturn, kAssert, kAssume, kAssign, kNondet, kResult, kCall, kName, kIndex, kBinary, kUnary, kCast, kTrue, kFalse, kVoid] using S4.out.wr, S4.out.kp⟩
  · simp only at he1
    obtain ⟨wsA, wrA, hA, hS, hxA⟩ := catW_some he1
    subst hxA
    clear he1
    injection hS with hS
    subst hS
    obtain ⟨ws1, wr1, hc1, hd1, hx1⟩ := catW_some hA
    subst hx1
    clear hA
    obtain ⟨ws2, wr2, hc2, hd2, hx2⟩ := catW_some hd1
    subst hx2
    clear hd1
    injection hc2 with hc2
    subst hc2
    obtain ⟨ws3, wr3, hc3, hd3, hx3⟩ := catW_some hd2
    subst hx3
    clear hd2
    injection hd3 with hd3
    subst hd3
    obtain ⟨g0, vc, hv, hR⟩ := hL.row (by simp [Tree.kids])
    have HR := Lib.hid hR
    clear hR
    simp only [Tree.kind, Tree.text, Tree.num, Tree.line, Tree.col, Tree.kids, List.length] at hv
    subst hv
    have S0 := Lib.hid (Sw.start hW hL)
    have HF := Lib.hid hF
    have HFL := Lib.hid hFL
    have HLEN := Lib.hid hlen
    have hBw := hW.lt
    have HFX := Lib.hid hFx
    have HFN := Lib.hid hFn
    clear hW hF hL hFL hlen hFk hFx hFn
    try simp only [nodeV, nodeC, Tree.kind, Tree.text, Tree.num, Tree.line, Tree.col, Tree.kids] at *

    go_enter Tryz.func52, Tryz.ntmps52
    obtain ⟨c0, c1, c2, c3, c4, c5⟩ := S0.out.cells
    have hszN := S0.out.lt
    go_wp2_with fail
    try clear c0 c1 c2 c3 c4 c5
    try clear hszN
    have HQ := named_yes (t := (.mk [103, 108, 111, 98, 97, 108] x m ln co [a0, a1])) (v := .slice (some ⟨g0, 0, none⟩) 2 vc) (lo := 1) (hi := 2) _ S0.out.wr.tab HFX.out rfl hnm (by first | simp | omega | (have := HFN.out; (try simp only [List.length] at this ⊢); omega)) (by first | simp | omega | (have := HFN.out; (try simp only [List.length] at this ⊢); omega))
    simp only [nodeV, Tree.kind, Tree.text, Tree.num, Tree.line, Tree.col, Tree.kids] at HQ
    refine HQ.mono ?_
    clear HQ
    rintro e w4 ⟨rfl, hb4⟩
    have S4 := Lib.hid (S0.out.below hb4)
    clear S0 hb4
    obtain ⟨c0, c1, c2, c3, c4, c5⟩ := S4.out.cells
    have hszN := S4.out.lt
    go_wp2_with fail
    refine (need_yes _).mono ?_
    rintro e w' ⟨rfl, rfl⟩
    try clear c0 c1 c2 c3 c4 c5 hszN
    have HC := Lib.hid ((declared_w false) lo B acc (.mk [103, 108, 111, 98, 97, 108] x m ln co [a0, a1]) _ _ ws1 S4.out.wr S4.out.li HF.out hc1 (by have := HLEN.out; (try simp only [List.length_append, List.length_cons, List.length_nil] at this ⊢); omega))
    try simp only [nodeV, Tree.kind, Tree.text, Tree.num, Tree.line, Tree.col, Tree.kids] at HC
    obtain ⟨c0, c1, c2, c3, c4, c5⟩ := S4.out.cells
    have hszN := S4.out.lt
    go_wp2_with fail
    try clear c0 c1 c2 c3 c4 c5
    try clear hszN
    refine (HC.out).mono ?_
    rintro e w5 ⟨rfl, hW5, hK5⟩
    have S5 := Lib.hid (S4.out.call hW5 hK5)
    clear S4 hW5 hK5 HC
    obtain ⟨c0, c1, c2, c3, c4, c5⟩ := S5.out.cells
    have hszN := S5.out.lt
    go_wp2_with fail
    try clear c0 c1 c2 c3 c4 c5
    try clear hszN
    have H := put_lit (S := w5.heap.size) [[91]] S5.out.wr (by simp) (by simp) (by have := HLEN.out; (try simp only [List.length_append, List.length_cons, List.length_nil] at this ⊢); omega)
    simp only [strVs, List.map, List.length] at H
    refine H.mono ?_
    clear H
    rintro e w6 ⟨rfl, hW6, hK6⟩
    have S6 := Lib.hid (S5.out.call hW6 hK6)
    clear S5 hW6 hK6 
    obtain ⟨qa, na, ca, hla, hca⟩ := (HR.out.keep S6.out.kp.below).2 1 (by simp)
    simp only [Nat.zero_add, Nat.zero_mul, Nat.one_mul, Nat.reduceAdd, Nat.reduceMul, List.getElem_cons_zero, List.getElem_cons_succ] at hla hca
    have k0 := hca.c0; have k1 := hca.c1; have k2 := hca.c2; have k3 := hca.c3; have k4 := hca.c4; have k5 := hca.c5
    simp only [Nat.zero_add, Nat.zero_mul, Nat.one_mul, Nat.reduceAdd, Nat.reduceMul, List.getElem_cons_zero, List.getElem_cons_succ] at k0 k1 k2 k3 k4 k5
    have HC := Lib.hid (number_w lo B ((acc ++ ws1) ++ [[91]]) a1 (.slice qa na ca) _ ws3 S6.out.wr hla (HFL.out.mem _ (by simp)) hc3 (by have := HLEN.out; (try simp only [List.length_append, List.length_cons, List.length_nil] at this ⊢); omega))
    clear hca hla
    try simp only [nodeV] at HC
    obtain ⟨c0, c1, c2, c3, c4, c5⟩ := S6.out.cells
    have hszN := S6.out.lt
    go_wp2_with fail
    try clear c0 c1 c2 c3 c4 c5
    try clear hszN
    try clear k0 k1 k2 k3 k4 k5
    refine (HC.out).mono ?_
    rintro e w7 ⟨rfl, hW7, hK7⟩
    have S7 := Lib.hid (S6.out.call hW7 hK7)
    clear S6 hW7 hK7 HC
    obtain ⟨c0, c1, c2, c3, c4, c5⟩ := S7.out.cells
    have hszN := S7.out.lt
    go_wp2_with fail
    try clear c0 c1 c2 c3 c4 c5
    try clear hszN
    have H := put_lit (S := w7.heap.size) [[93]] S7.out.wr (by simp) (by simp) (by have := HLEN.out; (try simp only [List.length_append, List.length_cons, List.length_nil] at this ⊢); omega)
    simp only [strVs, List.map, List.length] at H
    refine H.mono ?_
    clear H
    rintro e w8 ⟨rfl, hW8, hK8⟩
    have S8 := Lib.hid (S7.out.call hW8 hK8)
    clear S7 hW8 hK8 
    obtain ⟨c0, c1, c2, c3, c4, c5⟩ := S8.out.cells
    have hszN := S8.out.lt
    go_wp2_with fail
    try clear c0 c1 c2 c3 c4 c5
    try clear hszN
    have H := put_lit (S := w8.heap.size) [[59]] S8.out.wr (by simp) (by simp) (by have := HLEN.out; (try simp only [List.length_append, List.length_cons, List.length_nil] at this ⊢); omega)
    simp only [strVs, List.map, List.length] at H
    refine H.mono ?_
    clear H
    rintro e w9 ⟨rfl, hW9, hK9⟩
    have S9 := Lib.hid (S8.out.call hW9 hK9)
    clear S8 hW9 hK9 
    go_wp2
    first | go_end0 | refine bodyPost_ret (v := .tuple #[]) (by simp [results, Tryz.results52, go_sem]) rfl ?_
    exact ⟨rfl, by simpa [List.append_assoc, kProgram, kGlobal, kFunc, kParam, kType, kNum, kBlock, kLocal, kIf, kElse, kWhile, kReturn, kAssert, kAssume, kAssign, kNondet, kResult, kCall, kName, kIndex, kBinary, kUnary, kCast, kTrue, kFalse, kVoid] using S9.out.wr, S9.out.kp⟩
end Go.Proofs.YtnalgnklgmoepaaGreatDoor
namespace Go.Proofs.YtnalgnklgmoepaaGreatDoor
open Go Go.RowKit

set_option maxHeartbeats 4000000 in
set_option maxRecDepth 100000 in
theorem program_w (n : Nat) (hfn : WDoes 51 (fun p n => #[p, n]) (functionW (runW n))) : WDoes 33 (fun p n => #[p, n]) (programW n) := by
  intro lo B acc t v w ws hW hL hF he hlen
  obtain ⟨k, x, m, ln, co, ks⟩ := t
  obtain ⟨hFk, hFx, hFm0, hFm1, hFn, hFL⟩ := id hF
  simp only [programW, kProgram, kGlobal, kFunc, kParam, kType, kNum, kBlock, kLocal, kIf, kElse, kWhile, kReturn, kAssert, kAssume, kAssign, kNondet, kResult, kCall, kName, kIndex, kBinary, kUnary, kCast, kTrue, kFalse, kVoid, Tree.kind, Tree.text, Tree.num, Tree.line, Tree.col, Tree.kids] at he
  obtain ⟨hb, hm⟩ := ifW_some he
  clear he
  simp only [Bool.and_eq_true, beq_iff_eq] at hb
  obtain ⟨rfl, hbare⟩ := hb
  obtain ⟨q0, vc, hv, hvc, hvm, hka⟩ := hL.kids
  have HKA := Lib.hid hka
  clear hka
  simp only [Tree.kind, Tree.text, Tree.num, Tree.line, Tree.col, Tree.kids, List.length] at hv
  subst hv
  have S0 := Lib.hid (Sw.start hW hL)
  have HF := Lib.hid hF
  have HFL := Lib.hid hFL
  have HLEN := Lib.hid hlen
  have hBw := hW.lt
  have HFX := Lib.hid hFx
  have HFN := Lib.hid hFn
  clear hW hF hL hFL hlen hFk hFx hFn
  try simp only [nodeV, nodeC, Tree.kind, Tree.text, Tree.num, Tree.line, Tree.col, Tree.kids] at *
  have HEM := Lib.hid hm
  clear hm
  have hmf := makeFunc_run
  go_enter Tryz.func33, Tryz.ntmps33
  obtain ⟨c0, c1, c2, c3, c4, c5⟩ := S0.out.cells
  have hszN := S0.out.lt
  go_wp2_with fail
  try clear c0 c1 c2 c3 c4 c5
  try clear hszN
  have HQ := bare_yes (t := (.mk [112, 114, 111, 103, 114, 97, 109] x m ln co ks)) (v := .slice q0 ks.length vc) (lo := 0) (hi := 9223372036854775807) _ S0.out.wr.tab rfl hbare (by first | (simp; done) | omega | (have := HFN.out; (try simp only [List.length] at this ⊢); omega)) (by first | (simp; done) | omega | (have := HFN.out; (try simp only [List.length] at this ⊢); omega))
  simp only [nodeV, Tree.kind, Tree.text, Tree.num, Tree.line, Tree.col, Tree.kids] at HQ
  refine HQ.mono ?_
  clear HQ
  rintro e w1 ⟨rfl, hb1⟩
  have S1 := Lib.hid (S0.out.below hb1)
  clear S0 hb1
  obtain ⟨c0, c1, c2, c3, c4, c5⟩ := S1.out.cells
  have hszN := S1.out.lt
  go_wp2_with fail
  refine (need_yes _).mono ?_
  rintro e w' ⟨rfl, rfl⟩
  try clear c0 c1 c2 c3 c4 c5 hszN
  obtain ⟨c0, c1, c2, c3, c4, c5⟩ := S1.out.cells
  have hszN := S1.out.lt
  go_wp2_with fail
  try clear c0 c1 c2 c3 c4 c5
  try clear hszN
  go_loopw [17] (fun i wr => ManyRel lo B w.heap.size acc (.mk [112, 114, 111, 103, 114, 97, 109] x m ln co ks) (.slice q0 ks.length vc) (fun k => if k.kind == [102, 117, 110, 99] then functionW (runW n) k else globalW k) ks ws w i wr) (fun i _ => ks.length - (intOf i).toNat)
  case atStart => exact ⟨0, [], ws, Nat.zero_le _, rfl, rfl, HEM.out, by simpa using S1.out⟩
  case round =>
    have hn := HFN.out
    obtain ⟨i, pre, post, hk, rfl, hws, hpost, hS⟩ := hrel
    have HWS := Lib.hid hws
    have HPO := Lib.hid hpost
    have SR := Lib.hid hS
    clear hws hpost hS S1
    by_cases hlt : i < ks.length
    · have hne : ks ≠ [] := fun e => by rw [e] at hlt; simp at hlt
      obtain ⟨g1, off, rfl, hR⟩ := (HKA.out.keep SR.out.kp.below).resolve_left hne
      obtain ⟨qa, na, ca, hla, hca⟩ := hR.2 i hlt
      have k0 := hca.c0; have k1 := hca.c1; have k2 := hca.c2; have k3 := hca.c3; have k4 := hca.c4; have k5 := hca.c5
      have HLA := Lib.hid hla
      have hneat := Lib.hid (NeatL.mem HFL.out ks[i] (List.getElem_mem _))
      have T0 := Lib.hid (Hn.new ks[i] (.slice qa na ca) wr)
      have S1 := Lib.hid (SR.out.alloc (.cells (nodeC ks[i] (.slice qa na ca)).toArray 26))
      have hBr := SR.out.wr.lt
      have HLL := Lib.hid (HLA.out.keep (((Below.refl _ _).alloc (Nat.le_refl _) (.cells (nodeC ks[i] (.slice qa na ca)).toArray 26)).mono (Nat.le_of_lt hBr)))
      obtain ⟨a, b, ha, hb, hpe⟩ := many_more hlt HPO.out
      have HA := Lib.hid ha
      have HB := Lib.hid hb
      have HPE := Lib.hid hpe
      have hlen : ((acc ++ pre) ++ a).length ≤ 1000000000 := by have := HLEN.out; rw [HWS.out, hpe] at this; simp only [List.length_append, List.length_cons, List.length_nil] at this ⊢; omega
      have HLEN2 := Lib.hid hlen
      clear hca hla hR hne HLA ha hb hpe hlen SR
      generalize hu : ks[i] = u at *
      simp only [nodeC, nodeV] at *
      cases hkf : (u.kind == [102, 117, 110, 99])
      case false =>
        have ha := HA.out
        simp only [hkf, Bool.false_eq_true, if_false, if_true, reduceIte] at ha
        have HC := Lib.hid (global_w lo B (acc ++ pre) u (.slice qa na ca) _ a S1.out.wr HLL.out hneat.out ha (by have := HLEN2.out; rwa [List.length_append] at this))
        clear ha
        try simp only [nodeV] at HC
        obtain ⟨c0, c1, c2, c3, c4, c5⟩ := S1.out.cells
        go_wp2_with fail
        clear c0 c1 c2 c3 c4 c5
        refine (HC.out).mono ?_
        rintro e w5 ⟨rfl, hW5, hK5⟩
        have S5 := Lib.hid (S1.out.call hW5 hK5)
        clear hW5 hK5 HC S1 T0 k0 k1 k2 k3 k4 k5
        go_wp2
        go_roundw
        case rel => exact ⟨i + 1, pre ++ a, b, by omega, by go_num, by rw [HWS.out, HPE.out, List.append_assoc], HB.out, by simpa [List.append_assoc] using S5.out⟩
        case measure => simp [intOf]; omega
      case true =>
        have ha := HA.out
        simp only [hkf, Bool.false_eq_true, if_false, if_true, reduceIte] at ha
        have HC := Lib.hid (hfn lo B (acc ++ pre) u (.slice qa na ca) _ a S1.out.wr HLL.out hneat.out ha (by have := HLEN2.out; rwa [List.length_append] at this))
        clear ha
        try simp only [nodeV] at HC
        skip
        obtain ⟨c0, c1, c2, c3, c4, c5⟩ := S1.out.cells
        go_wp2_with fail
        clear c0 c1 c2 c3 c4 c5
        refine (HC.out).mono ?_
        rintro e w5 ⟨rfl, hW5, hK5⟩
        have S5 := Lib.hid (S1.out.call hW5 hK5)
        clear hW5 hK5 HC S1 T0 k0 k1 k2 k3 k4 k5
        go_wp2
        go_roundw
        case rel => exact ⟨i + 1, pre ++ a, b, by omega, by go_num, by rw [HWS.out, HPE.out, List.append_assoc], HB.out, by simpa [List.append_assoc] using S5.out⟩
        case measure => simp [intOf]; omega
    · have hp0 : post = [] := by have h := HPO.out; rw [many_end _ ks hk hlt] at h; injection h with h; exact h.symm
      have hws := HWS.out
      rw [hp0, List.append_nil] at hws
      subst hws
      have S2 := SR
      clear SR hp0
      go_wp2
      first | go_end0 | refine bodyPost_ret (v := .tuple #[]) (by simp [results, Tryz.results33, go_sem]) rfl ?_
      exact ⟨rfl, by simpa [List.append_assoc, kProgram, kGlobal, kFunc, kParam, kType, kNum, kBlock, kLocal, kIf, kElse, kWhile, kReturn, kAssert, kAssume, kAssign, kNondet, kResult, kCall, kName, kIndex, kBinary, kUnary, kCast, kTrue, kFalse, kVoid] using S2.out.wr, S2.out.kp⟩
end Go.Proofs.YtnalgnklgmoepaaGreatDoor
namespace Go.Proofs.YtnalgnklgmoepaaGreatDoor
open Go Go.RowKit

theorem run_w : ∀ n, WDoes 113 (fun p n => #[p, n]) (runW n .expr) ∧ WDoes 82 (fun p n => #[p, n]) (runW n .block) := by
  intro n
  induction n with
  | zero => exact ⟨fun _ _ _ _ _ _ _ _ _ _ he => by simp [runW] at he, fun _ _ _ _ _ _ _ _ _ _ he => by simp [runW] at he⟩
  | succ n ih => exact ⟨expression_w (runW n) ih.1, block_w (runW n) (statement_w (runW n) ih.1 ih.2)⟩
theorem prog_w (n : Nat) : WDoes 33 (fun p n => #[p, n]) (programW n) := program_w n (function_w (runW n) (run_w n).2)
end Go.Proofs.YtnalgnklgmoepaaGreatDoor
namespace Go.Proofs.YtnalgnklgmoepaaGreatDoor
open Go Go.RowKit

set_option maxRecDepth 100000 in
theorem wcatch_idle (p q : Addr) (w : World) :
    CallsD Tryz.prog 32 #[.pointer (some p), .pointer (some q)] .returning w fun e u' w' => e = .returned (.tuple #[]) ∧ u' = .returning ∧ w' = w := by
  refine callsD_of_wpS Tryz.func32 rfl fun c₀ cs hu => ?_
  apply wpS_seq
  apply wpS_region
  simp [wpOpsS, go_sem, recoverD, hu, Tryz.ntmps32, Exit.thenS]
  refine wpS_of_wp ?_
  change Code.wp _ _ _ { tmps := #[.pointer (some p), .pointer (some q), .nilIface, .nilIface, undef, undef, undef, undef, undef], defers := [] } w
  generalize hQ : (fun e a' w' => bodyPostS Tryz.prog Tryz.f32 c₀ cs (fun e u' w' => e = Ending.returned (.tuple #[]) ∧ u' = FrameMode.returning ∧ w' = w) e a' (c₀ :: cs) w') = Q
  go_wp2
  rw [← hQ]
  refine ⟨rfl, .returning, ?_, .tuple #[], by simp [results, Tryz.results32], rfl, rfl, rfl⟩
  cases c₀
  simp_all
/-- What Show needs of memory. -/
def Tab4 (w : World) : Prop := Tab3 w ∧ Pow w
def wrW (t : Tree) (v : Value) (w : World) : World :=
  (((w.alloc (.cells (nodeC t v).toArray 26)).alloc (.cells #[.slice none 0 0] 46)).alloc (.cells #[.int .i64 0] 27)).alloc (.cells #[.slice none 0 0] 73)
theorem wr_below (t : Tree) (v : Value) (w : World) : Below w.heap.size w (wrW t v w) :=
  ((((Below.refl _ _).alloc (Nat.le_refl _) _).alloc (by simp) _).alloc (by simp; omega) _).alloc (by simp; omega) _
theorem wr_size (t : Tree) (v : Value) (w : World) : (wrW t v w).heap.size = w.heap.size + 4 := by simp [wrW]
theorem wr_at {t : Tree} {v : Value} {w : World} (h : Tab4 w) : WAt w.heap.size (w.heap.size + 1 + 1 + 1) [] (wrW t v w) := by
  have hb := wr_below t v w
  have hp := h.2.lt
  refine ⟨⟨.slice none 0 0, ?_, World.ownsRow_nil _ _ _ _⟩, h.1.1.under hb, by omega, h.2.under hb hp, hp⟩
  have := alloc_heap (((w.alloc (.cells (nodeC t v).toArray 26)).alloc (.cells #[.slice none 0 0] 46)).alloc (.cells #[.int .i64 0] 27)) (.cells #[.slice none 0 0] 73)
  simpa [wrW] using this
def WrPost (w : World) (ws : List (List UInt8)) (e : Ending) (w' : World) : Prop :=
  ∃ v, e = .returned (.tuple #[v, .int .i64 0]) ∧ w'.ownsRow w.heap.size 9 1 v ws.length (strVs ws) ∧ Below w.heap.size w w'

set_option maxHeartbeats 4000000 in
set_option maxRecDepth 100000 in
theorem written_any (n : Nat) (t : Tree) (v : Value) (w : World) (ws : List (List UInt8)) (h4 : Tab4 w) (hL : Lies w (· < w.heap.size) t v) (hF : Neat t) (he : programW n t = some ws) (hlen : ws.length ≤ 1000000000) :
    Calls Tryz.prog 20 #[nodeV t v] w (WrPost w ws) := by
  have hb := wr_below t v w
  have hsz := wr_size t v w
  obtain ⟨q0, vc, rfl, _, _⟩ := hL.shape
  have HC := Lib.hid (prog_w n w.heap.size (w.heap.size + 1 + 1 + 1) [] t _ (wrW t _ w) ws (wr_at h4) (Lies.move (fun g hg _ => ⟨(by omega : g < w.heap.size + 1 + 1 + 1), hb.block g hg⟩) t _ hL) hF he (by simpa using hlen))
  have hmf := makeFunc_run
  have HB := Lib.hid hb
  have n0 : (wrW t (.slice q0 t.kids.length vc) w).heap[w.heap.size + 1]? = some (.cells #[.slice none 0 0] 46) := by
    have := alloc_heap (w.alloc (.cells (nodeC t (.slice q0 t.kids.length vc)).toArray 26)) (.cells #[.slice none 0 0] 46)
    rw [wrW]
    rw [Lib.alloc_old _ _ _ (by simp), Lib.alloc_old _ _ _ (by simp)]
    simpa using this
  have n1 : (wrW t (.slice q0 t.kids.length vc) w).heap[w.heap.size + 1 + 1]? = some (.cells #[.int .i64 0] 27) := by
    have := alloc_heap ((w.alloc (.cells (nodeC t (.slice q0 t.kids.length vc)).toArray 26)).alloc (.cells #[.slice none 0 0] 46)) (.cells #[.int .i64 0] 27)
    rw [wrW]
    rw [Lib.alloc_old _ _ _ (by simp)]
    simpa using this
  have HN0 := Lib.hid n0
  have HN1 := Lib.hid n1
  clear h4 hL hF he hb n0 n1
  simp only [wrW, nodeC, nodeV] at *
  go_enter_defers Tryz.func20, Tryz.ntmps20
  go_wp2_with fail
  refine (HC.out).mono ?_
  rintro e w1 ⟨rfl, hW1, hK1⟩
  obtain ⟨v1, hbk, hown⟩ := hW1.row
  have m0 := (hK1.below.block (w.heap.size + 1) (by omega)).trans HN0.out
  have m1 := (hK1.below.block (w.heap.size + 1 + 1) (by omega)).trans HN1.out
  have c0 : w1.cell? ⟨w.heap.size + 1, 0, none⟩ = some (.slice none 0 0) := by rw [Lib.cell_of_heap m0]; rfl
  have f0 : w1.frozen? ⟨w.heap.size + 1, 0, none⟩ = false := Lib.frozen_of_heap m0 0
  have c1 : w1.cell? ⟨w.heap.size + 1 + 1, 0, none⟩ = some (.int .i64 0) := by rw [Lib.cell_of_heap m1]; rfl
  have f1 : w1.frozen? ⟨w.heap.size + 1 + 1, 0, none⟩ = false := Lib.frozen_of_heap m1 0
  have c2 : w1.cell? ⟨w.heap.size + 1 + 1 + 1, 0, none⟩ = some v1 := by rw [Lib.cell_of_heap hbk]; rfl
  have hlt := hW1.lt
  have HG := Lib.hid (HB.out.trans (hK1.below.mono (by omega)))
  have HO := Lib.hid hown
  obtain ⟨ao, n', cap, rfl⟩ : ∃ ao n' cap, v1 = .slice ao n' cap := by
    rcases hown.2 with ⟨hv, _⟩ | ⟨g, cap, cur, hv, _⟩
    · exact ⟨_, _, _, hv⟩
    · exact ⟨_, _, _, hv⟩
  clear hW1 hK1 hbk hown m0 m1 HC HB HN0 HN1
  go_wp2
  refine leaves_cons (f := 32) (args := #[.pointer (some ⟨w.heap.size + 1, 0, none⟩), .pointer (some ⟨w.heap.size + 1 + 1, 0, none⟩)]) (by simp) (by simp [go_sem]) ?_
  refine (wcatch_idle ⟨w.heap.size + 1, 0, none⟩ ⟨w.heap.size + 1 + 1, 0, none⟩ _).mono ?_
  rintro e u' w2 ⟨rfl, rfl, rfl⟩
  refine ⟨.tuple #[.slice ao n' cap, .int .i64 0], by simp [results, Tryz.results20, go_sem, *], ?_⟩
  have hle : w.heap.size ≤ w.heap.size + 1 := by omega
  have hle2 : w.heap.size ≤ w.heap.size + 1 + 1 := by omega
  refine ⟨_, rfl, ?_, grown_none (grown_new (grown_new (below_grown HG.out none) hle _ _) hle2 _ _)⟩
  have hlo := HO.out.lt
  exact (owns_any (b' := w.heap.size) HO.out (fun g hg => by have := (hlo g hg).1; omega)).kept (grown_setB _ _ _ _) (by cases hv : (Value.slice ao n' cap).ownBlock with | none => exact .inl rfl | some g => exact .inr (fun e => by injection e with e; have := (hlo g hv).1; omega)) |>.kept (grown_setB _ _ _ _) (by cases hv : (Value.slice ao n' cap).ownBlock with | none => exact .inl rfl | some g => exact .inr (fun e => by injection e with e; have := (hlo g hv).1; omega))
def showS (ws : List (List UInt8)) : List UInt8 := Lib.join ws [32]
theorem bytes_back (ws : List (List UInt8)) : (ws.map fun x => (⟨x.toArray⟩ : ByteArray)).map (fun b => b.data.toList) = ws := by
  induction ws with
  | nil => rfl
  | cons x r ih => simp only [List.map_cons, ih]
theorem join_any {v : Value} {B : Nat} {ws : List (List UInt8)} {w : World} (h : w.ownsRow B 9 1 v ws.length (strVs ws)) (hn : ws.length ≤ 1000000000) (hl : (showS ws).length ≤ 140737488355328) :
    ∃ ao n cap, v = .slice ao n cap ∧ Calls Tryz.prog 21 #[v, .string ⟨#[32]⟩] w fun e w' => e = .returned (.string ⟨(showS ws).toArray⟩) ∧ Below w.heap.size w w' := by
  rcases h.2 with ⟨rfl, h0⟩ | ⟨g, cap, cur, rfl, _, hg, hc, _⟩
  · obtain rfl := List.length_eq_zero_iff.1 h0
    exact ⟨_, _, _, rfl, (Tryz.strings_Join_none none 0 ⟨#[32]⟩ w).mono fun e w' hq => ⟨hq.1, by rw [hq.2]; exact Below.refl _ _⟩⟩
  · refine ⟨_, _, _, rfl, ?_⟩
    have hcells := h.cells (g := g) rfl
    have hj := Tryz.strings_Join g 0 cap (ws.map fun x => ⟨x.toArray⟩) ⟨#[32]⟩ w (fun j x hx => by
      rw [List.getElem?_map] at hx
      obtain ⟨y, hy, rfl⟩ := Option.map_eq_some_iff.1 hx
      have := hcells j (.string ⟨y.toArray⟩) (by rw [strVs, List.getElem?_map, hy]; rfl)
      rw [Lib.add_plain] at this
      exact this) (heap_lt hg) (by rw [List.length_map]; omega) (by rw [List.length_map]; exact hc) (by rw [bytes_back]; exact hl)
    rw [List.length_map, bytes_back] at hj
    exact hj
def ShowPost (w : World) (ws : List (List UInt8)) (e : Ending) (w' : World) : Prop :=
  e = .returned (.tuple #[.string ⟨(showS ws).toArray⟩, .int .i64 0]) ∧ Below w.heap.size w w'
theorem Tab4.below {w w' : World} (h : Tab4 w) (hb : Below w.heap.size w w') : Tab4 w' := ⟨h.1.below hb, h.2.under hb h.2.lt⟩
set_option maxHeartbeats 4000000 in
set_option maxRecDepth 100000 in
/-- SHOW, of a tree that the plain writer shows. -/
theorem show_any (n : Nat) (t : Tree) (v : Value) (w : World) (ws : List (List UInt8)) (h4 : Tab4 w) (hL : Lies w (· < w.heap.size) t v) (hF : Neat t) (he : programW n t = some ws) (hlen : ws.length ≤ 1000000000) (hl : (showS ws).length ≤ 140737488355328) :
    Calls Tryz.prog 9 #[nodeV t v] w (ShowPost w ws) := by
  obtain ⟨q0, vc, rfl, _, _⟩ := hL.shape
  have ha := (Below.refl w.heap.size w).alloc (Nat.le_refl _) (.cells (nodeC t (.slice q0 t.kids.length vc)).toArray 26)
  have HC := Lib.hid (written_any n t _ (w.alloc (.cells (nodeC t (.slice q0 t.kids.length vc)).toArray 26)) ws (h4.below ha) (Lies.move (fun g hg hok => ⟨(by simp; omega : g < _), ha.block g hg⟩) t _ hL) hF he hlen)
  have HA := Lib.hid ha
  clear h4 hL hF he ha
  simp only [nodeC, nodeV] at *
  go_enter Tryz.func9, Tryz.ntmps9
  go_wp2_with fail
  refine (HC.out).mono ?_
  rintro e w1 ⟨v1, rfl, hown, hb1⟩
  obtain ⟨ao, n1, cap, rfl, hj⟩ := join_any hown hlen hl
  have HJ := Lib.hid hj
  have HB := Lib.hid (HA.out.trans (hb1.mono HA.out.size))
  clear hj hown hb1 HC HA
  go_wp2_with fail
  refine (HJ.out).mono ?_
  rintro e w2 ⟨rfl, hb2⟩
  have HB2 := Lib.hid (HB.out.trans (hb2.mono HB.out.size))
  clear hb2 HJ HB
  go_wp2
  go_ret2
  exact ⟨rfl, HB2.out⟩
end Go.Proofs.YtnalgnklgmoepaaGreatDoor
namespace Go.Proofs.YtnalgnklgmoepaaGreatDoor
open Go Go.RowKit

mutual
def sameT : Tree → Tree → Bool
  | .mk k x n _ _ ks, b => k == b.kind && (x == b.text && (n == b.num && sameL ks b.kids))
def sameL : List Tree → List Tree → Bool
  | [], us => us.isEmpty
  | t :: ts, us => match us with
    | [] => false
    | u :: us => sameT t u && sameL ts us
end
mutual
def deepT : Tree → Nat
  | .mk _ _ _ _ _ ks => deepL 0 ks + 1
def deepL : Nat → List Tree → Nat
  | m, [] => m
  | m, t :: ts => deepL (max m (deepT t)) ts
end
theorem sameL_len : ∀ (ts us : List Tree), sameL ts us = true → ts.length = us.length
  | [], us, h => by cases us with | nil => rfl | cons u r => simp [sameL] at h
  | t :: ts, us, h => by
    cases us with
    | nil => simp [sameL] at h
    | cons u r =>
      simp only [sameL, Bool.and_eq_true] at h
      simp [sameL_len ts r h.2]
theorem sameL_at {ts us : List Tree} {i : Nat} (h : i < ts.length) (h' : i < us.length) : sameL (ts.drop i) (us.drop i) = (sameT ts[i] us[i] && sameL (ts.drop (i + 1)) (us.drop (i + 1))) := by
  rw [List.drop_eq_getElem_cons h, List.drop_eq_getElem_cons h', sameL]
theorem sameL_end {ts us : List Tree} {i : Nat} (h : ¬ i < ts.length) (hl : ts.length = us.length) : sameL (ts.drop i) (us.drop i) = true := by
  rw [List.drop_eq_nil_of_le (by omega), List.drop_eq_nil_of_le (by omega), sameL]; rfl
/-- What a comparison of trees hands back. -/
def SamePost (b : Bool) (w : World) (e : Ending) (w' : World) : Prop := e = .returned (.bool b) ∧ Below w.heap.size w w'
def EqRel (ts us : List Tree) (w : World) (i : Value) (wr : World) : Prop :=
  ∃ k : Nat, k ≤ ts.length ∧ i = .int .i64 k ∧ sameL (ts.drop k) (us.drop k) = sameL ts us ∧ Below w.heap.size w wr

set_option maxHeartbeats 4000000 in
set_option maxRecDepth 100000 in
theorem equal_any (B : Nat) (ts us : List Tree) (q q' : Option Addr) (c c' : Nat) (w : World) (hB : B ≤ w.heap.size) (h1 : KidsAt B w ts q) (h2 : KidsAt B w us q') (hn1 : ts.length ≤ maxLen) (hn2 : us.length ≤ maxLen)
    (hrec : ∀ t ∈ ts, ∀ (u : Tree) (v v' : Value) (w : World), B ≤ w.heap.size → Lies w (· < B) t v → Lies w (· < B) u v' → Calls Tryz.prog 11 #[nodeV t v, nodeV u v'] w (SamePost (sameT t u) w)) :
    Calls Tryz.prog 22 #[.slice q ts.length c, .slice q' us.length c', .func (.func 11) #[] #[]] w (SamePost (sameL ts us) w) := by
  have H1 := Lib.hid h1
  have H2 := Lib.hid h2
  have HR := Lib.hid hrec
  have hcf : ∀ (args : Array Value) (w : World), (callFunc 11 args).run Tryz.prog w = .ok (.enter 11 args) w := fun _ _ => rfl
  unfold maxLen at hn1 hn2
  clear h1 h2 hrec
  unfold SamePost
  by_cases hl : ts.length = us.length
  · have hlb : (((ts.length : Nat) : Int) == ((us.length : Nat) : Int)) = true := by simp [hl]
    rw [← hl]
    rw [← hl] at hlb hn2
    have HL := Lib.hid hl
    clear hl
    go_enter Tryz.func22, Tryz.ntmps22
    go_wp2_with fail
    go_loopw [17] (fun i wr => EqRel ts us w i wr) (fun i _ => ts.length - (intOf i).toNat)
    case atStart => exact ⟨0, Nat.zero_le _, rfl, by simp, Below.refl _ _⟩
    case round =>
      obtain ⟨k, hk, rfl, hs, hb⟩ := hrel
      have HS := Lib.hid hs
      have HBB := Lib.hid hb
      clear hs hb
      by_cases hlt : k < ts.length
      · have hlt' : k < us.length := by have := HL.out; omega
        obtain ⟨g, off, rfl, hR1⟩ := (H1.out.keep (HBB.out.mono hB)).resolve_left (fun e => by rw [e] at hlt; simp at hlt)
        obtain ⟨g', off', rfl, hR2⟩ := (H2.out.keep (HBB.out.mono hB)).resolve_left (fun e => by rw [e] at hlt'; simp at hlt')
        obtain ⟨qa, na, ca, hla, hca⟩ := hR1.2 k hlt
        obtain ⟨qb, nb, cb, hlb2, hcb⟩ := hR2.2 k hlt'
        have k0 := hca.c0; have k1 := hca.c1; have k2 := hca.c2; have k3 := hca.c3; have k4 := hca.c4; have k5 := hca.c5
        have j0 := hcb.c0; have j1 := hcb.c1; have j2 := hcb.c2; have j3 := hcb.c3; have j4 := hcb.c4; have j5 := hcb.c5
        have hgr : g < wr.heap.size := by have := hR1.1; have := HBB.out.size; omega
        have hgr' : g' < wr.heap.size := by have := hR2.1; have := HBB.out.size; omega
        have hbs : B ≤ wr.heap.size := by have := HBB.out.size; omega
        have hb2 : Below wr.heap.size wr ((wr.alloc (.cells (nodeC ts[k] (.slice qa na ca)).toArray 26)).alloc (.cells (nodeC us[k] (.slice qb nb cb)).toArray 26)) := ((Below.refl _ _).alloc (Nat.le_refl _) _).alloc (by simp) _
        have HC := Lib.hid (HR.out ts[k] (List.getElem_mem _) us[k] (.slice qa na ca) (.slice qb nb cb) _ (Nat.le_trans hbs hb2.size) (hla.keep (hb2.mono hbs)) (hlb2.keep (hb2.mono hbs)))
        have HB2 := Lib.hid hb2
        have hstep := sameL_at hlt hlt'
        have HST := Lib.hid hstep
        clear hca hcb hla hlb2 hR1 hR2 hb2 hstep
        generalize ts[k] = t at *
        generalize us[k] = u at *
        simp only [nodeC, nodeV] at *
        cases hst : sameT t u
        · go_wp2_with fail
          refine (HC.out).mono ?_
          intro e w3 hq
          rw [hst] at hq
          obtain ⟨rfl, hb3⟩ := hq
          go_wp2
          go_ret
          refine ⟨?_, HBB.out.trans ((HB2.out.trans (hb3.mono HB2.out.size)).mono HBB.out.size)⟩
          rw [← HS.out, HST.out, hst]; rfl
        · go_wp2_with fail
          refine (HC.out).mono ?_
          intro e w3 hq
          rw [hst] at hq
          obtain ⟨rfl, hb3⟩ := hq
          go_wp2
          go_roundw
          case rel => exact ⟨k + 1, by omega, by go_num, by rw [← HS.out, HST.out, hst, Bool.true_and], HBB.out.trans ((HB2.out.trans (hb3.mono HB2.out.size)).mono HBB.out.size)⟩
          case measure => simp [intOf]; omega
      · have hend := sameL_end hlt HL.out
        go_wp2
        go_ret
        refine ⟨?_, HBB.out⟩
        rw [← HS.out, hend]
        rfl
  · have hlb : (((ts.length : Nat) : Int) == ((us.length : Nat) : Int)) = false := by simp; omega
    have hs : sameL ts us = false := by
      cases h : sameL ts us
      · rfl
      · exact absurd (sameL_len ts us h) hl
    rw [hs]
    clear hl
    go_enter Tryz.func22, Tryz.ntmps22
    go_wp2
    go_ret
    exact ⟨rfl, Below.refl _ _⟩
theorem kid_size {t : Tree} {ks : List Tree} (h : t ∈ ks) (k x : List UInt8) (m ln co : Int) : SizeOf.sizeOf t < SizeOf.sizeOf (Tree.mk k x m ln co ks) := by
  have := List.sizeOf_lt_of_mem h
  simp only [Tree.mk.sizeOf_spec]
  omega
set_option maxHeartbeats 4000000 in
set_option maxRecDepth 100000 in
theorem same_step (B : Nat) (a b : Tree) (va vb : Value) (w : World) (hB : B ≤ w.heap.size) (ha : Lies w (· < B) a va) (hb : Lies w (· < B) b vb)
    (hrec : ∀ t ∈ a.kids, ∀ (u : Tree) (v v' : Value) (w : World), B ≤ w.heap.size → Lies w (· < B) t v → Lies w (· < B) u v' → Calls Tryz.prog 11 #[nodeV t v, nodeV u v'] w (SamePost (sameT t u) w)) :
    Calls Tryz.prog 11 #[nodeV a va, nodeV b vb] w (SamePost (sameT a b) w) := by
  obtain ⟨k, x, m, ln, co, ks⟩ := a
  obtain ⟨k', x', m', ln', co', ks'⟩ := b
  obtain ⟨q, c, rfl, hc, hcm, hka⟩ := ha.kids
  obtain ⟨q', c', rfl, hc', hcm', hkb⟩ := hb.kids
  simp only [Tree.kids] at *
  have h2 : Below w.heap.size w ((w.alloc (.cells (nodeC (.mk k x m ln co ks) (.slice q ks.length c)).toArray 26)).alloc (.cells (nodeC (.mk k' x' m' ln' co' ks') (.slice q' ks'.length c')).toArray 26)) := ((Below.refl _ _).alloc (Nat.le_refl _) _).alloc (by simp) _
  have HE := Lib.hid (equal_any B ks ks' q q' c c' _ (Nat.le_trans hB h2.size) (hka.keep (h2.mono hB)) (hkb.keep (h2.mono hB)) (by omega) (by omega) hrec)
  have H2 := Lib.hid h2
  have hst : sameT (.mk k x m ln co ks) (.mk k' x' m' ln' co' ks') = (k == k' && (x == x' && (m == m' && sameL ks ks'))) := rfl
  rw [hst]
  clear h2 ha hb hka hkb hrec hst hc hcm hc' hcm'
  unfold SamePost at *
  simp only [nodeC, nodeV, Tree.kind, Tree.text, Tree.num, Tree.line, Tree.col] at *
  cases e1 : (k == k')
  case false =>
    go_enter Tryz.func11, Tryz.ntmps11
    go_wp2
    go_ret
    exact ⟨rfl, H2.out⟩
  case true =>
  cases e2 : (x == x')
  case false =>
    go_enter Tryz.func11, Tryz.ntmps11
    go_wp2
    go_ret
    exact ⟨rfl, H2.out⟩
  case true =>
  cases e3 : (m == m')
  case false =>
    go_enter Tryz.func11, Tryz.ntmps11
    go_wp2
    go_ret
    exact ⟨rfl, H2.out⟩
  case true =>
    go_enter Tryz.func11, Tryz.ntmps11
    go_wp2_with fail
    refine (HE.out).mono ?_
    rintro e w3 ⟨rfl, hb3⟩
    go_wp2
    go_ret
    exact ⟨rfl, H2.out.trans (hb3.mono H2.out.size)⟩
/-- SAME, of any two trees. -/
theorem same_any (B : Nat) : ∀ (n : Nat) (a : Tree), SizeOf.sizeOf a < n → ∀ (b : Tree) (va vb : Value) (w : World), B ≤ w.heap.size → Lies w (· < B) a va → Lies w (· < B) b vb → Calls Tryz.prog 11 #[nodeV a va, nodeV b vb] w (SamePost (sameT a b) w) := by
  intro n
  induction n with
  | zero => intro a h; omega
  | succ n ih =>
    intro a h b va vb w hB ha hb
    refine same_step B a b va vb w hB ha hb fun t ht u v v' w1 h1 h2 h3 => ih t ?_ u v v' w1 h1 h2 h3
    obtain ⟨k, x, m, ln, co, ks⟩ := a
    have := kid_size (t := t) (ks := ks) ht k x m ln co
    omega
end Go.Proofs.YtnalgnklgmoepaaGreatDoor
