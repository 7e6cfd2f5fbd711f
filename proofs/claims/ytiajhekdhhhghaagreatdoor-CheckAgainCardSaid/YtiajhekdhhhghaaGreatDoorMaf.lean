/- Walks. -/
import Derived.Test.YtiajhekdhhhghaaGreatDoorMae
set_option linter.all false
set_option maxHeartbeats 8000000
set_option maxRecDepth 100000
namespace Go.Proofs.YtiajhekdhhhghaaGreatDoor
open Tryz
open Go Go.RowKit
theorem qUK(rec:WT->qQ->Ws)(hex:kZ 150 (fun p n=>#[p,n]) (rec .expr)):kZ 150 (fun p n=>#[p,n]) (qY7 rec):=by
 intro lo B acc t v w ws hW hL hF he hlen;obtain⟨k,x,m,ln,co,ks⟩:=t;obtain⟨hFk,hFx,hFm0,hFm1,hFn,hFL⟩:=id hF;simp only[qY7,qY,qG,qC,qO,zB,zD,zX,qE,kIf,zS,qA,qV,qF,qD,qP,qW,qN,zW,zM,qL,qM,qT,zK,zL,qH,zA,tQ]at he;cases hq0:(k == [98,105,110,97,114,121]);case true =>
  simp only[hq0,bU,bV,bT,if_true,reduceIte]at he;obtain rfl:k=[98,105,110,97,114,121]:=by simpa using hq0
  clear hq0;rcases ks with _ | ⟨a0,_ | ⟨a1,_ | ⟨b,r⟩⟩⟩
  ·simp at he
  ·simp at he
  rotate_left
  ·simp at he
  simp only at he;obtain⟨hb,he1⟩:=zN he;clear he;simp only[bE,decide_eq_true_eq]at hb;obtain⟨hlv,hm0⟩:=hb;have hlv2:(0:Int)<=xL x:=of_decide_eq_true hlv;have hlv3:¬xL x < 0:=by omega
  obtain⟨ws1,wr1,hc1,hd1,hx1⟩:=qK he1;subst hx1;clear he1;obtain⟨ws2,wr2,hc2,hd2,hx2⟩:=qK hd1;subst hx2;clear hd1;injection hc2 with hc2;subst hc2;obtain⟨g0,vc,hv,hR⟩:=hL.row (by simp[qQ.kids]);have HR:=hI hR;clear hR;simp only[tQ,List.length]at hv;subst hv;have S0:=hI (Sw.start hW hL);have HF:=hI hF;have HFL:=hI hFL;have HLEN:=hI hlen;have hBw:=hW.lt;have HFX:=hI hFx;have HFN:=hI hFn;clear hW hF hL hFL hlen hFk hFx hFn;try simp only[qZ,qS,tQ]at *
  go_enter func150,ntmps150
  obtain⟨c0,c1,c2,c3,c4,c5⟩:=S0.o.cells;have hszN:=S0.o.lt;go_wp2_with fail
  try clear c0 c1 c2 c3 c4 c5
  try clear hszN
  refine(qUf x _).mono ?_;rintro e w3 ⟨rfl,hb3⟩;have S3:=hI (S0.o.below hb3);clear S0 hb3;obtain⟨c0,c1,c2,c3,c4,c5⟩:=S3.o.cells;have hszN:=S3.o.lt;go_wp2_with fail
  try clear c0 c1 c2 c3 c4 c5
  try clear hszN
  have HQ:=qXA (t:=(.mk [98,105,110,97,114,121] x m ln co [a0,a1])) (v:=.slice (some ⟨g0,0,none⟩) 2 vc) (lo:=2) (hi:=2) _ S3.o.wr.tab rfl (by simpa[qQ.num]using hm0) (by first | simp | omega | (have:=HFN.o;(try simp only[List.length]at this ⊢);omega)) (by first | simp | omega | (have:=HFN.o;(try simp only[List.length]at this ⊢);omega));simp only[qZ,tQ]at HQ;refine HQ.mono ?_;clear HQ;rintro e w4 ⟨rfl,hb4⟩;have S4:=hI (S3.o.below hb4);clear S3 hb4;obtain⟨c0,c1,c2,c3,c4,c5⟩:=S4.o.cells;have hszN:=S4.o.lt;go_wp2_with fail
  refine(jF _).mono ?_;rintro e w' ⟨rfl,rfl⟩;try clear c0 c1 c2 c3 c4 c5 hszN
  obtain⟨qa,na,ca,hla,hca⟩:=(HR.o.keep S4.o.kp.below).2 0 (by simp);simp only[Nat.zero_add,Nat.zero_mul,Nat.one_mul,Nat.reduceAdd,Nat.reduceMul,List.getElem_cons_zero,List.getElem_cons_succ]at hla hca;have⟨k0,k1,k2,k3,k4,k5,_⟩:=hca.a;simp only[Nat.zero_add,Nat.zero_mul,Nat.one_mul,Nat.reduceAdd,Nat.reduceMul,List.getElem_cons_zero,List.getElem_cons_succ]at k0 k1 k2 k3 k4 k5;have HC:=hI ((qJ9 rec hex) lo B acc a0 (.slice qa na ca) _ ws1 S4.o.wr hla (HFL.o.mem _ (by simp)) hc1 (by have:=HLEN.o;(try simp only[lL,lO,lZ]at this ⊢);omega));clear hca hla;try simp only[qZ]at HC
  obtain⟨c0,c1,c2,c3,c4,c5⟩:=S4.o.cells;have hszN:=S4.o.lt;go_wp2_with fail
  try clear c0 c1 c2 c3 c4 c5
  try clear hszN
  try clear k0 k1 k2 k3 k4 k5
  refine(HC.o).mono ?_;rintro e w5 ⟨rfl,hW5,hK5⟩;have S5:=hI (S4.o.call hW5 hK5);clear S4 hW5 hK5 HC;obtain⟨c0,c1,c2,c3,c4,c5⟩:=S5.o.cells;have hszN:=S5.o.lt;go_wp2_with fail
  try clear c0 c1 c2 c3 c4 c5
  try clear hszN
  have H:=jZ (S:=w5.1.size) [x] S5.o.wr (by simp) (by simp) (by have:=HLEN.o;(try simp only[lL,lO,lZ]at this ⊢);omega);simp only[jT,List.map,List.length]at H;refine H.mono ?_;clear H;rintro e w6 ⟨rfl,hW6,hK6⟩;have S6:=hI (S5.o.call hW6 hK6);clear S5 hW6 hK6;obtain⟨qa,na,ca,hla,hca⟩:=(HR.o.keep S6.o.kp.below).2 1 (by simp);simp only[Nat.zero_add,Nat.zero_mul,Nat.one_mul,Nat.reduceAdd,Nat.reduceMul,List.getElem_cons_zero,List.getElem_cons_succ]at hla hca;have⟨k0,k1,k2,k3,k4,k5,_⟩:=hca.a;simp only[Nat.zero_add,Nat.zero_mul,Nat.one_mul,Nat.reduceAdd,Nat.reduceMul,List.getElem_cons_zero,List.getElem_cons_succ]at k0 k1 k2 k3 k4 k5;have HC:=hI ((qJ9 rec hex) lo B ((acc++ws1)++[x]) a1 (.slice qa na ca) _ wr2 S6.o.wr hla (HFL.o.mem _ (by simp)) hd2 (by have:=HLEN.o;(try simp only[lL,lO,lZ]at this ⊢);omega));clear hca hla;try simp only[qZ]at HC
  obtain⟨c0,c1,c2,c3,c4,c5⟩:=S6.o.cells;have hszN:=S6.o.lt;go_wp2_with fail
  try clear c0 c1 c2 c3 c4 c5
  try clear hszN
  try clear k0 k1 k2 k3 k4 k5
  refine(HC.o).mono ?_;rintro e w7 ⟨rfl,hW7,hK7⟩;have S7:=hI (S6.o.call hW7 hK7);clear S6 hW7 hK7 HC;go_wp2
  first | go_end0 | refine bodyPost_ret (v:=.tuple #[]) (by simp[results,results150,go_sem]) rfl ?_
  exact⟨rfl,by simpa[List.append_assoc,qY,qG,qC,qO,zB,zD,zX,qE,kIf,zS,qA,qV,qF,qD,qP,qW,qN,zW,zM,qL,qM,qT,zK,zL,qH,zA]using S7.o.wr,S7.o.kp⟩
 case false =>
 simp only[hq0,bO,bP,bF,if_false,reduceIte]at he;cases hq1:(k == [117,110,97,114,121]);case true =>
  simp only[hq1,bU,bV,bT,if_true,reduceIte]at he;obtain rfl:k=[117,110,97,114,121]:=by simpa using hq1
  clear hq1;rcases ks with _ | ⟨a0,_ | ⟨b,r⟩⟩
  ·simp at he
  rotate_left
  ·simp at he
  simp only at he;obtain⟨hb,he1⟩:=zN he;clear he;simp only[bE,decide_eq_true_eq]at hb;obtain⟨hu,hm0⟩:=hb;obtain⟨ws1,wr1,hc1,hd1,hx1⟩:=qK he1;subst hx1;clear he1;injection hc1 with hc1;subst hc1;obtain⟨g0,vc,hv,hR⟩:=hL.row (by simp[qQ.kids]);have HR:=hI hR;clear hR;simp only[tQ,List.length]at hv;subst hv;have S0:=hI (Sw.start hW hL);have HF:=hI hF;have HFL:=hI hFL;have HLEN:=hI hlen;have hBw:=hW.lt;have HFX:=hI hFx;have HFN:=hI hFn;clear hW hF hL hFL hlen hFk hFx hFn;try simp only[qZ,qS,tQ]at *
  go_enter func150,ntmps150
  have HTY:=hI (qVR x);rw[hu]at HTY;obtain⟨c0,c1,c2,c3,c4,c5⟩:=S0.o.cells;have hszN:=S0.o.lt;go_wp2_with fail
  try clear c0 c1 c2 c3 c4 c5
  try clear hszN
  refine(HTY.o _).mono ?_;rintro e w' ⟨rfl,rfl⟩;obtain⟨c0,c1,c2,c3,c4,c5⟩:=S0.o.cells;have hszN:=S0.o.lt;go_wp2_with fail
  try clear c0 c1 c2 c3 c4 c5
  try clear hszN
  have HQ:=qXA (t:=(.mk [117,110,97,114,121] x m ln co [a0])) (v:=.slice (some ⟨g0,0,none⟩) 1 vc) (lo:=1) (hi:=1) _ S0.o.wr.tab rfl (by simpa[qQ.num]using hm0) (by first | simp | omega | (have:=HFN.o;(try simp only[List.length]at this ⊢);omega)) (by first | simp | omega | (have:=HFN.o;(try simp only[List.length]at this ⊢);omega));simp only[qZ,tQ]at HQ;refine HQ.mono ?_;clear HQ;rintro e w2 ⟨rfl,hb2⟩;have S2:=hI (S0.o.below hb2);clear S0 hb2;obtain⟨c0,c1,c2,c3,c4,c5⟩:=S2.o.cells;have hszN:=S2.o.lt;go_wp2_with fail
  refine(jF _).mono ?_;rintro e w' ⟨rfl,rfl⟩;try clear c0 c1 c2 c3 c4 c5 hszN
  obtain⟨c0,c1,c2,c3,c4,c5⟩:=S2.o.cells;have hszN:=S2.o.lt;go_wp2_with fail
  try clear c0 c1 c2 c3 c4 c5
  try clear hszN
  have H:=jZ (S:=w2.1.size) [x] S2.o.wr (by simp) (by simp) (by have:=HLEN.o;(try simp only[lL,lO,lZ]at this ⊢);omega);simp only[jT,List.map,List.length]at H;refine H.mono ?_;clear H;rintro e w3 ⟨rfl,hW3,hK3⟩;have S3:=hI (S2.o.call hW3 hK3);clear S2 hW3 hK3;obtain⟨qa,na,ca,hla,hca⟩:=(HR.o.keep S3.o.kp.below).2 0 (by simp);simp only[Nat.zero_add,Nat.zero_mul,Nat.one_mul,Nat.reduceAdd,Nat.reduceMul,List.getElem_cons_zero,List.getElem_cons_succ]at hla hca;have⟨k0,k1,k2,k3,k4,k5,_⟩:=hca.a;simp only[Nat.zero_add,Nat.zero_mul,Nat.one_mul,Nat.reduceAdd,Nat.reduceMul,List.getElem_cons_zero,List.getElem_cons_succ]at k0 k1 k2 k3 k4 k5;have HC:=hI ((qJ9 rec hex) lo B (acc++[x]) a0 (.slice qa na ca) _ wr1 S3.o.wr hla (HFL.o.mem _ (by simp)) hd1 (by have:=HLEN.o;(try simp only[lL,lO,lZ]at this ⊢);omega));clear hca hla;try simp only[qZ]at HC
  obtain⟨c0,c1,c2,c3,c4,c5⟩:=S3.o.cells;have hszN:=S3.o.lt;go_wp2_with fail
  try clear c0 c1 c2 c3 c4 c5
  try clear hszN
  try clear k0 k1 k2 k3 k4 k5
  refine(HC.o).mono ?_;rintro e w4 ⟨rfl,hW4,hK4⟩;have S4:=hI (S3.o.call hW4 hK4);clear S3 hW4 hK4 HC;go_wp2
  first | go_end0 | refine bodyPost_ret (v:=.tuple #[]) (by simp[results,results150,go_sem]) rfl ?_
  exact⟨rfl,by simpa[List.append_assoc,qY,qG,qC,qO,zB,zD,zX,qE,kIf,zS,qA,qV,qF,qD,qP,qW,qN,zW,zM,qL,qM,qT,zK,zL,qH,zA]using S4.o.wr,S4.o.kp⟩
 case false =>
 simp only[hq1,bO,bP,bF,if_false,reduceIte]at he;cases hq2:(k == [99,97,115,116]);case true =>
  simp only[hq2,bU,bV,bT,if_true,reduceIte]at he;obtain rfl:k=[99,97,115,116]:=by simpa using hq2
  clear hq2;rcases ks with _ | ⟨a0,_ | ⟨b,r⟩⟩
  ·simp at he
  rotate_left
  ·simp at he
  simp only at he;obtain⟨hb,he1⟩:=zN he;clear he;simp only[bE,decide_eq_true_eq]at hb;obtain⟨hu,hm0⟩:=hb;obtain⟨ws1,wr1,hc1,hd1,hx1⟩:=qK he1;subst hx1;clear he1;injection hc1 with hc1;subst hc1;obtain⟨g0,vc,hv,hR⟩:=hL.row (by simp[qQ.kids]);have HR:=hI hR;clear hR;simp only[tQ,List.length]at hv;subst hv;have S0:=hI (Sw.start hW hL);have HF:=hI hF;have HFL:=hI hFL;have HLEN:=hI hlen;have hBw:=hW.lt;have HFX:=hI hFx;have HFN:=hI hFn;clear hW hF hL hFL hlen hFk hFx hFn;try simp only[qZ,qS,tQ]at *
  go_enter func150,ntmps150
  have HTY:=hI (qXC ⟨x.toArray⟩ _ S0.o.wr.tab.types);have hdt:(⟨x.toArray⟩:ByteArray).data.toList=x:=by simp
  rw[hdt,hu]at HTY;clear hdt;obtain⟨c0,c1,c2,c3,c4,c5⟩:=S0.o.cells;have hszN:=S0.o.lt;go_wp2_with fail
  try clear c0 c1 c2 c3 c4 c5
  try clear hszN
  refine(HTY.o).mono ?_;rintro e w' ⟨rfl,rfl⟩;obtain⟨c0,c1,c2,c3,c4,c5⟩:=S0.o.cells;have hszN:=S0.o.lt;go_wp2_with fail
  try clear c0 c1 c2 c3 c4 c5
  try clear hszN
  have HQ:=qXA (t:=(.mk [99,97,115,116] x m ln co [a0])) (v:=.slice (some ⟨g0,0,none⟩) 1 vc) (lo:=1) (hi:=1) _ S0.o.wr.tab rfl (by simpa[qQ.num]using hm0) (by first | simp | omega | (have:=HFN.o;(try simp only[List.length]at this ⊢);omega)) (by first | simp | omega | (have:=HFN.o;(try simp only[List.length]at this ⊢);omega));simp only[qZ,tQ]at HQ;refine HQ.mono ?_;clear HQ;rintro e w2 ⟨rfl,hb2⟩;have S2:=hI (S0.o.below hb2);clear S0 hb2;obtain⟨c0,c1,c2,c3,c4,c5⟩:=S2.o.cells;have hszN:=S2.o.lt;go_wp2_with fail
  refine(jF _).mono ?_;rintro e w' ⟨rfl,rfl⟩;try clear c0 c1 c2 c3 c4 c5 hszN
  obtain⟨c0,c1,c2,c3,c4,c5⟩:=S2.o.cells;have hszN:=S2.o.lt;go_wp2_with fail
  try clear c0 c1 c2 c3 c4 c5
  try clear hszN
  have H:=jZ (S:=w2.1.size) [[40],x,[41]] S2.o.wr (by simp) (by simp) (by have:=HLEN.o;(try simp only[lL,lO,lZ]at this ⊢);omega);simp only[jT,List.map,List.length]at H;refine H.mono ?_;clear H;rintro e w3 ⟨rfl,hW3,hK3⟩;have S3:=hI (S2.o.call hW3 hK3);clear S2 hW3 hK3;obtain⟨qa,na,ca,hla,hca⟩:=(HR.o.keep S3.o.kp.below).2 0 (by simp);simp only[Nat.zero_add,Nat.zero_mul,Nat.one_mul,Nat.reduceAdd,Nat.reduceMul,List.getElem_cons_zero,List.getElem_cons_succ]at hla hca;have⟨k0,k1,k2,k3,k4,k5,_⟩:=hca.a;simp only[Nat.zero_add,Nat.zero_mul,Nat.one_mul,Nat.reduceAdd,Nat.reduceMul,List.getElem_cons_zero,List.getElem_cons_succ]at k0 k1 k2 k3 k4 k5;have HC:=hI ((qJ9 rec hex) lo B (acc++[[40],x,[41]]) a0 (.slice qa na ca) _ wr1 S3.o.wr hla (HFL.o.mem _ (by simp)) hd1 (by have:=HLEN.o;(try simp only[lL,lO,lZ]at this ⊢);omega));clear hca hla;try simp only[qZ]at HC
  obtain⟨c0,c1,c2,c3,c4,c5⟩:=S3.o.cells;have hszN:=S3.o.lt;go_wp2_with fail
  try clear c0 c1 c2 c3 c4 c5
  try clear hszN
  try clear k0 k1 k2 k3 k4 k5
  refine(HC.o).mono ?_;rintro e w4 ⟨rfl,hW4,hK4⟩;have S4:=hI (S3.o.call hW4 hK4);clear S3 hW4 hK4 HC;go_wp2
  first | go_end0 | refine bodyPost_ret (v:=.tuple #[]) (by simp[results,results150,go_sem]) rfl ?_
  exact⟨rfl,by simpa[List.append_assoc,qY,qG,qC,qO,zB,zD,zX,qE,kIf,zS,qA,qV,qF,qD,qP,qW,qN,zW,zM,qL,qM,qT,zK,zL,qH,zA]using S4.o.wr,S4.o.kp⟩
 case false =>
 simp only[hq2,bO,bP,bF,if_false,reduceIte]at he;cases hq3:(k == [116,114,117,101]);case true =>
  simp only[hq3,bU,bV,bT,if_true,reduceIte]at he;obtain rfl:k=[116,114,117,101]:=by simpa using hq3
  clear hq3;obtain⟨hb,he1⟩:=zN he;clear he;simp only[bE,decide_eq_true_eq]at hb;obtain⟨hbare,hl⟩:=hb;obtain rfl:ks=[]:=by simpa using hl
  injection he1 with he1;subst he1;clear hl;obtain⟨q0,vc,hv,hvc,hvm⟩:=hL.shape;simp only[tQ,List.length]at hv;subst hv;have S0:=hI (Sw.start hW hL);have HF:=hI hF;have HFL:=hI hFL;have HLEN:=hI hlen;have hBw:=hW.lt;have HFX:=hI hFx;have HFN:=hI hFn;clear hW hF hL hFL hlen hFk hFx hFn;try simp only[qZ,qS,tQ]at *
  go_enter func150,ntmps150
  obtain⟨c0,c1,c2,c3,c4,c5⟩:=S0.o.cells;have hszN:=S0.o.lt;go_wp2_with fail
  try clear c0 c1 c2 c3 c4 c5
  try clear hszN
  have HQ:=wB (t:=(.mk [116,114,117,101] x m ln co [])) (v:=.slice q0 0 vc) (lo:=0) (hi:=0) _ S0.o.wr.tab rfl hbare (by first | simp | omega | (have:=HFN.o;(try simp only[List.length]at this ⊢);omega)) (by first | simp | omega | (have:=HFN.o;(try simp only[List.length]at this ⊢);omega));simp only[qZ,tQ]at HQ;refine HQ.mono ?_;clear HQ;rintro e w1 ⟨rfl,hb1⟩;have S1:=hI (S0.o.below hb1);clear S0 hb1;obtain⟨c0,c1,c2,c3,c4,c5⟩:=S1.o.cells;have hszN:=S1.o.lt;go_wp2_with fail
  refine(jF _).mono ?_;rintro e w' ⟨rfl,rfl⟩;try clear c0 c1 c2 c3 c4 c5 hszN
  obtain⟨c0,c1,c2,c3,c4,c5⟩:=S1.o.cells;have hszN:=S1.o.lt;go_wp2_with fail
  try clear c0 c1 c2 c3 c4 c5
  try clear hszN
  have H:=jZ (S:=w1.1.size) [[116,114,117,101]] S1.o.wr (by simp) (by simp) (by have:=HLEN.o;(try simp only[lL,lO,lZ]at this ⊢);omega);simp only[jT,List.map,List.length]at H;refine H.mono ?_;clear H;rintro e w2 ⟨rfl,hW2,hK2⟩;have S2:=hI (S1.o.call hW2 hK2);clear S1 hW2 hK2;go_wp2
  first | go_end0 | refine bodyPost_ret (v:=.tuple #[]) (by simp[results,results150,go_sem]) rfl ?_
  exact⟨rfl,by simpa[List.append_assoc,qY,qG,qC,qO,zB,zD,zX,qE,kIf,zS,qA,qV,qF,qD,qP,qW,qN,zW,zM,qL,qM,qT,zK,zL,qH,zA]using S2.o.wr,S2.o.kp⟩
 case false =>
 simp only[hq3,bO,bP,bF,if_false,reduceIte]at he;cases hq4:(k == [102,97,108,115,101]);case true =>
  simp only[hq4,bU,bV,bT,if_true,reduceIte]at he;obtain rfl:k=[102,97,108,115,101]:=by simpa using hq4
  clear hq4;obtain⟨hb,he1⟩:=zN he;clear he;simp only[bE,decide_eq_true_eq]at hb;obtain⟨hbare,hl⟩:=hb;obtain rfl:ks=[]:=by simpa using hl
  injection he1 with he1;subst he1;clear hl;obtain⟨q0,vc,hv,hvc,hvm⟩:=hL.shape;simp only[tQ,List.length]at hv;subst hv;have S0:=hI (Sw.start hW hL);have HF:=hI hF;have HFL:=hI hFL;have HLEN:=hI hlen;have hBw:=hW.lt;have HFX:=hI hFx;have HFN:=hI hFn;clear hW hF hL hFL hlen hFk hFx hFn;try simp only[qZ,qS,tQ]at *
  go_enter func150,ntmps150
  obtain⟨c0,c1,c2,c3,c4,c5⟩:=S0.o.cells;have hszN:=S0.o.lt;go_wp2_with fail
  try clear c0 c1 c2 c3 c4 c5
  try clear hszN
  have HQ:=wB (t:=(.mk [102,97,108,115,101] x m ln co [])) (v:=.slice q0 0 vc) (lo:=0) (hi:=0) _ S0.o.wr.tab rfl hbare (by first | simp | omega | (have:=HFN.o;(try simp only[List.length]at this ⊢);omega)) (by first | simp | omega | (have:=HFN.o;(try simp only[List.length]at this ⊢);omega));simp only[qZ,tQ]at HQ;refine HQ.mono ?_;clear HQ;rintro e w1 ⟨rfl,hb1⟩;have S1:=hI (S0.o.below hb1);clear S0 hb1;obtain⟨c0,c1,c2,c3,c4,c5⟩:=S1.o.cells;have hszN:=S1.o.lt;go_wp2_with fail
  refine(jF _).mono ?_;rintro e w' ⟨rfl,rfl⟩;try clear c0 c1 c2 c3 c4 c5 hszN
  obtain⟨c0,c1,c2,c3,c4,c5⟩:=S1.o.cells;have hszN:=S1.o.lt;go_wp2_with fail
  try clear c0 c1 c2 c3 c4 c5
  try clear hszN
  have H:=jZ (S:=w1.1.size) [[102,97,108,115,101]] S1.o.wr (by simp) (by simp) (by have:=HLEN.o;(try simp only[lL,lO,lZ]at this ⊢);omega);simp only[jT,List.map,List.length]at H;refine H.mono ?_;clear H;rintro e w2 ⟨rfl,hW2,hK2⟩;have S2:=hI (S1.o.call hW2 hK2);clear S1 hW2 hK2;go_wp2
  first | go_end0 | refine bodyPost_ret (v:=.tuple #[]) (by simp[results,results150,go_sem]) rfl ?_
  exact⟨rfl,by simpa[List.append_assoc,qY,qG,qC,qO,zB,zD,zX,qE,kIf,zS,qA,qV,qF,qD,qP,qW,qN,zW,zM,qL,qM,qT,zK,zL,qH,zA]using S2.o.wr,S2.o.kp⟩
 case false =>
 simp only[hq4,bO,bP,bF,if_false,reduceIte]at he;cases hq5:(k == [110,117,109]);case true =>
  simp only[hq5,bU,bV,bT,if_true,reduceIte]at he;obtain rfl:k=[110,117,109]:=by simpa using hq5
  clear hq5;obtain⟨q0,vc,hv,hvc,hvm⟩:=hL.shape;simp only[tQ,List.length]at hv;subst hv;have S0:=hI (Sw.start hW hL);have HF:=hI hF;have HFL:=hI hFL;have HLEN:=hI hlen;have hBw:=hW.lt;have HFX:=hI hFx;have HFN:=hI hFn;clear hW hF hL hFL hlen hFk hFx hFn;try simp only[qZ,qS,tQ]at *
  go_enter func150,ntmps150
  have HC:=hI (qPT lo B acc (.mk [110,117,109] x m ln co ks) _ _ ws S0.o.wr S0.o.li HF.o he (by have:=HLEN.o;(try simp only[lL,lO,lZ]at this ⊢);omega));try simp only[qZ,tQ]at HC
  obtain⟨c0,c1,c2,c3,c4,c5⟩:=S0.o.cells;have hszN:=S0.o.lt;go_wp2_with fail
  try clear c0 c1 c2 c3 c4 c5
  try clear hszN
  refine(HC.o).mono ?_;rintro e w1 ⟨rfl,hW1,hK1⟩;have S1:=hI (S0.o.call hW1 hK1);clear S0 hW1 hK1 HC;go_wp2
  first | go_end0 | refine bodyPost_ret (v:=.tuple #[]) (by simp[results,results150,go_sem]) rfl ?_
  exact⟨rfl,by simpa[List.append_assoc,qY,qG,qC,qO,zB,zD,zX,qE,kIf,zS,qA,qV,qF,qD,qP,qW,qN,zW,zM,qL,qM,qT,zK,zL,qH,zA]using S1.o.wr,S1.o.kp⟩
 case false =>
 simp only[hq5,bO,bP,bF,if_false,reduceIte]at he;obtain⟨q0,vc,hv,hvc,hvm⟩:=hL.shape;simp only[tQ,List.length]at hv;subst hv;have S0:=hI (Sw.start hW hL);have HF:=hI hF;have HFL:=hI hFL;have HLEN:=hI hlen;have hBw:=hW.lt;have HFX:=hI hFx;have HFN:=hI hFn;clear hW hF hL hFL hlen hFk hFx hFn;try simp only[qZ,qS,tQ]at *
 go_enter func150,ntmps150
 have HC:=hI ((qVn rec hex) lo B acc (.mk k x m ln co ks) _ _ ws S0.o.wr S0.o.li HF.o he (by have:=HLEN.o;(try simp only[lL,lO,lZ]at this ⊢);omega));try simp only[qZ,tQ]at HC
 obtain⟨c0,c1,c2,c3,c4,c5⟩:=S0.o.cells;have hszN:=S0.o.lt;go_wp2_with fail
 try clear c0 c1 c2 c3 c4 c5
 try clear hszN
 refine(HC.o).mono ?_;rintro e w1 ⟨rfl,hW1,hK1⟩;have S1:=hI (S0.o.call hW1 hK1);clear S0 hW1 hK1 HC;go_wp2
 first | go_end0 | refine bodyPost_ret (v:=.tuple #[]) (by simp[results,results150,go_sem]) rfl ?_
 exact⟨rfl,by simpa[List.append_assoc,qY,qG,qC,qO,zB,zD,zX,qE,kIf,zS,qA,qV,qF,qD,qP,qW,qN,zW,zM,qL,qM,qT,zK,zL,qH,zA]using S1.o.wr,S1.o.kp⟩
theorem qVD(rec:WT->qQ->Ws)(hex:kZ 150 (fun p n=>#[p,n]) (rec .expr))(hbl:kZ 116 (fun p n=>#[p,n]) (rec .block)):kZ 148 (fun p n=>#[p,n]) (qQi rec):=by
 intro lo B acc t v w ws hW hL hF he hlen;obtain⟨k,x,m,ln,co,ks⟩:=t;obtain⟨hFk,hFx,hFm0,hFm1,hFn,hFL⟩:=id hF;simp only[qQi,qY,qG,qC,qO,zB,zD,zX,qE,kIf,zS,qA,qV,qF,qD,qP,qW,qN,zW,zM,qL,qM,qT,zK,zL,qH,zA,tQ]at he;rcases ks with _ | ⟨a0,_ | ⟨a1,r⟩⟩
 ·simp at he
 ·simp at he
 simp only at he;obtain⟨ws1,wr1,hc1,hd1,hx1⟩:=qK he;subst hx1;clear he;injection hc1 with hc1;subst hc1;obtain⟨ws2,wr2,hc2,hd2,hx2⟩:=qK hd1;subst hx2;clear hd1;obtain⟨ws3,wr3,hc3,hd3,hx3⟩:=qK hd2;subst hx3;clear hd2;injection hc3 with hc3;subst hc3;obtain⟨g0,vc,hv,hR⟩:=hL.row (by simp[qQ.kids]);have HR:=hI hR;clear hR;simp only[tQ,List.length]at hv;subst hv;have S0:=hI (Sw.start hW hL);have HF:=hI hF;have HFL:=hI hFL;have HLEN:=hI hlen;have hBw:=hW.lt;have HFX:=hI hFx;have HFN:=hI hFn;clear hW hF hL hFL hlen hFk hFx hFn;try simp only[qZ,qS,tQ]at *
 have hn0:(0:Int) < (r.length:Int)+1+1:=by omega
 have hn1:(1:Int) < (r.length:Int)+1+1:=by omega
 go_enter func148,ntmps148
 obtain⟨c0,c1,c2,c3,c4,c5⟩:=S0.o.cells;have hszN:=S0.o.lt;go_wp2_with fail
 try clear c0 c1 c2 c3 c4 c5
 try clear hszN
 have H:=jZ (S:=w.1.size+1) [k,[40]] S0.o.wr (by simp) (by simp) (by have:=HLEN.o;(try simp only[lL,lO,lZ]at this ⊢);omega);simp only[jT,List.map,List.length]at H;refine H.mono ?_;clear H;rintro e w4 ⟨rfl,hW4,hK4⟩;have S4:=hI (S0.o.call hW4 hK4);clear S0 hW4 hK4;obtain⟨qa,na,ca,hla,hca⟩:=(HR.o.keep S4.o.kp.below).2 0 (by simp);simp only[Nat.zero_add,Nat.zero_mul,Nat.one_mul,Nat.reduceAdd,Nat.reduceMul,List.getElem_cons_zero,List.getElem_cons_succ]at hla hca;have⟨k0,k1,k2,k3,k4,k5,_⟩:=hca.a;simp only[Nat.zero_add,Nat.zero_mul,Nat.one_mul,Nat.reduceAdd,Nat.reduceMul,List.getElem_cons_zero,List.getElem_cons_succ]at k0 k1 k2 k3 k4 k5;have HC:=hI (hex lo B (acc++[k,[40]]) a0 (.slice qa na ca) _ ws2 S4.o.wr hla (HFL.o.mem _ (by simp)) hc2 (by have:=HLEN.o;(try simp only[lL,lO,lZ]at this ⊢);omega));clear hca hla;try simp only[qZ]at HC
 obtain⟨c0,c1,c2,c3,c4,c5⟩:=S4.o.cells;have hszN:=S4.o.lt;go_wp2_with fail
 try clear c0 c1 c2 c3 c4 c5
 try clear hszN
 try clear k0 k1 k2 k3 k4 k5
 refine(HC.o).mono ?_;rintro e w5 ⟨rfl,hW5,hK5⟩;have S5:=hI (S4.o.call hW5 hK5);clear S4 hW5 hK5 HC;obtain⟨c0,c1,c2,c3,c4,c5⟩:=S5.o.cells;have hszN:=S5.o.lt;go_wp2_with fail
 try clear c0 c1 c2 c3 c4 c5
 try clear hszN
 have H:=jZ (S:=w5.1.size) [[41]] S5.o.wr (by simp) (by simp) (by have:=HLEN.o;(try simp only[lL,lO,lZ]at this ⊢);omega);simp only[jT,List.map,List.length]at H;refine H.mono ?_;clear H;rintro e w6 ⟨rfl,hW6,hK6⟩;have S6:=hI (S5.o.call hW6 hK6);clear S5 hW6 hK6;obtain⟨qa,na,ca,hla,hca⟩:=(HR.o.keep S6.o.kp.below).2 1 (by simp);simp only[Nat.zero_add,Nat.zero_mul,Nat.one_mul,Nat.reduceAdd,Nat.reduceMul,List.getElem_cons_zero,List.getElem_cons_succ]at hla hca;have⟨k0,k1,k2,k3,k4,k5,_⟩:=hca.a;simp only[Nat.zero_add,Nat.zero_mul,Nat.one_mul,Nat.reduceAdd,Nat.reduceMul,List.getElem_cons_zero,List.getElem_cons_succ]at k0 k1 k2 k3 k4 k5;have HC:=hI (hbl lo B (((acc++[k,[40]])++ws2)++[[41]]) a1 (.slice qa na ca) _ wr3 S6.o.wr hla (HFL.o.mem _ (by simp)) hd3 (by have:=HLEN.o;(try simp only[lL,lO,lZ]at this ⊢);omega));clear hca hla;try simp only[qZ]at HC
 obtain⟨c0,c1,c2,c3,c4,c5⟩:=S6.o.cells;have hszN:=S6.o.lt;go_wp2_with fail
 try clear c0 c1 c2 c3 c4 c5
 try clear hszN
 try clear k0 k1 k2 k3 k4 k5
 refine(HC.o).mono ?_;rintro e w7 ⟨rfl,hW7,hK7⟩;have S7:=hI (S6.o.call hW7 hK7);clear S6 hW7 hK7 HC;go_wp2
 first | go_end0 | refine bodyPost_ret (v:=.tuple #[]) (by simp[results,results148,go_sem]) rfl ?_
 exact⟨rfl,by simpa[List.append_assoc,qY,qG,qC,qO,zB,zD,zX,qE,kIf,zS,qA,qV,qF,qD,qP,qW,qN,zW,zM,qL,qM,qT,zK,zL,qH,zA]using S7.o.wr,S7.o.kp⟩
theorem choice_w(rec:WT->qQ->Ws)(hex:kZ 150 (fun p n=>#[p,n]) (rec .expr))(hbl:kZ 116 (fun p n=>#[p,n]) (rec .block)):kZ 147 (fun p n=>#[p,n]) (qK0 rec):=by
 intro lo B acc t v w ws hW hL hF he hlen;obtain⟨k,x,m,ln,co,ks⟩:=t;obtain⟨hFk,hFx,hFm0,hFm1,hFn,hFL⟩:=id hF;simp only[qK0,qY,qG,qC,qO,zB,zD,zX,qE,kIf,zS,qA,qV,qF,qD,qP,qW,qN,zW,zM,qL,qM,qT,zK,zL,qH,zA,tQ]at he;obtain⟨hbare,he1⟩:=zN he;clear he;rcases ks with _ | ⟨a0,_ | ⟨a1,_ | ⟨a2,_ | ⟨b,r⟩⟩⟩⟩
 ·simp at he1
 ·simp at he1
 rotate_right
 ·simp at he1
 ·simp only at he1;obtain⟨g0,vc,hv,hR⟩:=hL.row (by simp[qQ.kids]);have HR:=hI hR;clear hR;simp only[tQ,List.length]at hv;subst hv;have S0:=hI (Sw.start hW hL);have HF:=hI hF;have HFL:=hI hFL;have HLEN:=hI hlen;have hBw:=hW.lt;have HFX:=hI hFx;have HFN:=hI hFn;clear hW hF hL hFL hlen hFk hFx hFn;try simp only[qZ,qS,tQ]at *
  go_enter func147,ntmps147
  obtain⟨c0,c1,c2,c3,c4,c5⟩:=S0.o.cells;have hszN:=S0.o.lt;go_wp2_with fail
  try clear c0 c1 c2 c3 c4 c5
  try clear hszN
  have HQ:=wB (t:=(.mk k x m ln co [a0,a1])) (v:=.slice (some ⟨g0,0,none⟩) 2 vc) (lo:=2) (hi:=3) _ S0.o.wr.tab rfl hbare (by first | simp | omega | (have:=HFN.o;(try simp only[List.length]at this ⊢);omega)) (by first | simp | omega | (have:=HFN.o;(try simp only[List.length]at this ⊢);omega));simp only[qZ,tQ]at HQ;refine HQ.mono ?_;clear HQ;rintro e w1 ⟨rfl,hb1⟩;have S1:=hI (S0.o.below hb1);clear S0 hb1;obtain⟨c0,c1,c2,c3,c4,c5⟩:=S1.o.cells;have hszN:=S1.o.lt;go_wp2_with fail
  refine(jF _).mono ?_;rintro e w' ⟨rfl,rfl⟩;try clear c0 c1 c2 c3 c4 c5 hszN
  have HC:=hI ((qVD rec hex hbl) lo B acc (.mk k x m ln co [a0,a1]) _ _ ws S1.o.wr S1.o.li HF.o he1 (by have:=HLEN.o;(try simp only[lL,lO,lZ]at this ⊢);omega));try simp only[qZ,tQ]at HC
  obtain⟨c0,c1,c2,c3,c4,c5⟩:=S1.o.cells;have hszN:=S1.o.lt;go_wp2_with fail
  try clear c0 c1 c2 c3 c4 c5
  try clear hszN
  refine(HC.o).mono ?_;rintro e w2 ⟨rfl,hW2,hK2⟩;have S2:=hI (S1.o.call hW2 hK2);clear S1 hW2 hK2 HC;obtain⟨c0,c1,c2,c3,c4,c5⟩:=S2.o.cells;have hszN:=S2.o.lt;go_wp2
  first | go_end0 | refine bodyPost_ret (v:=.tuple #[]) (by simp[results,results147,go_sem]) rfl ?_
  exact⟨rfl,by simpa[List.append_assoc,qY,qG,qC,qO,zB,zD,zX,qE,kIf,zS,qA,qV,qF,qD,qP,qW,qN,zW,zM,qL,qM,qT,zK,zL,qH,zA]using S2.o.wr,S2.o.kp⟩
 ·simp only at he1;obtain⟨ws1,wr1,hc1,hd1,hx1⟩:=qK he1;subst hx1;clear he1;obtain⟨ws2,wr2,hc2,hd2,hx2⟩:=qK hd1;subst hx2;clear hd1;injection hc2 with hc2;subst hc2;obtain⟨g0,vc,hv,hR⟩:=hL.row (by simp[qQ.kids]);have HR:=hI hR;clear hR;simp only[tQ,List.length]at hv;subst hv;have S0:=hI (Sw.start hW hL);have HF:=hI hF;have HFL:=hI hFL;have HLEN:=hI hlen;have hBw:=hW.lt;have HFX:=hI hFx;have HFN:=hI hFn;clear hW hF hL hFL hlen hFk hFx hFn;try simp only[qZ,qS,tQ]at *
  go_enter func147,ntmps147
  obtain⟨c0,c1,c2,c3,c4,c5⟩:=S0.o.cells;have hszN:=S0.o.lt;go_wp2_with fail
  try clear c0 c1 c2 c3 c4 c5
  try clear hszN
  have HQ:=wB (t:=(.mk k x m ln co [a0,a1,a2])) (v:=.slice (some ⟨g0,0,none⟩) 3 vc) (lo:=2) (hi:=3) _ S0.o.wr.tab rfl hbare (by first | simp | omega | (have:=HFN.o;(try simp only[List.length]at this ⊢);omega)) (by first | simp | omega | (have:=HFN.o;(try simp only[List.length]at this ⊢);omega));simp only[qZ,tQ]at HQ;refine HQ.mono ?_;clear HQ;rintro e w3 ⟨rfl,hb3⟩;have S3:=hI (S0.o.below hb3);clear S0 hb3;obtain⟨c0,c1,c2,c3,c4,c5⟩:=S3.o.cells;have hszN:=S3.o.lt;go_wp2_with fail
  refine(jF _).mono ?_;rintro e w' ⟨rfl,rfl⟩;try clear c0 c1 c2 c3 c4 c5 hszN
  have HC:=hI ((qVD rec hex hbl) lo B acc (.mk k x m ln co [a0,a1,a2]) _ _ ws1 S3.o.wr S3.o.li HF.o hc1 (by have:=HLEN.o;(try simp only[lL,lO,lZ]at this ⊢);omega));try simp only[qZ,tQ]at HC
  obtain⟨c0,c1,c2,c3,c4,c5⟩:=S3.o.cells;have hszN:=S3.o.lt;go_wp2_with fail
  try clear c0 c1 c2 c3 c4 c5
  try clear hszN
  refine(HC.o).mono ?_;rintro e w4 ⟨rfl,hW4,hK4⟩;have S4:=hI (S3.o.call hW4 hK4);clear S3 hW4 hK4 HC;obtain⟨c0,c1,c2,c3,c4,c5⟩:=S4.o.cells;have hszN:=S4.o.lt;go_wp2_with fail
  try clear c0 c1 c2 c3 c4 c5
  try clear hszN
  have H:=jZ (S:=w4.1.size) [[101,108,115,101]] S4.o.wr (by simp) (by simp) (by have:=HLEN.o;(try simp only[lL,lO,lZ]at this ⊢);omega);simp only[jT,List.map,List.length]at H;refine H.mono ?_;clear H;rintro e w5 ⟨rfl,hW5,hK5⟩;have S5:=hI (S4.o.call hW5 hK5);clear S4 hW5 hK5;obtain⟨qa,na,ca,hla,hca⟩:=(HR.o.keep S5.o.kp.below).2 2 (by simp);simp only[Nat.zero_add,Nat.zero_mul,Nat.one_mul,Nat.reduceAdd,Nat.reduceMul,List.getElem_cons_zero,List.getElem_cons_succ]at hla hca;have⟨k0,k1,k2,k3,k4,k5,_⟩:=hca.a;simp only[Nat.zero_add,Nat.zero_mul,Nat.one_mul,Nat.reduceAdd,Nat.reduceMul,List.getElem_cons_zero,List.getElem_cons_succ]at k0 k1 k2 k3 k4 k5;have HC:=hI (hbl lo B ((acc++ws1)++[[101,108,115,101]]) a2 (.slice qa na ca) _ wr2 S5.o.wr hla (HFL.o.mem _ (by simp)) hd2 (by have:=HLEN.o;(try simp only[lL,lO,lZ]at this ⊢);omega));clear hca hla;try simp only[qZ]at HC
  obtain⟨c0,c1,c2,c3,c4,c5⟩:=S5.o.cells;have hszN:=S5.o.lt;go_wp2_with fail
  try clear c0 c1 c2 c3 c4 c5
  try clear hszN
  try clear k0 k1 k2 k3 k4 k5
  refine(HC.o).mono ?_;rintro e w6 ⟨rfl,hW6,hK6⟩;have S6:=hI (S5.o.call hW6 hK6);clear S5 hW6 hK6 HC;go_wp2
  first | go_end0 | refine bodyPost_ret (v:=.tuple #[]) (by simp[results,results147,go_sem]) rfl ?_
  exact⟨rfl,by simpa[List.append_assoc,qY,qG,qC,qO,zB,zD,zX,qE,kIf,zS,qA,qV,qF,qD,qP,qW,qN,zW,zM,qL,qM,qT,zK,zL,qH,zA]using S6.o.wr,S6.o.kp⟩
def qWe(p:qQ->Ws)(i:Nat)(ts:List qQ):Ws:=if i=0 then wO p ts else qKp p (ts.drop i)
theorem tailW_end(p:qQ->Ws)(ts:List qQ){i:Nat}(h:i<=ts.length)(h':¬i < ts.length):qWe p i ts=some []:=by
 unfold qWe;have:i=ts.length:=by omega
 subst this;split
 ·rename_i h0;rw[List.length_eq_zero_iff]at h0;rw[h0];rfl
 ·rw[List.drop_length];rfl
theorem tailW_zero{p:qQ->Ws}{ts:List qQ}(h:0 < ts.length){ws:List (List UInt8)}(he:qWe p 0 ts=some ws):∃ a b,p ts[0]=some a/\qWe p 1 ts=some b/\ws=a++b:=by
 cases ts with
 | nil=>simp at h
 | cons t r=>exact qK (show jD (p t) (qKp p r)=some ws from he)
theorem tailW_more{p:qQ->Ws}{ts:List qQ}{i:Nat}(h:i < ts.length)(h0:i≠0){ws:List (List UInt8)}(he:qWe p i ts=some ws):∃ a b,p ts[i]=some a/\qWe p (i+1) ts=some b/\ws=[[44]]++(a++b):=by
 unfold qWe at he ⊢;rw[if_neg h0,List.drop_eq_getElem_cons h]at he;obtain⟨x,y,h1,h2,rfl⟩:=qK (show jD (some [[44]]) (jD (p ts[i]) (qKp p (ts.drop (i+1))))=some ws from he);injection h1 with h1;subst h1;obtain⟨a,b,h3,h4,rfl⟩:=qK h2;exact⟨a,b,h3,by rw[if_neg (by omega)];exact h4,rfl⟩
def ComRel(lo B:Nat)(acc:List (List UInt8))(p:qQ->Ws)(ts:List qQ)(ws:List (List UInt8))(w:World)(i:Value)(wr:World):Prop :=
 ∃ (k:Nat) (pre post:List (List UInt8)),k<=ts.length/\i=.int .i64 k/\ws=pre++post/\qWe p k ts=some post/\WAt lo B (acc++pre) wr/\qZk B w wr
theorem qWO(f:Nat)(p:qQ->Ws)(hen:∀ (args:Array Value) (w:World),(callFunc f args).run prog w=.ok (.enter f args) w)(hp:kZ f (fun p n=>#[p,n]) p)(lo B:Nat)(acc:List (List UInt8))(ts:List qQ)(q:Option Addr)(c:Nat)(w:World)(ws:List (List UInt8))
 (hW:WAt lo B acc w) (hK:yD B w ts q) (hn:ts.length<=1000000) (hF:qZn ts) (he:wO p ts=some ws) (hlen:acc.length+ws.length<=1000000000) :
 Calls prog 114 #[.pointer (some ⟨B,0,none⟩), .slice q ts.length c, .func (.func f) #[.pointer (some ⟨B,0,none⟩)] #[]] w fun e w'=>e=.returned (.tuple #[])/\WAt lo B (acc++ws) w'/\qZk B w w':=by
 have HW:=hI hW;have HK:=hI hK;have HF:=hI hF;have HE:=hI he;have HP:=hI hp;have HLEN:=hI hlen;have hBw:=hW.lt;clear hW hK hF he hp hlen;go_enter func114,ntmps114
 go_wp2_with fail
 go_loopw [10] (fun i wr=>ComRel lo B acc p ts ws w i wr) (fun i _=>ts.length - (intOf i).toNat)
 case atStart=>exact⟨0,[],ws,Nat.zero_le _,rfl,rfl,HE.o,by simpa using HW.o,qZk.refl _ _⟩
 case round =>
  obtain⟨k,pre,post,hk,rfl,hws,hpost,hWr,hKr⟩:=hrel;have HWS:=hI hws;have HPO:=hI hpost;have HWR:=hI hWr;have HKR:=hI hKr;clear hws hpost hWr hKr;by_cases hlt:k < ts.length
  ·have hne:ts≠[]:=fun e=>by rw[e]at hlt;simp at hlt
   obtain⟨g,off,rfl,hR⟩:=(HK.o.keep HKR.o.below).resolve_left hne;obtain⟨qa,na,ca,hla,hca⟩:=hR.2 k hlt;have⟨k0,k1,k2,k3,k4,k5,_⟩:=hca.a;have HLA:=hI hla;have hneat:=hI (qZn.mem HF.o ts[k] (List.getElem_mem _));have T0:=hI (Hn.new ts[k] (.slice qa na ca) wr);have HW1:=hI (HWR.o.alloc (.cells (qS ts[k] (.slice qa na ca)).toArray 57));have HK1:=hI (HKR.o.alloc (Nat.le_of_lt hBw) (.cells (qS ts[k] (.slice qa na ca)).toArray 57));have hBr:=HWR.o.lt;have HLL:=hI (HLA.o.keep (((Below.refl _ _).alloc (Nat.le_refl _) (.cells (qS ts[k] (.slice qa na ca)).toArray 57)).mono (Nat.le_of_lt hBr)));clear hca hla hR hne HLA;by_cases hk0:k=0
   ·subst hk0;simp only[Nat.zero_mul,Nat.add_zero]at k0 k1 k2 k3 k4 k5;obtain⟨a,b,ha,hb,hpe⟩:=tailW_zero hlt HPO.o;have HC:=hI (HP.o lo B (acc++pre) ts[0] (.slice qa na ca) _ a HW1.o HLL.o hneat.o ha (by have:=HLEN.o;rw[HWS.o,hpe]at this;simp only[lL]at this ⊢;omega));have HA:=hI ha;have HB:=hI hb;have HPE:=hI hpe;clear ha hb hpe;generalize hu:ts[0]=u at *;simp only[qS,qZ]at *;go_wp2_with fail
    refine(HC.o).mono ?_;rintro e w2 ⟨rfl,hW2,hK2⟩;go_wp2
    go_roundw
    case rel=>exact⟨1,pre++a,b,by omega,by go_num,by rw[HWS.o,HPE.o,List.append_assoc],HB.o,by simpa[List.append_assoc]using hW2,HK1.o.trans hK2⟩
    case measure=>simp[intOf];omega
   ·obtain⟨a,b,ha,hb,hpe⟩:=tailW_more hlt hk0 HPO.o;have hk1:(0:Int) < (k:Int):=by omega
    have HA:=hI ha;have HB:=hI hb;have HPE:=hI hpe;have H:=hI (jZ (S:=wr.1.size+1) [[44]] HW1.o (by simp) (by simp) (by have:=HLEN.o;rw[HWS.o,hpe]at this;simp only[lL,lO,lZ]at this ⊢;omega));simp only[jT,List.map,List.length]at H;clear ha hb hpe;generalize hu:ts[k]=u at *;simp only[qS,qZ]at *;go_wp2_with fail
    refine(H.o).mono ?_;rintro e w2 ⟨rfl,hW2,hK2⟩;have T2:=hI (Hn.keep T0.o hK2 hBr);have HC:=hI (HP.o lo B (acc++pre++[[44]]) u (.slice qa na ca) w2 a hW2 (HLL.o.keep hK2.below) hneat.o HA.o (by have:=HLEN.o;rw[HWS.o,HPE.o]at this;simp only[lL,lO,lZ]at this ⊢;omega));obtain⟨c0,c1,c2,c3,c4,c5⟩:=T2.o.cells;have hl2:=T2.o.lt;have HK2:=hI (HK1.o.trans hK2);clear hW2 hK2 T0 T2 HW1 HK1 H k0 k1 k2 k3 k4 k5;unfold qZ at *;go_wp2_with fail
    refine(HC.o).mono ?_;rintro e w3 ⟨rfl,hW3,hK3⟩;go_wp2
    go_roundw
    case rel=>exact⟨k+1,pre++([[44]]++a),b,by omega,by go_num,by rw[HWS.o,HPE.o];simp only[List.append_assoc],HB.o,by simpa[List.append_assoc]using hW3,HK2.o.trans hK3⟩
    case measure=>simp[intOf];omega
  ·have hend:=tailW_end p ts hk hlt;go_wp2
   go_end0;have hp0:post=[]:=by have h:=HPO.o;rw[hend]at h;injection h with h;exact h.symm
   refine⟨rfl,?_,HKR.o⟩;rw[HWS.o,hp0,lA];exact HWR.o
theorem call_w(rec:WT->qQ->Ws)(hex:kZ 150 (fun p n=>#[p,n]) (rec .expr)):kZ 149 (fun p n=>#[p,n]) (qKY rec):=by
 intro lo B acc t v w ws hW hL hF he hlen;obtain⟨k,x,m,ln,co,ks⟩:=t;obtain⟨hFk,hFx,hFm0,hFm1,hFn,hFL⟩:=id hF;simp only[qKY,qY,qG,qC,qO,zB,zD,zX,qE,kIf,zS,qA,qV,qF,qD,qP,qW,qN,zW,zM,qL,qM,qT,zK,zL,qH,zA,tQ]at he;obtain⟨hb,he1⟩:=zN he;clear he;simp only[bE,beq_iff_eq]at hb;obtain⟨rfl,hnm⟩:=hb;obtain⟨ws1,wr1,hc1,hd1,hx1⟩:=qK he1;subst hx1;clear he1;injection hc1 with hc1;subst hc1;obtain⟨ws2,wr2,hc2,hd2,hx2⟩:=qK hd1;subst hx2;clear hd1;injection hd2 with hd2;subst hd2;obtain⟨q0,vc,hv,hvc,hvm,hka⟩:=hL.kids;have HKA:=hI hka;clear hka;simp only[tQ,List.length]at hv;subst hv;have S0:=hI (Sw.start hW hL);have HF:=hI hF;have HFL:=hI hFL;have HLEN:=hI hlen;have hBw:=hW.lt;have HFX:=hI hFx;have HFN:=hI hFn;clear hW hF hL hFL hlen hFk hFx hFn;try simp only[qZ,qS,tQ]at *
 have hmf:=zT;go_enter func149,ntmps149
 obtain⟨c0,c1,c2,c3,c4,c5⟩:=S0.o.cells;have hszN:=S0.o.lt;go_wp2_with fail
 try clear c0 c1 c2 c3 c4 c5
 try clear hszN
 have HQ:=qZg (t:=(.mk [99,97,108,108] x m ln co ks)) (v:=.slice q0 ks.length vc) (lo:=0) (hi:=9223372036854775807) _ S0.o.wr.tab HFX.o rfl hnm (by first | simp | omega | (have:=HFN.o;(try simp only[List.length]at this ⊢);omega)) (by first | simp | omega | (have:=HFN.o;(try simp only[List.length]at this ⊢);omega));simp only[qZ,tQ]at HQ;refine HQ.mono ?_;clear HQ;rintro e w3 ⟨rfl,hb3⟩;have S3:=hI (S0.o.below hb3);clear S0 hb3;obtain⟨c0,c1,c2,c3,c4,c5⟩:=S3.o.cells;have hszN:=S3.o.lt;go_wp2_with fail
 refine(jF _).mono ?_;rintro e w' ⟨rfl,rfl⟩;try clear c0 c1 c2 c3 c4 c5 hszN
 obtain⟨c0,c1,c2,c3,c4,c5⟩:=S3.o.cells;have hszN:=S3.o.lt;go_wp2_with fail
 try clear c0 c1 c2 c3 c4 c5
 try clear hszN
 have H:=jZ (S:=w3.1.size) [x,[40]] S3.o.wr (by simp) (by simp) (by have:=HLEN.o;(try simp only[lL,lO,lZ]at this ⊢);omega);simp only[jT,List.map,List.length]at H;refine H.mono ?_;clear H;rintro e w4 ⟨rfl,hW4,hK4⟩;have S4:=hI (S3.o.call hW4 hK4);clear S3 hW4 hK4;have HC:=hI (qWO 150 (rec .expr) (fun _ _=>rfl) hex lo B (acc++[x,[40]]) ks q0 vc _ ws2 S4.o.wr (HKA.o.keep S4.o.kp.below) (by first | (have:=HFN.o;simpa using this) | simp) HFL.o hc2 (by have:=HLEN.o;(try simp only[lL,lO,lZ]at this ⊢);omega));try simp only[List.length]at HC
 obtain⟨c0,c1,c2,c3,c4,c5⟩:=S4.o.cells;have hszN:=S4.o.lt;go_wp2_with fail
 try clear c0 c1 c2 c3 c4 c5
 try clear hszN
 refine(HC.o).mono ?_;rintro e w5 ⟨rfl,hW5,hK5⟩;have S5:=hI (S4.o.call hW5 hK5);clear S4 hW5 hK5 HC;obtain⟨c0,c1,c2,c3,c4,c5⟩:=S5.o.cells;have hszN:=S5.o.lt;go_wp2_with fail
 try clear c0 c1 c2 c3 c4 c5
 try clear hszN
 have H:=jZ (S:=w5.1.size) [[41]] S5.o.wr (by simp) (by simp) (by have:=HLEN.o;(try simp only[lL,lO,lZ]at this ⊢);omega);simp only[jT,List.map,List.length]at H;refine H.mono ?_;clear H;rintro e w6 ⟨rfl,hW6,hK6⟩;have S6:=hI (S5.o.call hW6 hK6);clear S5 hW6 hK6;go_wp2
 first | go_end0 | refine bodyPost_ret (v:=.tuple #[]) (by simp[results,results149,go_sem]) rfl ?_
 exact⟨rfl,by simpa[List.append_assoc,qY,qG,qC,qO,zB,zD,zX,qE,kIf,zS,qA,qV,qF,qD,qP,qW,qN,zW,zM,qL,qM,qT,zK,zL,qH,zA]using S6.o.wr,S6.o.kp⟩
theorem gift_w(rec:WT->qQ->Ws)(hex:kZ 150 (fun p n=>#[p,n]) (rec .expr)):kZ 151 (fun p n=>#[p,n]) (qPF rec):=by
 intro lo B acc t v w ws hW hL hF he hlen;obtain⟨k,x,m,ln,co,ks⟩:=t;obtain⟨hFk,hFx,hFm0,hFm1,hFn,hFL⟩:=id hF;simp only[qPF,qY,qG,qC,qO,zB,zD,zX,qE,kIf,zS,qA,qV,qF,qD,qP,qW,qN,zW,zM,qL,qM,qT,zK,zL,qH,zA,tQ]at he;obtain⟨hbare,he1⟩:=zN he;clear he;rcases ks with _ | ⟨a0,_ | ⟨a1,_ | ⟨b,r⟩⟩⟩
 ·simp at he1
 rotate_right
 ·simp at he1
 ·simp only at he1;obtain⟨hb,he2⟩:=zN he1;clear he1;obtain rfl:k=[110,111,110,100,101,116]:=by simpa using hb
  clear hb;obtain⟨ws1,wr1,hc1,hd1,hx1⟩:=qK he2;subst hx1;clear he2;injection hd1 with hd1;subst hd1;obtain⟨g0,vc,hv,hR⟩:=hL.row (by simp[qQ.kids]);have HR:=hI hR;clear hR;simp only[tQ,List.length]at hv;subst hv;have S0:=hI (Sw.start hW hL);have HF:=hI hF;have HFL:=hI hFL;have HLEN:=hI hlen;have hBw:=hW.lt;have HFX:=hI hFx;have HFN:=hI hFn;clear hW hF hL hFL hlen hFk hFx hFn;try simp only[qZ,qS,tQ]at *
  go_enter func151,ntmps151
  obtain⟨c0,c1,c2,c3,c4,c5⟩:=S0.o.cells;have hszN:=S0.o.lt;go_wp2_with fail
  try clear c0 c1 c2 c3 c4 c5
  try clear hszN
  have HQ:=wB (t:=(.mk [110,111,110,100,101,116] x m ln co [a0])) (v:=.slice (some ⟨g0,0,none⟩) 1 vc) (lo:=1) (hi:=1) _ S0.o.wr.tab rfl hbare (by first | simp | omega | (have:=HFN.o;(try simp only[List.length]at this ⊢);omega)) (by first | simp | omega | (have:=HFN.o;(try simp only[List.length]at this ⊢);omega));simp only[qZ,tQ]at HQ;refine HQ.mono ?_;clear HQ;rintro e w2 ⟨rfl,hb2⟩;have S2:=hI (S0.o.below hb2);clear S0 hb2;obtain⟨c0,c1,c2,c3,c4,c5⟩:=S2.o.cells;have hszN:=S2.o.lt;go_wp2_with fail
  refine(jF _).mono ?_;rintro e w' ⟨rfl,rfl⟩;try clear c0 c1 c2 c3 c4 c5 hszN
  obtain⟨qa,na,ca,hla,hca⟩:=(HR.o.keep S2.o.kp.below).2 0 (by simp);simp only[Nat.zero_add,Nat.zero_mul,Nat.one_mul,Nat.reduceAdd,Nat.reduceMul,List.getElem_cons_zero,List.getElem_cons_succ]at hla hca;have⟨k0,k1,k2,k3,k4,k5,_⟩:=hca.a;simp only[Nat.zero_add,Nat.zero_mul,Nat.one_mul,Nat.reduceAdd,Nat.reduceMul,List.getElem_cons_zero,List.getElem_cons_succ]at k0 k1 k2 k3 k4 k5;have HC:=hI ((qVn rec hex) lo B acc a0 (.slice qa na ca) _ ws1 S2.o.wr hla (HFL.o.mem _ (by simp)) hc1 (by have:=HLEN.o;(try simp only[lL,lO,lZ]at this ⊢);omega));clear hca hla;try simp only[qZ]at HC
  obtain⟨c0,c1,c2,c3,c4,c5⟩:=S2.o.cells;have hszN:=S2.o.lt;go_wp2_with fail
  try clear c0 c1 c2 c3 c4 c5
  try clear hszN
  try clear k0 k1 k2 k3 k4 k5
  refine(HC.o).mono ?_;rintro e w3 ⟨rfl,hW3,hK3⟩;have S3:=hI (S2.o.call hW3 hK3);clear S2 hW3 hK3 HC;obtain⟨c0,c1,c2,c3,c4,c5⟩:=S3.o.cells;have hszN:=S3.o.lt;go_wp2_with fail
  try clear c0 c1 c2 c3 c4 c5
  try clear hszN
  have H:=jZ (S:=w3.1.size) [[61]] S3.o.wr (by simp) (by simp) (by have:=HLEN.o;(try simp only[lL,lO,lZ]at this ⊢);omega);simp only[jT,List.map,List.length]at H;refine H.mono ?_;clear H;rintro e w4 ⟨rfl,hW4,hK4⟩;have S4:=hI (S3.o.call hW4 hK4);clear S3 hW4 hK4;obtain⟨c0,c1,c2,c3,c4,c5⟩:=S4.o.cells;have hszN:=S4.o.lt;go_wp2_with fail
  try clear c0 c1 c2 c3 c4 c5
  try clear hszN
  have H:=jZ (S:=w4.1.size) [[110,111,110,100,101,116],[40],[41]] S4.o.wr (by simp) (by simp) (by have:=HLEN.o;(try simp only[lL,lO,lZ]at this ⊢);omega);simp only[jT,List.map,List.length]at H;refine H.mono ?_;clear H;rintro e w5 ⟨rfl,hW5,hK5⟩;have S5:=hI (S4.o.call hW5 hK5);clear S4 hW5 hK5;go_wp2
  first | go_end0 | refine bodyPost_ret (v:=.tuple #[]) (by simp[results,results151,go_sem]) rfl ?_
  exact⟨rfl,by simpa[List.append_assoc,qY,qG,qC,qO,zB,zD,zX,qE,kIf,zS,qA,qV,qF,qD,qP,qW,qN,zW,zM,qL,qM,qT,zK,zL,qH,zA]using S5.o.wr,S5.o.kp⟩
 ·simp only at he1;have he:=he1;clear he1;cases hq1:(k == [97,115,115,105,103,110]);case true =>
   simp only[hq1,bU,bV,bT,if_true,reduceIte]at he;obtain rfl:k=[97,115,115,105,103,110]:=by simpa using hq1
   clear hq1;obtain⟨ws1,wr1,hc1,hd1,hx1⟩:=qK he;subst hx1;clear he;obtain⟨ws2,wr2,hc2,hd2,hx2⟩:=qK hd1;subst hx2;clear hd1;injection hc2 with hc2;subst hc2;obtain⟨g0,vc,hv,hR⟩:=hL.row (by simp[qQ.kids]);have HR:=hI hR;clear hR;simp only[tQ,List.length]at hv;subst hv;have S0:=hI (Sw.start hW hL);have HF:=hI hF;have HFL:=hI hFL;have HLEN:=hI hlen;have hBw:=hW.lt;have HFX:=hI hFx;have HFN:=hI hFn;clear hW hF hL hFL hlen hFk hFx hFn;try simp only[qZ,qS,tQ]at *
   go_enter func151,ntmps151
   obtain⟨c0,c1,c2,c3,c4,c5⟩:=S0.o.cells;have hszN:=S0.o.lt;go_wp2_with fail
   try clear c0 c1 c2 c3 c4 c5
   try clear hszN
   have HQ:=wB (t:=(.mk [97,115,115,105,103,110] x m ln co [a0,a1])) (v:=.slice (some ⟨g0,0,none⟩) 2 vc) (lo:=2) (hi:=2) _ S0.o.wr.tab rfl hbare (by first | simp | omega | (have:=HFN.o;(try simp only[List.length]at this ⊢);omega)) (by first | simp | omega | (have:=HFN.o;(try simp only[List.length]at this ⊢);omega));simp only[qZ,tQ]at HQ;refine HQ.mono ?_;clear HQ;rintro e w3 ⟨rfl,hb3⟩;have S3:=hI (S0.o.below hb3);clear S0 hb3;obtain⟨c0,c1,c2,c3,c4,c5⟩:=S3.o.cells;have hszN:=S3.o.lt;go_wp2_with fail
   refine(jF _).mono ?_;rintro e w' ⟨rfl,rfl⟩;try clear c0 c1 c2 c3 c4 c5 hszN
   obtain⟨qa,na,ca,hla,hca⟩:=(HR.o.keep S3.o.kp.below).2 0 (by simp);simp only[Nat.zero_add,Nat.zero_mul,Nat.one_mul,Nat.reduceAdd,Nat.reduceMul,List.getElem_cons_zero,List.getElem_cons_succ]at hla hca;have⟨k0,k1,k2,k3,k4,k5,_⟩:=hca.a;simp only[Nat.zero_add,Nat.zero_mul,Nat.one_mul,Nat.reduceAdd,Nat.reduceMul,List.getElem_cons_zero,List.getElem_cons_succ]at k0 k1 k2 k3 k4 k5;have HC:=hI ((qVn rec hex) lo B acc a0 (.slice qa na ca) _ ws1 S3.o.wr hla (HFL.o.mem _ (by simp)) hc1 (by have:=HLEN.o;(try simp only[lL,lO,lZ]at this ⊢);omega));clear hca hla;try simp only[qZ]at HC
   obtain⟨c0,c1,c2,c3,c4,c5⟩:=S3.o.cells;have hszN:=S3.o.lt;go_wp2_with fail
   try clear c0 c1 c2 c3 c4 c5
   try clear hszN
   try clear k0 k1 k2 k3 k4 k5
   refine(HC.o).mono ?_;rintro e w4 ⟨rfl,hW4,hK4⟩;have S4:=hI (S3.o.call hW4 hK4);clear S3 hW4 hK4 HC;obtain⟨c0,c1,c2,c3,c4,c5⟩:=S4.o.cells;have hszN:=S4.o.lt;go_wp2_with fail
   try clear c0 c1 c2 c3 c4 c5
   try clear hszN
   have H:=jZ (S:=w4.1.size) [[61]] S4.o.wr (by simp) (by simp) (by have:=HLEN.o;(try simp only[lL,lO,lZ]at this ⊢);omega);simp only[jT,List.map,List.length]at H;refine H.mono ?_;clear H;rintro e w5 ⟨rfl,hW5,hK5⟩;have S5:=hI (S4.o.call hW5 hK5);clear S4 hW5 hK5;obtain⟨qa,na,ca,hla,hca⟩:=(HR.o.keep S5.o.kp.below).2 1 (by simp);simp only[Nat.zero_add,Nat.zero_mul,Nat.one_mul,Nat.reduceAdd,Nat.reduceMul,List.getElem_cons_zero,List.getElem_cons_succ]at hla hca;have⟨k0,k1,k2,k3,k4,k5,_⟩:=hca.a;simp only[Nat.zero_add,Nat.zero_mul,Nat.one_mul,Nat.reduceAdd,Nat.reduceMul,List.getElem_cons_zero,List.getElem_cons_succ]at k0 k1 k2 k3 k4 k5;have HC:=hI (hex lo B ((acc++ws1)++[[61]]) a1 (.slice qa na ca) _ wr2 S5.o.wr hla (HFL.o.mem _ (by simp)) hd2 (by have:=HLEN.o;(try simp only[lL,lO,lZ]at this ⊢);omega));clear hca hla;try simp only[qZ]at HC
   obtain⟨c0,c1,c2,c3,c4,c5⟩:=S5.o.cells;have hszN:=S5.o.lt;go_wp2_with fail
   try clear c0 c1 c2 c3 c4 c5
   try clear hszN
   try clear k0 k1 k2 k3 k4 k5
   refine(HC.o).mono ?_;rintro e w6 ⟨rfl,hW6,hK6⟩;have S6:=hI (S5.o.call hW6 hK6);clear S5 hW6 hK6 HC;go_wp2
   first | go_end0 | refine bodyPost_ret (v:=.tuple #[]) (by simp[results,results151,go_sem]) rfl ?_
   exact⟨rfl,by simpa[List.append_assoc,qY,qG,qC,qO,zB,zD,zX,qE,kIf,zS,qA,qV,qF,qD,qP,qW,qN,zW,zM,qL,qM,qT,zK,zL,qH,zA]using S6.o.wr,S6.o.kp⟩
  case false =>
  simp only[hq1,bO,bP,bF,if_false,reduceIte]at he;obtain⟨hb,he2⟩:=zN he;clear he;obtain rfl:k=[114,101,115,117,108,116]:=by simpa using hb
  clear hb hq1;obtain⟨ws1,wr1,hc1,hd1,hx1⟩:=qK he2;subst hx1;clear he2;obtain⟨ws2,wr2,hc2,hd2,hx2⟩:=qK hd1;subst hx2;clear hd1;injection hc2 with hc2;subst hc2;obtain⟨g0,vc,hv,hR⟩:=hL.row (by simp[qQ.kids]);have HR:=hI hR;clear hR;simp only[tQ,List.length]at hv;subst hv;have S0:=hI (Sw.start hW hL);have HF:=hI hF;have HFL:=hI hFL;have HLEN:=hI hlen;have hBw:=hW.lt;have HFX:=hI hFx;have HFN:=hI hFn;clear hW hF hL hFL hlen hFk hFx hFn;try simp only[qZ,qS,tQ]at *
  go_enter func151,ntmps151
  obtain⟨c0,c1,c2,c3,c4,c5⟩:=S0.o.cells;have hszN:=S0.o.lt;go_wp2_with fail
  try clear c0 c1 c2 c3 c4 c5
  try clear hszN
  have HQ:=wB (t:=(.mk [114,101,115,117,108,116] x m ln co [a0,a1])) (v:=.slice (some ⟨g0,0,none⟩) 2 vc) (lo:=2) (hi:=2) _ S0.o.wr.tab rfl hbare (by first | simp | omega | (have:=HFN.o;(try simp only[List.length]at this ⊢);omega)) (by first | simp | omega | (have:=HFN.o;(try simp only[List.length]at this ⊢);omega));simp only[qZ,tQ]at HQ;refine HQ.mono ?_;clear HQ;rintro e w3 ⟨rfl,hb3⟩;have S3:=hI (S0.o.below hb3);clear S0 hb3;obtain⟨c0,c1,c2,c3,c4,c5⟩:=S3.o.cells;have hszN:=S3.o.lt;go_wp2_with fail
  refine(jF _).mono ?_;rintro e w' ⟨rfl,rfl⟩;try clear c0 c1 c2 c3 c4 c5 hszN
  obtain⟨qa,na,ca,hla,hca⟩:=(HR.o.keep S3.o.kp.below).2 0 (by simp);simp only[Nat.zero_add,Nat.zero_mul,Nat.one_mul,Nat.reduceAdd,Nat.reduceMul,List.getElem_cons_zero,List.getElem_cons_succ]at hla hca;have⟨k0,k1,k2,k3,k4,k5,_⟩:=hca.a;simp only[Nat.zero_add,Nat.zero_mul,Nat.one_mul,Nat.reduceAdd,Nat.reduceMul,List.getElem_cons_zero,List.getElem_cons_succ]at k0 k1 k2 k3 k4 k5;have HC:=hI ((qVn rec hex) lo B acc a0 (.slice qa na ca) _ ws1 S3.o.wr hla (HFL.o.mem _ (by simp)) hc1 (by have:=HLEN.o;(try simp only[lL,lO,lZ]at this ⊢);omega));clear hca hla;try simp only[qZ]at HC
  obtain⟨c0,c1,c2,c3,c4,c5⟩:=S3.o.cells;have hszN:=S3.o.lt;go_wp2_with fail
  try clear c0 c1 c2 c3 c4 c5
  try clear hszN
  try clear k0 k1 k2 k3 k4 k5
  refine(HC.o).mono ?_;rintro e w4 ⟨rfl,hW4,hK4⟩;have S4:=hI (S3.o.call hW4 hK4);clear S3 hW4 hK4 HC;obtain⟨c0,c1,c2,c3,c4,c5⟩:=S4.o.cells;have hszN:=S4.o.lt;go_wp2_with fail
  try clear c0 c1 c2 c3 c4 c5
  try clear hszN
  have H:=jZ (S:=w4.1.size) [[61]] S4.o.wr (by simp) (by simp) (by have:=HLEN.o;(try simp only[lL,lO,lZ]at this ⊢);omega);simp only[jT,List.map,List.length]at H;refine H.mono ?_;clear H;rintro e w5 ⟨rfl,hW5,hK5⟩;have S5:=hI (S4.o.call hW5 hK5);clear S4 hW5 hK5;obtain⟨qa,na,ca,hla,hca⟩:=(HR.o.keep S5.o.kp.below).2 1 (by simp);simp only[Nat.zero_add,Nat.zero_mul,Nat.one_mul,Nat.reduceAdd,Nat.reduceMul,List.getElem_cons_zero,List.getElem_cons_succ]at hla hca;have⟨k0,k1,k2,k3,k4,k5,_⟩:=hca.a;simp only[Nat.zero_add,Nat.zero_mul,Nat.one_mul,Nat.reduceAdd,Nat.reduceMul,List.getElem_cons_zero,List.getElem_cons_succ]at k0 k1 k2 k3 k4 k5;have HC:=hI ((call_w rec hex) lo B ((acc++ws1)++[[61]]) a1 (.slice qa na ca) _ wr2 S5.o.wr hla (HFL.o.mem _ (by simp)) hd2 (by have:=HLEN.o;(try simp only[lL,lO,lZ]at this ⊢);omega));clear hca hla;try simp only[qZ]at HC
  obtain⟨c0,c1,c2,c3,c4,c5⟩:=S5.o.cells;have hszN:=S5.o.lt;go_wp2_with fail
  try clear c0 c1 c2 c3 c4 c5
  try clear hszN
  try clear k0 k1 k2 k3 k4 k5
  refine(HC.o).mono ?_;rintro e w6 ⟨rfl,hW6,hK6⟩;have S6:=hI (S5.o.call hW6 hK6);clear S5 hW6 hK6 HC;go_wp2
  first | go_end0 | refine bodyPost_ret (v:=.tuple #[]) (by simp[results,results151,go_sem]) rfl ?_
  exact⟨rfl,by simpa[List.append_assoc,qY,qG,qC,qO,zB,zD,zX,qE,kIf,zS,qA,qV,qF,qD,qP,qW,qN,zW,zM,qL,qM,qT,zK,zL,qH,zA]using S6.o.wr,S6.o.kp⟩
theorem qLd(rec:WT->qQ->Ws)(hex:kZ 150 (fun p n=>#[p,n]) (rec .expr))(hbl:kZ 116 (fun p n=>#[p,n]) (rec .block)):kZ 129 (fun p n=>#[p,n]) (qJr rec):=by
 intro lo B acc t v w ws hW hL hF he hlen;obtain⟨k,x,m,ln,co,ks⟩:=t;obtain⟨hFk,hFx,hFm0,hFm1,hFn,hFL⟩:=id hF;unfold qJr qQn at he;simp only[qY,qG,qC,qO,zB,zD,zX,qE,kIf,zS,qA,qV,qF,qD,qP,qW,qN,zW,zM,qL,qM,qT,zK,zL,qH,zA,tQ]at he;cases hq0:(k == [105,102]);case true =>
  simp only[hq0,bU,bV,bT,if_true,reduceIte]at he;obtain rfl:k=[105,102]:=by simpa using hq0
  clear hq0;obtain⟨q0,vc,hv,hvc,hvm⟩:=hL.shape;simp only[tQ,List.length]at hv;subst hv;have S0:=hI (Sw.start hW hL);have HF:=hI hF;have HFL:=hI hFL;have HLEN:=hI hlen;have hBw:=hW.lt;have HFX:=hI hFx;have HFN:=hI hFn;clear hW hF hL hFL hlen hFk hFx hFn;try simp only[qZ,qS,tQ]at *
  go_enter func129,ntmps129
  have HC:=hI ((choice_w rec hex hbl) lo B acc (.mk [105,102] x m ln co ks) _ _ ws S0.o.wr S0.o.li HF.o he (by have:=HLEN.o;(try simp only[lL,lO,lZ]at this ⊢);omega));try simp only[qZ,tQ]at HC
  obtain⟨c0,c1,c2,c3,c4,c5⟩:=S0.o.cells;have hszN:=S0.o.lt;go_wp2_with fail
  try clear c0 c1 c2 c3 c4 c5
  try clear hszN
  refine(HC.o).mono ?_;rintro e w1 ⟨rfl,hW1,hK1⟩;have S1:=hI (S0.o.call hW1 hK1);clear S0 hW1 hK1 HC;go_wp2
  first | go_end0 | refine bodyPost_ret (v:=.tuple #[]) (by simp[results,results129,go_sem]) rfl ?_
  exact⟨rfl,by simpa[List.append_assoc,qY,qG,qC,qO,zB,zD,zX,qE,kIf,zS,qA,qV,qF,qD,qP,qW,qN,zW,zM,qL,qM,qT,zK,zL,qH,zA]using S1.o.wr,S1.o.kp⟩
 case false =>
 simp only[hq0,bO,bP,bF,if_false,reduceIte]at he;cases hq1:(k == [119,104,105,108,101]);case true =>
  simp only[hq1,bU,bV,bT,if_true,reduceIte]at he;obtain rfl:k=[119,104,105,108,101]:=by simpa using hq1
  clear hq1;obtain⟨hb,he1⟩:=zN he;clear he;simp only[bE,decide_eq_true_eq]at hb;obtain⟨hbare,hl⟩:=hb;simp only[beq_iff_eq]at hl;obtain⟨a0,a1,rfl⟩:∃ a b,ks=[a,b]:=⟨_,_,List.eq_getElem_of_length_eq_two ks hl⟩;clear hl;obtain⟨g0,vc,hv,hR⟩:=hL.row (by simp[qQ.kids]);have HR:=hI hR;clear hR;simp only[tQ,List.length]at hv;subst hv;have S0:=hI (Sw.start hW hL);have HF:=hI hF;have HFL:=hI hFL;have HLEN:=hI hlen;have hBw:=hW.lt;have HFX:=hI hFx;have HFN:=hI hFn;clear hW hF hL hFL hlen hFk hFx hFn;try simp only[qZ,qS,tQ]at *
  go_enter func129,ntmps129
  obtain⟨c0,c1,c2,c3,c4,c5⟩:=S0.o.cells;have hszN:=S0.o.lt;go_wp2_with fail
  try clear c0 c1 c2 c3 c4 c5
  try clear hszN
  have HQ:=wB (t:=(.mk [119,104,105,108,101] x m ln co [a0,a1])) (v:=.slice (some ⟨g0,0,none⟩) 2 vc) (lo:=2) (hi:=2) _ S0.o.wr.tab rfl hbare (by first | simp | omega | (have:=HFN.o;(try simp only[List.length]at this ⊢);omega)) (by first | simp | omega | (have:=HFN.o;(try simp only[List.length]at this ⊢);omega));simp only[qZ,tQ]at HQ;refine HQ.mono ?_;clear HQ;rintro e w1 ⟨rfl,hb1⟩;have S1:=hI (S0.o.below hb1);clear S0 hb1;obtain⟨c0,c1,c2,c3,c4,c5⟩:=S1.o.cells;have hszN:=S1.o.lt;go_wp2_with fail
  refine(jF _).mono ?_;rintro e w' ⟨rfl,rfl⟩;try clear c0 c1 c2 c3 c4 c5 hszN
  have HC:=hI ((qVD rec hex hbl) lo B acc (.mk [119,104,105,108,101] x m ln co [a0,a1]) _ _ ws S1.o.wr S1.o.li HF.o he1 (by have:=HLEN.o;(try simp only[lL,lO,lZ]at this ⊢);omega));try simp only[qZ,tQ]at HC
  obtain⟨c0,c1,c2,c3,c4,c5⟩:=S1.o.cells;have hszN:=S1.o.lt;go_wp2_with fail
  try clear c0 c1 c2 c3 c4 c5
  try clear hszN
  refine(HC.o).mono ?_;rintro e w2 ⟨rfl,hW2,hK2⟩;have S2:=hI (S1.o.call hW2 hK2);clear S1 hW2 hK2 HC;go_wp2
  first | go_end0 | refine bodyPost_ret (v:=.tuple #[]) (by simp[results,results129,go_sem]) rfl ?_
  exact⟨rfl,by simpa[List.append_assoc,qY,qG,qC,qO,zB,zD,zX,qE,kIf,zS,qA,qV,qF,qD,qP,qW,qN,zW,zM,qL,qM,qT,zK,zL,qH,zA]using S2.o.wr,S2.o.kp⟩
 case false =>
 simp only[hq1,bO,bP,bF,if_false,reduceIte]at he;cases hq2:(k == [108,111,99,97,108]);case true =>
  simp only[hq2,bU,bV,bT,if_true,reduceIte]at he;obtain rfl:k=[108,111,99,97,108]:=by simpa using hq2
  clear hq2;obtain⟨hb,he1⟩:=zN he;clear he;simp only[bE,decide_eq_true_eq]at hb;obtain⟨hnm,hl⟩:=hb;simp only[beq_iff_eq]at hl;obtain⟨a0,rfl⟩:=List.length_eq_one_iff.1 hl;clear hl;obtain⟨ws1,wr1,hc1,hd1,hx1⟩:=qK he1;subst hx1;clear he1;injection hd1 with hd1;subst hd1;obtain⟨g0,vc,hv,hR⟩:=hL.row (by simp[qQ.kids]);have HR:=hI hR;clear hR;simp only[tQ,List.length]at hv;subst hv;have S0:=hI (Sw.start hW hL);have HF:=hI hF;have HFL:=hI hFL;have HLEN:=hI hlen;have hBw:=hW.lt;have HFX:=hI hFx;have HFN:=hI hFn;clear hW hF hL hFL hlen hFk hFx hFn;try simp only[qZ,qS,tQ]at *
  go_enter func129,ntmps129
  obtain⟨c0,c1,c2,c3,c4,c5⟩:=S0.o.cells;have hszN:=S0.o.lt;go_wp2_with fail
  try clear c0 c1 c2 c3 c4 c5
  try clear hszN
  have HQ:=qZg (t:=(.mk [108,111,99,97,108] x m ln co [a0])) (v:=.slice (some ⟨g0,0,none⟩) 1 vc) (lo:=1) (hi:=1) _ S0.o.wr.tab HFX.o rfl hnm (by first | simp | omega | (have:=HFN.o;(try simp only[List.length]at this ⊢);omega)) (by first | simp | omega | (have:=HFN.o;(try simp only[List.length]at this ⊢);omega));simp only[qZ,tQ]at HQ;refine HQ.mono ?_;clear HQ;rintro e w2 ⟨rfl,hb2⟩;have S2:=hI (S0.o.below hb2);clear S0 hb2;obtain⟨c0,c1,c2,c3,c4,c5⟩:=S2.o.cells;have hszN:=S2.o.lt;go_wp2_with fail
  refine(jF _).mono ?_;rintro e w' ⟨rfl,rfl⟩;try clear c0 c1 c2 c3 c4 c5 hszN
  have HC:=hI ((qXn false) lo B acc (.mk [108,111,99,97,108] x m ln co [a0]) _ _ ws1 S2.o.wr S2.o.li HF.o hc1 (by have:=HLEN.o;(try simp only[lL,lO,lZ]at this ⊢);omega));try simp only[qZ,tQ]at HC
  obtain⟨c0,c1,c2,c3,c4,c5⟩:=S2.o.cells;have hszN:=S2.o.lt;go_wp2_with fail
  try clear c0 c1 c2 c3 c4 c5
  try clear hszN
  refine(HC.o).mono ?_;rintro e w3 ⟨rfl,hW3,hK3⟩;have S3:=hI (S2.o.call hW3 hK3);clear S2 hW3 hK3 HC;obtain⟨c0,c1,c2,c3,c4,c5⟩:=S3.o.cells;have hszN:=S3.o.lt;go_wp2_with fail
  try clear c0 c1 c2 c3 c4 c5
  try clear hszN
  have H:=jZ (S:=w3.1.size) [[59]] S3.o.wr (by simp) (by simp) (by have:=HLEN.o;(try simp only[lL,lO,lZ]at this ⊢);omega);simp only[jT,List.map,List.length]at H;refine H.mono ?_;clear H;rintro e w4 ⟨rfl,hW4,hK4⟩;have S4:=hI (S3.o.call hW4 hK4);clear S3 hW4 hK4;go_wp2
  first | go_end0 | refine bodyPost_ret (v:=.tuple #[]) (by simp[results,results129,go_sem]) rfl ?_
  exact⟨rfl,by simpa[List.append_assoc,qY,qG,qC,qO,zB,zD,zX,qE,kIf,zS,qA,qV,qF,qD,qP,qW,qN,zW,zM,qL,qM,qT,zK,zL,qH,zA]using S4.o.wr,S4.o.kp⟩
 case false =>
 simp only[hq2,bO,bP,bF,if_false,reduceIte]at he;cases hq3:(k == [99,97,108,108]);case true =>
  simp only[hq3,bU,bV,bT,if_true,reduceIte]at he;obtain rfl:k=[99,97,108,108]:=by simpa using hq3
  clear hq3;obtain⟨ws1,wr1,hc1,hd1,hx1⟩:=qK he;subst hx1;clear he;injection hd1 with hd1;subst hd1;obtain⟨q0,vc,hv,hvc,hvm⟩:=hL.shape;simp only[tQ,List.length]at hv;subst hv;have S0:=hI (Sw.start hW hL);have HF:=hI hF;have HFL:=hI hFL;have HLEN:=hI hlen;have hBw:=hW.lt;have HFX:=hI hFx;have HFN:=hI hFn;clear hW hF hL hFL hlen hFk hFx hFn;try simp only[qZ,qS,tQ]at *
  go_enter func129,ntmps129
  have HC:=hI ((call_w rec hex) lo B acc (.mk [99,97,108,108] x m ln co ks) _ _ ws1 S0.o.wr S0.o.li HF.o hc1 (by have:=HLEN.o;(try simp only[lL,lO,lZ]at this ⊢);omega));try simp only[qZ,tQ]at HC
  obtain⟨c0,c1,c2,c3,c4,c5⟩:=S0.o.cells;have hszN:=S0.o.lt;go_wp2_with fail
  try clear c0 c1 c2 c3 c4 c5
  try clear hszN
  refine(HC.o).mono ?_;rintro e w2 ⟨rfl,hW2,hK2⟩;have S2:=hI (S0.o.call hW2 hK2);clear S0 hW2 hK2 HC;obtain⟨c0,c1,c2,c3,c4,c5⟩:=S2.o.cells;have hszN:=S2.o.lt;go_wp2_with fail
  try clear c0 c1 c2 c3 c4 c5
  try clear hszN
  have H:=jZ (S:=w2.1.size) [[59]] S2.o.wr (by simp) (by simp) (by have:=HLEN.o;(try simp only[lL,lO,lZ]at this ⊢);omega);simp only[jT,List.map,List.length]at H;refine H.mono ?_;clear H;rintro e w3 ⟨rfl,hW3,hK3⟩;have S3:=hI (S2.o.call hW3 hK3);clear S2 hW3 hK3;go_wp2
  first | go_end0 | refine bodyPost_ret (v:=.tuple #[]) (by simp[results,results129,go_sem]) rfl ?_
  exact⟨rfl,by simpa[List.append_assoc,qY,qG,qC,qO,zB,zD,zX,qE,kIf,zS,qA,qV,qF,qD,qP,qW,qN,zW,zM,qL,qM,qT,zK,zL,qH,zA]using S3.o.wr,S3.o.kp⟩
 case false =>
 simp only[hq3,bO,bP,bF,if_false,reduceIte]at he;cases hq4:(k == [114,101,116,117,114,110]);case true =>
  simp only[hq4,bU,bV,bT,if_true,reduceIte]at he;obtain rfl:k=[114,101,116,117,114,110]:=by simpa using hq4
  clear hq4;obtain⟨hb,he1⟩:=zN he;clear he;simp only[bE,decide_eq_true_eq]at hb;obtain⟨hbare,hl⟩:=hb;have hl1:ks.length<=1:=of_decide_eq_true hl;obtain⟨wsA,wrA,hA,hS,hxA⟩:=qK he1;subst hxA;clear he1;injection hS with hS;subst hS;obtain⟨ws1,wr1,hc1,hd1,hx1⟩:=qK hA;subst hx1;clear hA;injection hc1 with hc1;subst hc1;obtain⟨q0,vc,hv,hvc,hvm,hka⟩:=hL.kids;have HKA:=hI hka;clear hka;simp only[tQ,List.length]at hv;subst hv;have S0:=hI (Sw.start hW hL);have HF:=hI hF;have HFL:=hI hFL;have HLEN:=hI hlen;have hBw:=hW.lt;have HFX:=hI hFx;have HFN:=hI hFn;clear hW hF hL hFL hlen hFk hFx hFn;try simp only[qZ,qS,tQ]at *
  have hmf:=zT;go_enter func129,ntmps129
  obtain⟨c0,c1,c2,c3,c4,c5⟩:=S0.o.cells;have hszN:=S0.o.lt;go_wp2_with fail
  try clear c0 c1 c2 c3 c4 c5
  try clear hszN
  have HQ:=wB (t:=(.mk [114,101,116,117,114,110] x m ln co ks)) (v:=.slice q0 ks.length vc) (lo:=0) (hi:=1) _ S0.o.wr.tab rfl hbare (by first | simp | omega | (have:=HFN.o;(try simp only[List.length]at this ⊢);omega)) (by first | simp | omega | (have:=HFN.o;(try simp only[List.length]at this ⊢);omega));simp only[qZ,tQ]at HQ;refine HQ.mono ?_;clear HQ;rintro e w2 ⟨rfl,hb2⟩;have S2:=hI (S0.o.below hb2);clear S0 hb2;obtain⟨c0,c1,c2,c3,c4,c5⟩:=S2.o.cells;have hszN:=S2.o.lt;go_wp2_with fail
  refine(jF _).mono ?_;rintro e w' ⟨rfl,rfl⟩;try clear c0 c1 c2 c3 c4 c5 hszN
  obtain⟨c0,c1,c2,c3,c4,c5⟩:=S2.o.cells;have hszN:=S2.o.lt;go_wp2_with fail
  try clear c0 c1 c2 c3 c4 c5
  try clear hszN
  have H:=jZ (S:=w2.1.size) [[114,101,116,117,114,110]] S2.o.wr (by simp) (by simp) (by have:=HLEN.o;(try simp only[lL,lO,lZ]at this ⊢);omega);simp only[jT,List.map,List.length]at H;refine H.mono ?_;clear H;rintro e w3 ⟨rfl,hW3,hK3⟩;have S3:=hI (S2.o.call hW3 hK3);clear S2 hW3 hK3;have HC:=hI (qWO 150 (rec .expr) (fun _ _=>rfl) hex lo B (acc++[[114,101,116,117,114,110]]) ks q0 vc _ wr1 S3.o.wr (HKA.o.keep S3.o.kp.below) (by first | (have:=HFN.o;simpa using this) | simp) HFL.o hd1 (by have:=HLEN.o;(try simp only[lL,lO,lZ]at this ⊢);omega));try simp only[List.length]at HC
  obtain⟨c0,c1,c2,c3,c4,c5⟩:=S3.o.cells;have hszN:=S3.o.lt;go_wp2_with fail
  try clear c0 c1 c2 c3 c4 c5
  try clear hszN
  refine(HC.o).mono ?_;rintro e w4 ⟨rfl,hW4,hK4⟩;have S4:=hI (S3.o.call hW4 hK4);clear S3 hW4 hK4 HC;obtain⟨c0,c1,c2,c3,c4,c5⟩:=S4.o.cells;have hszN:=S4.o.lt;go_wp2_with fail
  try clear c0 c1 c2 c3 c4 c5
  try clear hszN
  have H:=jZ (S:=w4.1.size) [[59]] S4.o.wr (by simp) (by simp) (by have:=HLEN.o;(try simp only[lL,lO,lZ]at this ⊢);omega);simp only[jT,List.map,List.length]at H;refine H.mono ?_;clear H;rintro e w5 ⟨rfl,hW5,hK5⟩;have S5:=hI (S4.o.call hW5 hK5);clear S4 hW5 hK5;go_wp2
  first | go_end0 | refine bodyPost_ret (v:=.tuple #[]) (by simp[results,results129,go_sem]) rfl ?_
  exact⟨rfl,by simpa[List.append_assoc,qY,qG,qC,qO,zB,zD,zX,qE,kIf,zS,qA,qV,qF,qD,qP,qW,qN,zW,zM,qL,qM,qT,zK,zL,qH,zA]using S5.o.wr,S5.o.kp⟩
 case false =>
 simp only[hq4,bO,bP,bF,if_false,reduceIte]at he;cases hq5:(k == [97,115,115,101,114,116]);case true =>
  simp only[hq5,bU,bV,bT,if_true,reduceIte]at he;obtain rfl:k=[97,115,115,101,114,116]:=by simpa using hq5
  clear hq5;rcases ks with _ | ⟨a0,_ | ⟨b,r⟩⟩
  ·simp at he
  rotate_left
  ·simp at he
  simp only at he;obtain⟨hbare,he1⟩:=zN he;clear he;obtain⟨wsA,wrA,hA,hS,hxA⟩:=qK he1;subst hxA;clear he1;injection hS with hS;subst hS;obtain⟨ws1,wr1,hc1,hd1,hx1⟩:=qK hA;subst hx1;clear hA;injection hc1 with hc1;subst hc1;obtain⟨ws2,wr2,hc2,hd2,hx2⟩:=qK hd1;subst hx2;clear hd1;injection hd2 with hd2;subst hd2;obtain⟨g0,vc,hv,hR⟩:=hL.row (by simp[qQ.kids]);have HR:=hI hR;clear hR;simp only[tQ,List.length]at hv;subst hv;have S0:=hI (Sw.start hW hL);have HF:=hI hF;have HFL:=hI hFL;have HLEN:=hI hlen;have hBw:=hW.lt;have HFX:=hI hFx;have HFN:=hI hFn;clear hW hF hL hFL hlen hFk hFx hFn;try simp only[qZ,qS,tQ]at *
  go_enter func129,ntmps129
  obtain⟨c0,c1,c2,c3,c4,c5⟩:=S0.o.cells;have hszN:=S0.o.lt;go_wp2_with fail
  try clear c0 c1 c2 c3 c4 c5
  try clear hszN
  have HQ:=wB (t:=(.mk [97,115,115,101,114,116] x m ln co [a0])) (v:=.slice (some ⟨g0,0,none⟩) 1 vc) (lo:=1) (hi:=1) _ S0.o.wr.tab rfl hbare (by first | simp | omega | (have:=HFN.o;(try simp only[List.length]at this ⊢);omega)) (by first | simp | omega | (have:=HFN.o;(try simp only[List.length]at this ⊢);omega));simp only[qZ,tQ]at HQ;refine HQ.mono ?_;clear HQ;rintro e w3 ⟨rfl,hb3⟩;have S3:=hI (S0.o.below hb3);clear S0 hb3;obtain⟨c0,c1,c2,c3,c4,c5⟩:=S3.o.cells;have hszN:=S3.o.lt;go_wp2_with fail
  refine(jF _).mono ?_;rintro e w' ⟨rfl,rfl⟩;try clear c0 c1 c2 c3 c4 c5 hszN
  obtain⟨c0,c1,c2,c3,c4,c5⟩:=S3.o.cells;have hszN:=S3.o.lt;go_wp2_with fail
  try clear c0 c1 c2 c3 c4 c5
  try clear hszN
  have H:=jZ (S:=w3.1.size) [[97,115,115,101,114,116],[40]] S3.o.wr (by simp) (by simp) (by have:=HLEN.o;(try simp only[lL,lO,lZ]at this ⊢);omega);simp only[jT,List.map,List.length]at H;refine H.mono ?_;clear H;rintro e w4 ⟨rfl,hW4,hK4⟩;have S4:=hI (S3.o.call hW4 hK4);clear S3 hW4 hK4;obtain⟨qa,na,ca,hla,hca⟩:=(HR.o.keep S4.o.kp.below).2 0 (by simp);simp only[Nat.zero_add,Nat.zero_mul,Nat.one_mul,Nat.reduceAdd,Nat.reduceMul,List.getElem_cons_zero,List.getElem_cons_succ]at hla hca;have⟨k0,k1,k2,k3,k4,k5,_⟩:=hca.a;simp only[Nat.zero_add,Nat.zero_mul,Nat.one_mul,Nat.reduceAdd,Nat.reduceMul,List.getElem_cons_zero,List.getElem_cons_succ]at k0 k1 k2 k3 k4 k5;have HC:=hI (hex lo B (acc++[[97,115,115,101,114,116],[40]]) a0 (.slice qa na ca) _ ws2 S4.o.wr hla (HFL.o.mem _ (by simp)) hc2 (by have:=HLEN.o;(try simp only[lL,lO,lZ]at this ⊢);omega));clear hca hla;try simp only[qZ]at HC
  obtain⟨c0,c1,c2,c3,c4,c5⟩:=S4.o.cells;have hszN:=S4.o.lt;go_wp2_with fail
  try clear c0 c1 c2 c3 c4 c5
  try clear hszN
  try clear k0 k1 k2 k3 k4 k5
  refine(HC.o).mono ?_;rintro e w5 ⟨rfl,hW5,hK5⟩;have S5:=hI (S4.o.call hW5 hK5);clear S4 hW5 hK5 HC;obtain⟨c0,c1,c2,c3,c4,c5⟩:=S5.o.cells;have hszN:=S5.o.lt;go_wp2_with fail
  try clear c0 c1 c2 c3 c4 c5
  try clear hszN
  have H:=jZ (S:=w5.1.size) [[41]] S5.o.wr (by simp) (by simp) (by have:=HLEN.o;(try simp only[lL,lO,lZ]at this ⊢);omega);simp only[jT,List.map,List.length]at H;refine H.mono ?_;clear H;rintro e w6 ⟨rfl,hW6,hK6⟩;have S6:=hI (S5.o.call hW6 hK6);clear S5 hW6 hK6;obtain⟨c0,c1,c2,c3,c4,c5⟩:=S6.o.cells;have hszN:=S6.o.lt;go_wp2_with fail
  try clear c0 c1 c2 c3 c4 c5
  try clear hszN
  have H:=jZ (S:=w6.1.size) [[59]] S6.o.wr (by simp) (by simp) (by have:=HLEN.o;(try simp only[lL,lO,lZ]at this ⊢);omega);simp only[jT,List.map,List.length]at H;refine H.mono ?_;clear H;rintro e w7 ⟨rfl,hW7,hK7⟩;have S7:=hI (S6.o.call hW7 hK7);clear S6 hW7 hK7;go_wp2
  first | go_end0 | refine bodyPost_ret (v:=.tuple #[]) (by simp[results,results129,go_sem]) rfl ?_
  exact⟨rfl,by simpa[List.append_assoc,qY,qG,qC,qO,zB,zD,zX,qE,kIf,zS,qA,qV,qF,qD,qP,qW,qN,zW,zM,qL,qM,qT,zK,zL,qH,zA]using S7.o.wr,S7.o.kp⟩
 case false =>
 simp only[hq5,bO,bP,bF,if_false,reduceIte]at he;cases hq6:(k == [97,115,115,117,109,101]);case true =>
  simp only[hq6,bU,bV,bT,if_true,reduceIte]at he;obtain rfl:k=[97,115,115,117,109,101]:=by simpa using hq6
  clear hq6;rcases ks with _ | ⟨a0,_ | ⟨b,r⟩⟩
  ·simp at he
  rotate_left
  ·simp at he
  simp only at he;obtain⟨hbare,he1⟩:=zN he;clear he;obtain⟨wsA,wrA,hA,hS,hxA⟩:=qK he1;subst hxA;clear he1;injection hS with hS;subst hS;obtain⟨ws1,wr1,hc1,hd1,hx1⟩:=qK hA;subst hx1;clear hA;injection hc1 with hc1;subst hc1;obtain⟨ws2,wr2,hc2,hd2,hx2⟩:=qK hd1;subst hx2;clear hd1;injection hd2 with hd2;subst hd2;obtain⟨g0,vc,hv,hR⟩:=hL.row (by simp[qQ.kids]);have HR:=hI hR;clear hR;simp only[tQ,List.length]at hv;subst hv;have S0:=hI (Sw.start hW hL);have HF:=hI hF;have HFL:=hI hFL;have HLEN:=hI hlen;have hBw:=hW.lt;have HFX:=hI hFx;have HFN:=hI hFn;clear hW hF hL hFL hlen hFk hFx hFn;try simp only[qZ,qS,tQ]at *
  go_enter func129,ntmps129
  obtain⟨c0,c1,c2,c3,c4,c5⟩:=S0.o.cells;have hszN:=S0.o.lt;go_wp2_with fail
  try clear c0 c1 c2 c3 c4 c5
  try clear hszN
  have HQ:=wB (t:=(.mk [97,115,115,117,109,101] x m ln co [a0])) (v:=.slice (some ⟨g0,0,none⟩) 1 vc) (lo:=1) (hi:=1) _ S0.o.wr.tab rfl hbare (by first | simp | omega | (have:=HFN.o;(try simp only[List.length]at this ⊢);omega)) (by first | simp | omega | (have:=HFN.o;(try simp only[List.length]at this ⊢);omega));simp only[qZ,tQ]at HQ;refine HQ.mono ?_;clear HQ;rintro e w3 ⟨rfl,hb3⟩;have S3:=hI (S0.o.below hb3);clear S0 hb3;obtain⟨c0,c1,c2,c3,c4,c5⟩:=S3.o.cells;have hszN:=S3.o.lt;go_wp2_with fail
  refine(jF _).mono ?_;rintro e w' ⟨rfl,rfl⟩;try clear c0 c1 c2 c3 c4 c5 hszN
  obtain⟨c0,c1,c2,c3,c4,c5⟩:=S3.o.cells;have hszN:=S3.o.lt;go_wp2_with fail
  try clear c0 c1 c2 c3 c4 c5
  try clear hszN
  have H:=jZ (S:=w3.1.size) [[97,115,115,117,109,101],[40]] S3.o.wr (by simp) (by simp) (by have:=HLEN.o;(try simp only[lL,lO,lZ]at this ⊢);omega);simp only[jT,List.map,List.length]at H;refine H.mono ?_;clear H;rintro e w4 ⟨rfl,hW4,hK4⟩;have S4:=hI (S3.o.call hW4 hK4);clear S3 hW4 hK4;obtain⟨qa,na,ca,hla,hca⟩:=(HR.o.keep S4.o.kp.below).2 0 (by simp);simp only[Nat.zero_add,Nat.zero_mul,Nat.one_mul,Nat.reduceAdd,Nat.reduceMul,List.getElem_cons_zero,List.getElem_cons_succ]at hla hca;have⟨k0,k1,k2,k3,k4,k5,_⟩:=hca.a;simp only[Nat.zero_add,Nat.zero_mul,Nat.one_mul,Nat.reduceAdd,Nat.reduceMul,List.getElem_cons_zero,List.getElem_cons_succ]at k0 k1 k2 k3 k4 k5;have HC:=hI (hex lo B (acc++[[97,115,115,117,109,101],[40]]) a0 (.slice qa na ca) _ ws2 S4.o.wr hla (HFL.o.mem _ (by simp)) hc2 (by have:=HLEN.o;(try simp only[lL,lO,lZ]at this ⊢);omega));clear hca hla;try simp only[qZ]at HC
  obtain⟨c0,c1,c2,c3,c4,c5⟩:=S4.o.cells;have hszN:=S4.o.lt;go_wp2_with fail
  try clear c0 c1 c2 c3 c4 c5
  try clear hszN
  try clear k0 k1 k2 k3 k4 k5
  refine(HC.o).mono ?_;rintro e w5 ⟨rfl,hW5,hK5⟩;have S5:=hI (S4.o.call hW5 hK5);clear S4 hW5 hK5 HC;obtain⟨c0,c1,c2,c3,c4,c5⟩:=S5.o.cells;have hszN:=S5.o.lt;go_wp2_with fail
  try clear c0 c1 c2 c3 c4 c5
  try clear hszN
  have H:=jZ (S:=w5.1.size) [[41]] S5.o.wr (by simp) (by simp) (by have:=HLEN.o;(try simp only[lL,lO,lZ]at this ⊢);omega);simp only[jT,List.map,List.length]at H;refine H.mono ?_;clear H;rintro e w6 ⟨rfl,hW6,hK6⟩;have S6:=hI (S5.o.call hW6 hK6);clear S5 hW6 hK6;obtain⟨c0,c1,c2,c3,c4,c5⟩:=S6.o.cells;have hszN:=S6.o.lt;go_wp2_with fail
  try clear c0 c1 c2 c3 c4 c5
  try clear hszN
  have H:=jZ (S:=w6.1.size) [[59]] S6.o.wr (by simp) (by simp) (by have:=HLEN.o;(try simp only[lL,lO,lZ]at this ⊢);omega);simp only[jT,List.map,List.length]at H;refine H.mono ?_;clear H;rintro e w7 ⟨rfl,hW7,hK7⟩;have S7:=hI (S6.o.call hW7 hK7);clear S6 hW7 hK7;go_wp2
  first | go_end0 | refine bodyPost_ret (v:=.tuple #[]) (by simp[results,results129,go_sem]) rfl ?_
  exact⟨rfl,by simpa[List.append_assoc,qY,qG,qC,qO,zB,zD,zX,qE,kIf,zS,qA,qV,qF,qD,qP,qW,qN,zW,zM,qL,qM,qT,zK,zL,qH,zA]using S7.o.wr,S7.o.kp⟩
 case false =>
 simp only[hq6,bO,bP,bF,if_false,reduceIte]at he;obtain⟨ws1,wr1,hc1,hd1,hx1⟩:=qK he;subst hx1;clear he;injection hd1 with hd1;subst hd1;obtain⟨q0,vc,hv,hvc,hvm⟩:=hL.shape;simp only[tQ,List.length]at hv;subst hv;have S0:=hI (Sw.start hW hL);have HF:=hI hF;have HFL:=hI hFL;have HLEN:=hI hlen;have hBw:=hW.lt;have HFX:=hI hFx;have HFN:=hI hFn;clear hW hF hL hFL hlen hFk hFx hFn;try simp only[qZ,qS,tQ]at *
 go_enter func129,ntmps129
 have HC:=hI ((gift_w rec hex) lo B acc (.mk k x m ln co ks) _ _ ws1 S0.o.wr S0.o.li HF.o hc1 (by have:=HLEN.o;(try simp only[lL,lO,lZ]at this ⊢);omega));try simp only[qZ,tQ]at HC
 obtain⟨c0,c1,c2,c3,c4,c5⟩:=S0.o.cells;have hszN:=S0.o.lt;go_wp2_with fail
 try clear c0 c1 c2 c3 c4 c5
 try clear hszN
 refine(HC.o).mono ?_;rintro e w2 ⟨rfl,hW2,hK2⟩;have S2:=hI (S0.o.call hW2 hK2);clear S0 hW2 hK2 HC;obtain⟨c0,c1,c2,c3,c4,c5⟩:=S2.o.cells;have hszN:=S2.o.lt;go_wp2_with fail
 try clear c0 c1 c2 c3 c4 c5
 try clear hszN
 have H:=jZ (S:=w2.1.size) [[59]] S2.o.wr (by simp) (by simp) (by have:=HLEN.o;(try simp only[lL,lO,lZ]at this ⊢);omega);simp only[jT,List.map,List.length]at H;refine H.mono ?_;clear H;rintro e w3 ⟨rfl,hW3,hK3⟩;have S3:=hI (S2.o.call hW3 hK3);clear S2 hW3 hK3;go_wp2
 first | go_end0 | refine bodyPost_ret (v:=.tuple #[]) (by simp[results,results129,go_sem]) rfl ?_
 exact⟨rfl,by simpa[List.append_assoc,qY,qG,qC,qO,zB,zD,zX,qE,kIf,zS,qA,qV,qF,qD,qP,qW,qN,zW,zM,qL,qM,qT,zK,zL,qH,zA]using S3.o.wr,S3.o.kp⟩
def ManyRel(lo B N:Nat)(acc:List (List UInt8))(t:qQ)(v:Value)(p:qQ->Ws)(ts:List qQ)(ws:List (List UInt8))(w:World)(i:Value)(wr:World):Prop :=
 ∃ (k:Nat) (pre post:List (List UInt8)),k<=ts.length/\i=.int .i64 k/\ws=pre++post/\qZP p (ts.drop k)=some post/\Sw w lo B N (acc++pre) t v wr
theorem qPP(p:qQ->Ws)(ts:List qQ){i:Nat}(h:i<=ts.length)(h':¬i < ts.length):qZP p (ts.drop i)=some []:=by
 have:i=ts.length:=by omega
 rw[this,List.drop_length];rfl
theorem qUi{p:qQ->Ws}{ts:List qQ}{i:Nat}(h:i < ts.length){ws:List (List UInt8)}(he:qZP p (ts.drop i)=some ws):∃ a b,p ts[i]=some a/\qZP p (ts.drop (i+1))=some b/\ws=a++b:=by
 rw[List.drop_eq_getElem_cons h]at he;exact qK (show jD (p ts[i]) (qZP p (ts.drop (i+1)))=some ws from he)
theorem block_w(rec:WT->qQ->Ws)(hst:kZ 129 (fun p n=>#[p,n]) (qJr rec)):kZ 116 (fun p n=>#[p,n]) (qVv rec):=by
 intro lo B acc t v w ws hW hL hF he hlen;obtain⟨k,x,m,ln,co,ks⟩:=t;obtain⟨hFk,hFx,hFm0,hFm1,hFn,hFL⟩:=id hF;simp only[qVv,qY,qG,qC,qO,zB,zD,zX,qE,kIf,zS,qA,qV,qF,qD,qP,qW,qN,zW,zM,qL,qM,qT,zK,zL,qH,zA,tQ]at he;obtain⟨hb,he1⟩:=zN he;clear he;simp only[bE,beq_iff_eq]at hb;obtain⟨rfl,hbare⟩:=hb;obtain⟨ws1,wr1,hc1,hd1,hx1⟩:=qK he1;subst hx1;clear he1;injection hc1 with hc1;subst hc1;obtain⟨ws2,wr2,hc2,hd2,hx2⟩:=qK hd1;subst hx2;clear hd1;injection hd2 with hd2;subst hd2;obtain⟨q0,vc,hv,hvc,hvm,hka⟩:=hL.kids;have HKA:=hI hka;clear hka;simp only[tQ,List.length]at hv;subst hv;have S0:=hI (Sw.start hW hL);have HF:=hI hF;have HFL:=hI hFL;have HLEN:=hI hlen;have hBw:=hW.lt;have HFX:=hI hFx;have HFN:=hI hFn;clear hW hF hL hFL hlen hFk hFx hFn;try simp only[qZ,qS,tQ]at *
 have HEM:=hI hc2;clear hc2;have hmf:=zT;go_enter func116,ntmps116
 obtain⟨c0,c1,c2,c3,c4,c5⟩:=S0.o.cells;have hszN:=S0.o.lt;go_wp2_with fail
 try clear c0 c1 c2 c3 c4 c5
 try clear hszN
 have HQ:=wB (t:=(.mk [98,108,111,99,107] x m ln co ks)) (v:=.slice q0 ks.length vc) (lo:=0) (hi:=9223372036854775807) _ S0.o.wr.tab rfl hbare (by first | simp | omega | (have:=HFN.o;(try simp only[List.length]at this ⊢);omega)) (by first | simp | omega | (have:=HFN.o;(try simp only[List.length]at this ⊢);omega));simp only[qZ,tQ]at HQ;refine HQ.mono ?_;clear HQ;rintro e w3 ⟨rfl,hb3⟩;have S3:=hI (S0.o.below hb3);clear S0 hb3;obtain⟨c0,c1,c2,c3,c4,c5⟩:=S3.o.cells;have hszN:=S3.o.lt;go_wp2_with fail
 refine(jF _).mono ?_;rintro e w' ⟨rfl,rfl⟩;try clear c0 c1 c2 c3 c4 c5 hszN
 obtain⟨c0,c1,c2,c3,c4,c5⟩:=S3.o.cells;have hszN:=S3.o.lt;go_wp2_with fail
 try clear c0 c1 c2 c3 c4 c5
 try clear hszN
 have H:=jZ (S:=w3.1.size) [[123]] S3.o.wr (by simp) (by simp) (by have:=HLEN.o;(try simp only[lL,lO,lZ]at this ⊢);omega);simp only[jT,List.map,List.length]at H;refine H.mono ?_;clear H;rintro e w4 ⟨rfl,hW4,hK4⟩;have S4:=hI (S3.o.call hW4 hK4);clear S3 hW4 hK4;obtain⟨c0,c1,c2,c3,c4,c5⟩:=S4.o.cells;have hszN:=S4.o.lt;go_wp2_with fail
 try clear c0 c1 c2 c3 c4 c5
 try clear hszN
 go_loopw [20] (fun i wr=>ManyRel lo B w.1.size (acc++[[123]]) (.mk [98,108,111,99,107] x m ln co ks) (.slice q0 ks.length vc) (qJr rec) ks ws2 w i wr) (fun i _=>ks.length - (intOf i).toNat)
 case atStart=>exact⟨0,[],ws2,Nat.zero_le _,rfl,rfl,HEM.o,by simpa using S4.o⟩
 case round =>
  have hn:=HFN.o;obtain⟨i,pre,post,hk,rfl,hws,hpost,hS⟩:=hrel;have HWS:=hI hws;have HPO:=hI hpost;have SR:=hI hS;clear hws hpost hS S4;by_cases hlt:i < ks.length
  ·have hne:ks≠[]:=fun e=>by rw[e]at hlt;simp at hlt
   obtain⟨g1,off,rfl,hR⟩:=(HKA.o.keep SR.o.kp.below).resolve_left hne;obtain⟨qa,na,ca,hla,hca⟩:=hR.2 i hlt;have⟨k0,k1,k2,k3,k4,k5,_⟩:=hca.a;have HLA:=hI hla;have hneat:=hI (qZn.mem HFL.o ks[i] (List.getElem_mem _));have T0:=hI (Hn.new ks[i] (.slice qa na ca) wr);have S1:=hI (SR.o.alloc (.cells (qS ks[i] (.slice qa na ca)).toArray 57));have hBr:=SR.o.wr.lt;have HLL:=hI (HLA.o.keep (((Below.refl _ _).alloc (Nat.le_refl _) (.cells (qS ks[i] (.slice qa na ca)).toArray 57)).mono (Nat.le_of_lt hBr)));obtain⟨a,b,ha,hb,hpe⟩:=qUi hlt HPO.o;have HA:=hI ha;have HB:=hI hb;have HPE:=hI hpe;have hlen:(((acc++[[123]])++pre)++a).length<=1000000000:=by have:=HLEN.o;rw[HWS.o,hpe]at this;simp only[lL,lO,lZ]at this ⊢;omega
   have HLEN2:=hI hlen;clear hca hla hR hne HLA ha hb hpe hlen SR;generalize hu:ks[i]=u at *;simp only[qS,qZ]at *;have HC:=hI (hst lo B ((acc++[[123]])++pre) u (.slice qa na ca) _ a S1.o.wr HLL.o hneat.o HA.o (by have:=HLEN2.o;simpa only[lL]using this));try simp only[qZ]at HC
   obtain⟨c0,c1,c2,c3,c4,c5⟩:=S1.o.cells;go_wp2_with fail
   clear c0 c1 c2 c3 c4 c5;refine(HC.o).mono ?_;rintro e w5 ⟨rfl,hW5,hK5⟩;have S5:=hI (S1.o.call hW5 hK5);clear hW5 hK5 HC S1 T0 k0 k1 k2 k3 k4 k5;go_wp2
   go_roundw
   case rel=>exact⟨i+1,pre++a,b,by omega,by go_num,by rw[HWS.o,HPE.o,List.append_assoc],HB.o,by simpa[List.append_assoc]using S5.o⟩
   case measure=>simp[intOf];omega
  ·have hp0:post=[]:=by have h:=HPO.o;rw[qPP _ ks hk hlt]at h;injection h with h;exact h.symm
   have hws:=HWS.o;rw[hp0,lA]at hws;subst hws;have S2:=SR;clear SR hp0;obtain⟨c0,c1,c2,c3,c4,c5⟩:=S2.o.cells;have hszN:=S2.o.lt;go_wp2_with fail
   try clear c0 c1 c2 c3 c4 c5
   try clear hszN
   have H:=jZ (S:=wr.1.size) [[125]] S2.o.wr (by simp) (by simp) (by have:=HLEN.o;(try simp only[lL,lO,lZ]at this ⊢);omega);simp only[jT,List.map,List.length]at H;refine H.mono ?_;clear H;rintro e w5 ⟨rfl,hW5,hK5⟩;have S5:=hI (S2.o.call hW5 hK5);clear S2 hW5 hK5;go_wp2
   first | go_end0 | refine bodyPost_ret (v:=.tuple #[]) (by simp[results,results116,go_sem]) rfl ?_
   exact⟨rfl,by simpa[List.append_assoc,qY,qG,qC,qO,zB,zD,zX,qE,kIf,zS,qA,qV,qF,qD,qP,qW,qN,zW,zM,qL,qM,qT,zK,zL,qH,zA]using S5.o.wr,S5.o.kp⟩
end Go.Proofs.YtiajhekdhhhghaaGreatDoor
