/- Walks. -/
import Derived.Recover
import Derived.Defers
import Derived.Test.YtiajhekdhhhghaaGreatDoorMaf
set_option linter.all false
set_option maxHeartbeats 8000000
set_option maxRecDepth 100000
namespace Go.Proofs.YtiajhekdhhhghaaGreatDoor
open Tryz
open Go Go.RowKit
theorem param_w(hd:kZ 112 (fun p n=>#[p,n, .bool false]) (vY false)):kZ 115 (fun p n=>#[p,n]) (qZ1):=by
 intro lo B acc t v w ws hW hL hF he hlen;obtain⟨k,x,m,ln,co,ks⟩:=t;obtain⟨hFk,hFx,hFm0,hFm1,hFn,hFL⟩:=id hF;simp only[qZ1,qY,qG,qC,qO,zB,zD,zX,qE,kIf,zS,qA,qV,qF,qD,qP,qW,qN,zW,zM,qL,qM,qT,zK,zL,qH,zA,tQ]at he;obtain⟨hb,he1⟩:=zN he;clear he;simp only[bE,beq_iff_eq]at hb;obtain⟨⟨rfl,hnm⟩,hl⟩:=hb;obtain⟨a0,rfl⟩:=List.length_eq_one_iff.1 hl;clear hl;obtain⟨g0,vc,hv,hR⟩:=hL.row (by simp[qQ.kids]);have HR:=hI hR;clear hR;simp only[tQ,List.length]at hv;subst hv;have S0:=hI (Sw.start hW hL);have HF:=hI hF;have HFL:=hI hFL;have HLEN:=hI hlen;have hBw:=hW.lt;have HFX:=hI hFx;have HFN:=hI hFn;clear hW hF hL hFL hlen hFk hFx hFn;try simp only[qZ,qS,tQ]at *
 go_enter func115,ntmps115
 obtain⟨c0,c1,c2,c3,c4,c5⟩:=S0.o.cells;have hszN:=S0.o.lt;go_wp2_with fail
 try clear c0 c1 c2 c3 c4 c5
 try clear hszN
 have HQ:=qZg (t:=(.mk [112,97,114,97,109] x m ln co [a0])) (v:=.slice (some ⟨g0,0,none⟩) 1 vc) (lo:=1) (hi:=1) _ S0.o.wr.tab HFX.o rfl hnm (by first | simp | omega | (have:=HFN.o;(try simp only[List.length]at this ⊢);omega)) (by first | simp | omega | (have:=HFN.o;(try simp only[List.length]at this ⊢);omega));simp only[qZ,tQ]at HQ;refine HQ.mono ?_;clear HQ;rintro e w1 ⟨rfl,hb1⟩;have S1:=hI (S0.o.below hb1);clear S0 hb1;obtain⟨c0,c1,c2,c3,c4,c5⟩:=S1.o.cells;have hszN:=S1.o.lt;go_wp2_with fail
 refine(jF _).mono ?_;rintro e w' ⟨rfl,rfl⟩;try clear c0 c1 c2 c3 c4 c5 hszN
 have HC:=hI (hd lo B acc (.mk [112,97,114,97,109] x m ln co [a0]) _ _ ws S1.o.wr S1.o.li HF.o he1 (by have:=HLEN.o;(try simp only[lL,lO,lZ]at this ⊢);omega));try simp only[qZ,tQ]at HC
 obtain⟨c0,c1,c2,c3,c4,c5⟩:=S1.o.cells;have hszN:=S1.o.lt;go_wp2_with fail
 try clear c0 c1 c2 c3 c4 c5
 try clear hszN
 refine(HC.o).mono ?_;rintro e w2 ⟨rfl,hW2,hK2⟩;have S2:=hI (S1.o.call hW2 hK2);clear S1 hW2 hK2 HC;go_wp2
 first | go_end0 | refine bodyPost_ret (v:=.tuple #[]) (by simp[results,results115,go_sem]) rfl ?_
 exact⟨rfl,by simpa[List.append_assoc,qY,qG,qC,qO,zB,zD,zX,qE,kIf,zS,qA,qV,qF,qD,qP,qW,qN,zW,zM,qL,qM,qT,zK,zL,qH,zA]using S2.o.wr,S2.o.kp⟩
theorem qL7(rec:WT->qQ->Ws)(hbl:kZ 116 (fun p n=>#[p,n]) (rec .block)):kZ 94 (fun p n=>#[p,n]) (kA rec):=by
 intro lo B acc t v w ws hW hL hF he hlen;obtain⟨k,x,m,ln,co,ks⟩:=t;obtain⟨hFk,hFx,hFm0,hFm1,hFn,hFL⟩:=id hF;simp only[kA,qY,qG,qC,qO,zB,zD,zX,qE,kIf,zS,qA,qV,qF,qD,qP,qW,qN,zW,zM,qL,qM,qT,zK,zL,qH,zA,tQ]at he;rcases ks with _ | ⟨a0,_ | ⟨a1,r⟩⟩
 ·simp at he
 ·simp at he
 simp only at he;obtain⟨hnm,he1⟩:=zN he;clear he;obtain⟨ws1,wr1,hc1,hd1,hx1⟩:=qK he1;subst hx1;clear he1;obtain⟨ws2,wr2,hc2,hd2,hx2⟩:=qK hd1;subst hx2;clear hd1;injection hc2 with hc2;subst hc2;obtain⟨ws3,wr3,hc3,hd3,hx3⟩:=qK hd2;subst hx3;clear hd2;obtain⟨ws4,wr4,hc4,hd4,hx4⟩:=qK hd3;subst hx4;clear hd3;injection hc4 with hc4;subst hc4;have hsh:=hL.shape;obtain⟨g0,vc,hv,hR⟩:=hL.row (by simp[qQ.kids]);have HR:=hI hR;clear hR;simp only[tQ,List.length]at hv;subst hv;have S0:=hI (Sw.start hW hL);have HF:=hI hF;have HFL:=hI hFL;have HLEN:=hI hlen;have hBw:=hW.lt;have HFX:=hI hFx;have HFN:=hI hFn;clear hW hF hL hFL hlen hFk hFx hFn;try simp only[qZ,qS,tQ]at *
 have hmf:=zT;obtain⟨q9,c9,e9,hvc9,hvm9⟩:=hsh;injection e9 with e91 e92 e93;subst e93;simp only[List.length]at hvc9;clear e91 e92;have hn:=HFN.o;simp only[List.length]at hn;have hw1:wrap64 ((r.length:Int)+1)=(r.length:Int)+1:=by unfold wrap64;omega
 have hi1:(1:Int)<=(r.length:Int)+1:=by omega
 have hi2:(r.length:Int)+1<=(vc:Int):=by omega
 have hi3:(1:Int)<=(vc:Int):=by omega
 have hi4:¬(r.length:Int)+1 < 0:=by omega
 have hi5:(r.length:Int)+1 < (r.length:Int)+1+1:=by omega
 go_enter func94,ntmps94
 obtain⟨c0,c1,c2,c3,c4,c5⟩:=S0.o.cells;have hszN:=S0.o.lt;go_wp2_with fail
 try clear c0 c1 c2 c3 c4 c5
 try clear hszN
 have HQ:=qZg (t:=(.mk k x m ln co (a0 :: a1 :: r))) (v:=.slice (some ⟨g0,0,none⟩) (r.length+1+1) vc) (lo:=2) (hi:=9223372036854775807) _ S0.o.wr.tab HFX.o rfl hnm (by first | (simp;done) | omega | (have:=HFN.o;(try simp only[List.length]at this ⊢);omega)) (by first | (simp;done) | omega | (have:=HFN.o;(try simp only[List.length]at this ⊢);omega));simp only[qZ,tQ]at HQ;refine HQ.mono ?_;clear HQ;rintro e w5 ⟨rfl,hb5⟩;have S5:=hI (S0.o.below hb5);clear S0 hb5;obtain⟨c0,c1,c2,c3,c4,c5⟩:=S5.o.cells;have hszN:=S5.o.lt;go_wp2_with fail
 refine(jF _).mono ?_;rintro e w' ⟨rfl,rfl⟩;try clear c0 c1 c2 c3 c4 c5 hszN
 have HC:=hI ((qXn true) lo B acc (.mk k x m ln co (a0 :: a1 :: r)) _ _ ws1 S5.o.wr S5.o.li HF.o hc1 (by have:=HLEN.o;(try simp only[lL,lO,lZ]at this ⊢);omega));try simp only[qZ,tQ]at HC
 obtain⟨c0,c1,c2,c3,c4,c5⟩:=S5.o.cells;have hszN:=S5.o.lt;go_wp2_with fail
 try clear c0 c1 c2 c3 c4 c5
 try clear hszN
 refine(HC.o).mono ?_;rintro e w6 ⟨rfl,hW6,hK6⟩;have S6:=hI (S5.o.call hW6 hK6);clear S5 hW6 hK6 HC;obtain⟨c0,c1,c2,c3,c4,c5⟩:=S6.o.cells;have hszN:=S6.o.lt;go_wp2_with fail
 try clear c0 c1 c2 c3 c4 c5
 try clear hszN
 have H:=jZ (S:=w6.1.size) [[40]] S6.o.wr (by simp) (by simp) (by have:=HLEN.o;(try simp only[lL,lO,lZ]at this ⊢);omega);simp only[jT,List.map,List.length]at H;refine H.mono ?_;clear H;rintro e w7 ⟨rfl,hW7,hK7⟩;have S7:=hI (S6.o.call hW7 hK7);clear S6 hW7 hK7;have hdl:((a1 :: r).dropLast).length=r.length:=by simp
 have hsub:∀ i (hi:i < ((a1 :: r).dropLast).length),∃ h:1+i < (a0 :: a1 :: r).length,(a0 :: a1 :: r)[1+i]=((a1 :: r).dropLast)[i]:=fun i hi=>⟨by rw[hdl]at hi;simp;omega,by rw[List.getElem_dropLast];simp[Nat.add_comm 1 i]⟩
 have HC:=qWO 115 qZ1 (fun _ _=>rfl) (param_w (qXn false)) lo B ((acc++ws1)++[[40]]) ((a1 :: r).dropLast) (some ⟨g0,6,none⟩) (vc - 1) _ ws3 S7.o.wr (.inr ⟨g0,6,rfl,(HR.o.keep S7.o.kp.below).sub _ 1 hsub⟩) (by rw[hdl];omega) (qZn.of fun t ht=>qZn.mem HFL.o t (List.mem_cons_of_mem _ (List.dropLast_subset _ ht))) hc3 (by have:=HLEN.o;(try simp only[lL,lO,lZ]at this ⊢);omega);rw[hdl]at HC;have HC:=hI HC;clear hdl hsub;obtain⟨c0,c1,c2,c3,c4,c5⟩:=S7.o.cells;have hszN:=S7.o.lt;go_wp2_with fail
 try clear c0 c1 c2 c3 c4 c5
 try clear hszN
 refine(HC.o).mono ?_;rintro e w8 ⟨rfl,hW8,hK8⟩;have S8:=hI (S7.o.call hW8 hK8);clear S7 hW8 hK8 HC;obtain⟨c0,c1,c2,c3,c4,c5⟩:=S8.o.cells;have hszN:=S8.o.lt;go_wp2_with fail
 try clear c0 c1 c2 c3 c4 c5
 try clear hszN
 have H:=jZ (S:=w8.1.size) [[41]] S8.o.wr (by simp) (by simp) (by have:=HLEN.o;(try simp only[lL,lO,lZ]at this ⊢);omega);simp only[jT,List.map,List.length]at H;refine H.mono ?_;clear H;rintro e w9 ⟨rfl,hW9,hK9⟩;have S9:=hI (S8.o.call hW9 hK9);clear S8 hW9 hK9;obtain⟨qa,na,ca,hla,hca⟩:=(HR.o.keep S9.o.kp.below).2 (r.length+1) (by simp);have hgl:(a0 :: a1 :: r)[r.length+1]'(by simp)=(a1 :: r).getLast (List.cons_ne_nil a1 r):=by rw[List.getLast_eq_getElem];simp
 rw[hgl]at hla hca;have hng:qZl ((a1 :: r).getLast (List.cons_ne_nil a1 r)):=qZn.mem HFL.o _ (List.mem_cons_of_mem _ (List.getLast_mem _));generalize (a1 :: r).getLast (List.cons_ne_nil a1 r)=y at *;have⟨k0,k1,k2,k3,k4,k5,_⟩:=hca.a;simp only[Nat.zero_add]at k0 k1 k2 k3 k4 k5;have HC:=hI (hbl lo B ((((acc++ws1)++[[40]])++ws3)++[[41]]) y (.slice qa na ca) _ wr4 S9.o.wr hla hng hd4 (by have:=HLEN.o;(try simp only[lL,lO,lZ]at this ⊢);omega));clear hca hla;try simp only[qZ]at HC
 obtain⟨c0,c1,c2,c3,c4,c5⟩:=S9.o.cells;have hszN:=S9.o.lt;go_wp2_with fail
 try clear c0 c1 c2 c3 c4 c5
 try clear hszN
 try clear k0 k1 k2 k3 k4 k5
 refine(HC.o).mono ?_;rintro e w10 ⟨rfl,hW10,hK10⟩;have S10:=hI (S9.o.call hW10 hK10);clear S9 hW10 hK10 HC;go_wp2
 first | go_end0 | refine bodyPost_ret (v:=.tuple #[]) (by simp[results,results94,go_sem]) rfl ?_
 exact⟨rfl,by simpa[List.append_assoc,qY,qG,qC,qO,zB,zD,zX,qE,kIf,zS,qA,qV,qF,qD,qP,qW,qN,zW,zM,qL,qM,qT,zK,zL,qH,zA]using S10.o.wr,S10.o.kp⟩
theorem global_w :kZ 95 (fun p n=>#[p,n]) (qXa):=by
 intro lo B acc t v w ws hW hL hF he hlen;obtain⟨k,x,m,ln,co,ks⟩:=t;obtain⟨hFk,hFx,hFm0,hFm1,hFn,hFL⟩:=id hF;unfold qXa qQn at he;simp only[qY,qG,qC,qO,zB,zD,zX,qE,kIf,zS,qA,qV,qF,qD,qP,qW,qN,zW,zM,qL,qM,qT,zK,zL,qH,zA,tQ]at he;obtain⟨hb,he1⟩:=zN he;clear he;simp only[bE,beq_iff_eq]at hb;obtain⟨rfl,hnm⟩:=hb;rcases ks with _ | ⟨a0,_ | ⟨a1,_ | ⟨b,r⟩⟩⟩
 ·simp at he1
 rotate_right
 ·simp at he1
 ·simp only at he1;obtain⟨ws1,wr1,hc1,hd1,hx1⟩:=qK he1;subst hx1;clear he1;injection hd1 with hd1;subst hd1;obtain⟨g0,vc,hv,hR⟩:=hL.row (by simp[qQ.kids]);have HR:=hI hR;clear hR;simp only[tQ,List.length]at hv;subst hv;have S0:=hI (Sw.start hW hL);have HF:=hI hF;have HFL:=hI hFL;have HLEN:=hI hlen;have hBw:=hW.lt;have HFX:=hI hFx;have HFN:=hI hFn;clear hW hF hL hFL hlen hFk hFx hFn;try simp only[qZ,qS,tQ]at *
  go_enter func95,ntmps95
  obtain⟨c0,c1,c2,c3,c4,c5⟩:=S0.o.cells;have hszN:=S0.o.lt;go_wp2_with fail
  try clear c0 c1 c2 c3 c4 c5
  try clear hszN
  have HQ:=qZg (t:=(.mk [103,108,111,98,97,108] x m ln co [a0])) (v:=.slice (some ⟨g0,0,none⟩) 1 vc) (lo:=1) (hi:=2) _ S0.o.wr.tab HFX.o rfl hnm (by first | simp | omega | (have:=HFN.o;(try simp only[List.length]at this ⊢);omega)) (by first | simp | omega | (have:=HFN.o;(try simp only[List.length]at this ⊢);omega));simp only[qZ,tQ]at HQ;refine HQ.mono ?_;clear HQ;rintro e w2 ⟨rfl,hb2⟩;have S2:=hI (S0.o.below hb2);clear S0 hb2;obtain⟨c0,c1,c2,c3,c4,c5⟩:=S2.o.cells;have hszN:=S2.o.lt;go_wp2_with fail
  refine(jF _).mono ?_;rintro e w' ⟨rfl,rfl⟩;try clear c0 c1 c2 c3 c4 c5 hszN
  have HC:=hI ((qXn false) lo B acc (.mk [103,108,111,98,97,108] x m ln co [a0]) _ _ ws1 S2.o.wr S2.o.li HF.o hc1 (by have:=HLEN.o;(try simp only[lL,lO,lZ]at this ⊢);omega));try simp only[qZ,tQ]at HC
  obtain⟨c0,c1,c2,c3,c4,c5⟩:=S2.o.cells;have hszN:=S2.o.lt;go_wp2_with fail
  try clear c0 c1 c2 c3 c4 c5
  try clear hszN
  refine(HC.o).mono ?_;rintro e w3 ⟨rfl,hW3,hK3⟩;have S3:=hI (S2.o.call hW3 hK3);clear S2 hW3 hK3 HC;obtain⟨c0,c1,c2,c3,c4,c5⟩:=S3.o.cells;have hszN:=S3.o.lt;go_wp2_with fail
  try clear c0 c1 c2 c3 c4 c5
  try clear hszN
  have H:=jZ (S:=w3.1.size) [[59]] S3.o.wr (by simp) (by simp) (by have:=HLEN.o;(try simp only[lL,lO,lZ]at this ⊢);omega);simp only[jT,List.map,List.length]at H;refine H.mono ?_;clear H;rintro e w4 ⟨rfl,hW4,hK4⟩;have S4:=hI (S3.o.call hW4 hK4);clear S3 hW4 hK4;go_wp2
  first | go_end0 | refine bodyPost_ret (v:=.tuple #[]) (by simp[results,results95,go_sem]) rfl ?_
  exact⟨rfl,by simpa[List.append_assoc,qY,qG,qC,qO,zB,zD,zX,qE,kIf,zS,qA,qV,qF,qD,qP,qW,qN,zW,zM,qL,qM,qT,zK,zL,qH,zA]using S4.o.wr,S4.o.kp⟩
 ·simp only at he1;obtain⟨wsA,wrA,hA,hS,hxA⟩:=qK he1;subst hxA;clear he1;injection hS with hS;subst hS;obtain⟨ws1,wr1,hc1,hd1,hx1⟩:=qK hA;subst hx1;clear hA;obtain⟨ws2,wr2,hc2,hd2,hx2⟩:=qK hd1;subst hx2;clear hd1;injection hc2 with hc2;subst hc2;obtain⟨ws3,wr3,hc3,hd3,hx3⟩:=qK hd2;subst hx3;clear hd2;injection hd3 with hd3;subst hd3;obtain⟨g0,vc,hv,hR⟩:=hL.row (by simp[qQ.kids]);have HR:=hI hR;clear hR;simp only[tQ,List.length]at hv;subst hv;have S0:=hI (Sw.start hW hL);have HF:=hI hF;have HFL:=hI hFL;have HLEN:=hI hlen;have hBw:=hW.lt;have HFX:=hI hFx;have HFN:=hI hFn;clear hW hF hL hFL hlen hFk hFx hFn;try simp only[qZ,qS,tQ]at *
  go_enter func95,ntmps95
  obtain⟨c0,c1,c2,c3,c4,c5⟩:=S0.o.cells;have hszN:=S0.o.lt;go_wp2_with fail
  try clear c0 c1 c2 c3 c4 c5
  try clear hszN
  have HQ:=qZg (t:=(.mk [103,108,111,98,97,108] x m ln co [a0,a1])) (v:=.slice (some ⟨g0,0,none⟩) 2 vc) (lo:=1) (hi:=2) _ S0.o.wr.tab HFX.o rfl hnm (by first | simp | omega | (have:=HFN.o;(try simp only[List.length]at this ⊢);omega)) (by first | simp | omega | (have:=HFN.o;(try simp only[List.length]at this ⊢);omega));simp only[qZ,tQ]at HQ;refine HQ.mono ?_;clear HQ;rintro e w4 ⟨rfl,hb4⟩;have S4:=hI (S0.o.below hb4);clear S0 hb4;obtain⟨c0,c1,c2,c3,c4,c5⟩:=S4.o.cells;have hszN:=S4.o.lt;go_wp2_with fail
  refine(jF _).mono ?_;rintro e w' ⟨rfl,rfl⟩;try clear c0 c1 c2 c3 c4 c5 hszN
  have HC:=hI ((qXn false) lo B acc (.mk [103,108,111,98,97,108] x m ln co [a0,a1]) _ _ ws1 S4.o.wr S4.o.li HF.o hc1 (by have:=HLEN.o;(try simp only[lL,lO,lZ]at this ⊢);omega));try simp only[qZ,tQ]at HC
  obtain⟨c0,c1,c2,c3,c4,c5⟩:=S4.o.cells;have hszN:=S4.o.lt;go_wp2_with fail
  try clear c0 c1 c2 c3 c4 c5
  try clear hszN
  refine(HC.o).mono ?_;rintro e w5 ⟨rfl,hW5,hK5⟩;have S5:=hI (S4.o.call hW5 hK5);clear S4 hW5 hK5 HC;obtain⟨c0,c1,c2,c3,c4,c5⟩:=S5.o.cells;have hszN:=S5.o.lt;go_wp2_with fail
  try clear c0 c1 c2 c3 c4 c5
  try clear hszN
  have H:=jZ (S:=w5.1.size) [[91]] S5.o.wr (by simp) (by simp) (by have:=HLEN.o;(try simp only[lL,lO,lZ]at this ⊢);omega);simp only[jT,List.map,List.length]at H;refine H.mono ?_;clear H;rintro e w6 ⟨rfl,hW6,hK6⟩;have S6:=hI (S5.o.call hW6 hK6);clear S5 hW6 hK6;obtain⟨qa,na,ca,hla,hca⟩:=(HR.o.keep S6.o.kp.below).2 1 (by simp);simp only[Nat.zero_add,Nat.zero_mul,Nat.one_mul,Nat.reduceAdd,Nat.reduceMul,List.getElem_cons_zero,List.getElem_cons_succ]at hla hca;have⟨k0,k1,k2,k3,k4,k5,_⟩:=hca.a;simp only[Nat.zero_add,Nat.zero_mul,Nat.one_mul,Nat.reduceAdd,Nat.reduceMul,List.getElem_cons_zero,List.getElem_cons_succ]at k0 k1 k2 k3 k4 k5;have HC:=hI (qPT lo B ((acc++ws1)++[[91]]) a1 (.slice qa na ca) _ ws3 S6.o.wr hla (HFL.o.mem _ (by simp)) hc3 (by have:=HLEN.o;(try simp only[lL,lO,lZ]at this ⊢);omega));clear hca hla;try simp only[qZ]at HC
  obtain⟨c0,c1,c2,c3,c4,c5⟩:=S6.o.cells;have hszN:=S6.o.lt;go_wp2_with fail
  try clear c0 c1 c2 c3 c4 c5
  try clear hszN
  try clear k0 k1 k2 k3 k4 k5
  refine(HC.o).mono ?_;rintro e w7 ⟨rfl,hW7,hK7⟩;have S7:=hI (S6.o.call hW7 hK7);clear S6 hW7 hK7 HC;obtain⟨c0,c1,c2,c3,c4,c5⟩:=S7.o.cells;have hszN:=S7.o.lt;go_wp2_with fail
  try clear c0 c1 c2 c3 c4 c5
  try clear hszN
  have H:=jZ (S:=w7.1.size) [[93]] S7.o.wr (by simp) (by simp) (by have:=HLEN.o;(try simp only[lL,lO,lZ]at this ⊢);omega);simp only[jT,List.map,List.length]at H;refine H.mono ?_;clear H;rintro e w8 ⟨rfl,hW8,hK8⟩;have S8:=hI (S7.o.call hW8 hK8);clear S7 hW8 hK8;obtain⟨c0,c1,c2,c3,c4,c5⟩:=S8.o.cells;have hszN:=S8.o.lt;go_wp2_with fail
  try clear c0 c1 c2 c3 c4 c5
  try clear hszN
  have H:=jZ (S:=w8.1.size) [[59]] S8.o.wr (by simp) (by simp) (by have:=HLEN.o;(try simp only[lL,lO,lZ]at this ⊢);omega);simp only[jT,List.map,List.length]at H;refine H.mono ?_;clear H;rintro e w9 ⟨rfl,hW9,hK9⟩;have S9:=hI (S8.o.call hW9 hK9);clear S8 hW9 hK9;go_wp2
  first | go_end0 | refine bodyPost_ret (v:=.tuple #[]) (by simp[results,results95,go_sem]) rfl ?_
  exact⟨rfl,by simpa[List.append_assoc,qY,qG,qC,qO,zB,zD,zX,qE,kIf,zS,qA,qV,qF,qD,qP,qW,qN,zW,zM,qL,qM,qT,zK,zL,qH,zA]using S9.o.wr,S9.o.kp⟩
theorem program_w(n:Nat)(hfn:kZ 94 (fun p n=>#[p,n]) (kA (qZB n))):kZ 76 (fun p n=>#[p,n]) (qQO n):=by
 intro lo B acc t v w ws hW hL hF he hlen;obtain⟨k,x,m,ln,co,ks⟩:=t;obtain⟨hFk,hFx,hFm0,hFm1,hFn,hFL⟩:=id hF;simp only[qQO,qY,qG,qC,qO,zB,zD,zX,qE,kIf,zS,qA,qV,qF,qD,qP,qW,qN,zW,zM,qL,qM,qT,zK,zL,qH,zA,tQ]at he;obtain⟨hb,hm⟩:=zN he;clear he;simp only[bE,beq_iff_eq]at hb;obtain⟨rfl,hbare⟩:=hb;obtain⟨q0,vc,hv,hvc,hvm,hka⟩:=hL.kids;have HKA:=hI hka;clear hka;simp only[tQ,List.length]at hv;subst hv;have S0:=hI (Sw.start hW hL);have HF:=hI hF;have HFL:=hI hFL;have HLEN:=hI hlen;have hBw:=hW.lt;have HFX:=hI hFx;have HFN:=hI hFn;clear hW hF hL hFL hlen hFk hFx hFn;try simp only[qZ,qS,tQ]at *
 have HEM:=hI hm;clear hm;have hmf:=zT;go_enter func76,ntmps76
 obtain⟨c0,c1,c2,c3,c4,c5⟩:=S0.o.cells;have hszN:=S0.o.lt;go_wp2_with fail
 try clear c0 c1 c2 c3 c4 c5
 try clear hszN
 have HQ:=wB (t:=(.mk [112,114,111,103,114,97,109] x m ln co ks)) (v:=.slice q0 ks.length vc) (lo:=0) (hi:=9223372036854775807) _ S0.o.wr.tab rfl hbare (by first | (simp;done) | omega | (have:=HFN.o;(try simp only[List.length]at this ⊢);omega)) (by first | (simp;done) | omega | (have:=HFN.o;(try simp only[List.length]at this ⊢);omega));simp only[qZ,tQ]at HQ;refine HQ.mono ?_;clear HQ;rintro e w1 ⟨rfl,hb1⟩;have S1:=hI (S0.o.below hb1);clear S0 hb1;obtain⟨c0,c1,c2,c3,c4,c5⟩:=S1.o.cells;have hszN:=S1.o.lt;go_wp2_with fail
 refine(jF _).mono ?_;rintro e w' ⟨rfl,rfl⟩;try clear c0 c1 c2 c3 c4 c5 hszN
 obtain⟨c0,c1,c2,c3,c4,c5⟩:=S1.o.cells;have hszN:=S1.o.lt;go_wp2_with fail
 try clear c0 c1 c2 c3 c4 c5
 try clear hszN
 go_loopw [17] (fun i wr=>ManyRel lo B w.1.size acc (.mk [112,114,111,103,114,97,109] x m ln co ks) (.slice q0 ks.length vc) (fun k=>if k.kind == [102,117,110,99]then kA (qZB n) k else qXa k) ks ws w i wr) (fun i _=>ks.length - (intOf i).toNat)
 case atStart=>exact⟨0,[],ws,Nat.zero_le _,rfl,rfl,HEM.o,by simpa using S1.o⟩
 case round =>
  have hn:=HFN.o;obtain⟨i,pre,post,hk,rfl,hws,hpost,hS⟩:=hrel;have HWS:=hI hws;have HPO:=hI hpost;have SR:=hI hS;clear hws hpost hS S1;by_cases hlt:i < ks.length
  ·have hne:ks≠[]:=fun e=>by rw[e]at hlt;simp at hlt
   obtain⟨g1,off,rfl,hR⟩:=(HKA.o.keep SR.o.kp.below).resolve_left hne;obtain⟨qa,na,ca,hla,hca⟩:=hR.2 i hlt;have⟨k0,k1,k2,k3,k4,k5,_⟩:=hca.a;have HLA:=hI hla;have hneat:=hI (qZn.mem HFL.o ks[i] (List.getElem_mem _));have T0:=hI (Hn.new ks[i] (.slice qa na ca) wr);have S1:=hI (SR.o.alloc (.cells (qS ks[i] (.slice qa na ca)).toArray 57));have hBr:=SR.o.wr.lt;have HLL:=hI (HLA.o.keep (((Below.refl _ _).alloc (Nat.le_refl _) (.cells (qS ks[i] (.slice qa na ca)).toArray 57)).mono (Nat.le_of_lt hBr)));obtain⟨a,b,ha,hb,hpe⟩:=qUi hlt HPO.o;have HA:=hI ha;have HB:=hI hb;have HPE:=hI hpe;have hlen:((acc++pre)++a).length<=1000000000:=by have:=HLEN.o;rw[HWS.o,hpe]at this;simp only[lL,lO,lZ]at this ⊢;omega
   have HLEN2:=hI hlen;clear hca hla hR hne HLA ha hb hpe hlen SR;generalize hu:ks[i]=u at *;simp only[qS,qZ]at *;cases hkf:(u.kind == [102,117,110,99]);case false =>
    have ha:=HA.o;simp only[hkf,bF,if_false,if_true,reduceIte]at ha;have HC:=hI (global_w lo B (acc++pre) u (.slice qa na ca) _ a S1.o.wr HLL.o hneat.o ha (by have:=HLEN2.o;rwa [lL]at this));clear ha;try simp only[qZ]at HC
    obtain⟨c0,c1,c2,c3,c4,c5⟩:=S1.o.cells;go_wp2_with fail
    clear c0 c1 c2 c3 c4 c5;refine(HC.o).mono ?_;rintro e w5 ⟨rfl,hW5,hK5⟩;have S5:=hI (S1.o.call hW5 hK5);clear hW5 hK5 HC S1 T0 k0 k1 k2 k3 k4 k5;go_wp2
    go_roundw
    case rel=>exact⟨i+1,pre++a,b,by omega,by go_num,by rw[HWS.o,HPE.o,List.append_assoc],HB.o,by simpa[List.append_assoc]using S5.o⟩
    case measure=>simp[intOf];omega
   case true =>
    have ha:=HA.o;simp only[hkf,bF,if_false,if_true,reduceIte]at ha;have HC:=hI (hfn lo B (acc++pre) u (.slice qa na ca) _ a S1.o.wr HLL.o hneat.o ha (by have:=HLEN2.o;rwa [lL]at this));clear ha;try simp only[qZ]at HC
    skip
    obtain⟨c0,c1,c2,c3,c4,c5⟩:=S1.o.cells;go_wp2_with fail
    clear c0 c1 c2 c3 c4 c5;refine(HC.o).mono ?_;rintro e w5 ⟨rfl,hW5,hK5⟩;have S5:=hI (S1.o.call hW5 hK5);clear hW5 hK5 HC S1 T0 k0 k1 k2 k3 k4 k5;go_wp2
    go_roundw
    case rel=>exact⟨i+1,pre++a,b,by omega,by go_num,by rw[HWS.o,HPE.o,List.append_assoc],HB.o,by simpa[List.append_assoc]using S5.o⟩
    case measure=>simp[intOf];omega
  ·have hp0:post=[]:=by have h:=HPO.o;rw[qPP _ ks hk hlt]at h;injection h with h;exact h.symm
   have hws:=HWS.o;rw[hp0,lA]at hws;subst hws;have S2:=SR;clear SR hp0;go_wp2
   first | go_end0 | refine bodyPost_ret (v:=.tuple #[]) (by simp[results,results76,go_sem]) rfl ?_
   exact⟨rfl,by simpa[List.append_assoc,qY,qG,qC,qO,zB,zD,zX,qE,kIf,zS,qA,qV,qF,qD,qP,qW,qN,zW,zM,qL,qM,qT,zK,zL,qH,zA]using S2.o.wr,S2.o.kp⟩
theorem run_w:∀ n,kZ 150 (fun p n=>#[p,n]) (qZB n .expr)/\kZ 116 (fun p n=>#[p,n]) (qZB n .block):=by
 intro n;induction n with
 | zero=>exact⟨fun _ _ _ _ _ _ _ _ _ _ he=>by simp[qZB]at he,fun _ _ _ _ _ _ _ _ _ _ he=>by simp[qZB]at he⟩
 | succ n ih=>exact⟨qUK (qZB n) ih.1,block_w (qZB n) (qLd (qZB n) ih.1 ih.2)⟩
theorem prog_w(n:Nat):kZ 76 (fun p n=>#[p,n]) (qQO n):=program_w n (qL7 (qZB n) (run_w n).2)
theorem qVU{o:Oper}{a:Act}{K:Act->World->Prop}{Q:Exit->Act->World->Prop}{w:World}{ok:Nat->Prop}{acc ts:List qQ}{us:List Value}{v:Value}{ad:Addr}{c:Nat}(s x:Operand)
 (ho:o.op=.call { callee:=.builtin .append,args:=#[s,x],argTypes:=#[55,55] }) (hB:xH w ok acc v)
 (hs:a.eval s=v) (hx:a.eval x=.slice (some ad) ts.length c) (hm:0 < ts.length) (hnews:∀ (j:Nat) (u:Value),(qZK ts us)[j]? = some u->w.cell? (ad.add j)=some u)
 (hn:acc.length+ts.length<=1000000) (hok:ok w.1.size) (hL:vV w (fun g=>ok g/\some g≠v.ownBlock) ts us)
 (h:∀ v' w',xH w' ok (acc++ts) v'->w.grownBy w' v.ownBlock->K (a.put o.dst v') w') :
 o.wp prog a w K Q:=by
 obtain⟨vs,h1,h0,h2⟩:=hB;obtain⟨i0,hi,hz0,hz1,hz2⟩:=info_parts info57;have hlen:=vV.length acc vs h2;have hlen2:=vV.length ts us hL;have hone:=qYa ts us (vV.one ts us hL);have hrl:=qW9 ts us hlen2;obtain⟨v',w',hr,ho',hg',_⟩:=run_append_own (P:=prog) w 0 55 o.type 57 i0 _ 6 80 underlying55 hi hz0 hz1 hz2 rfl (by decide) v acc.length _ h1 ad ts.length c (qZK ts us) hrl hnews hone (by unfold maxLen;omega) (by omega) (Nat.zero_le _);have hbk:=qX7 (P:=prog) w 0 55 o.type 57 i0 _ 6 80 underlying55 hi hz0 hz1 hz2 v acc.length _ h1 ad ts.length c (qZK ts us) hrl hnews hone (by unfold maxLen;omega) (by omega) hm v' w' hr;have hst:∀ g,g < w.1.size->some g≠v.ownBlock->w'.1[g]? = w.1[g]?:=fun g hg hne=>hg'.block g hg hne
 have hv':∀ g,g < w.1.size->some g≠v.ownBlock->some g≠v'.ownBlock:=fun g hg hne e=>by
  rcases hbk with h | h
  ·exact hne (e.trans h)
  ·rw[h]at e;injection e with e;omega
 have hK:=h v' w' ⟨vs++us,by rw[qJS acc ts vs us hlen,lL];exact ho',fun g hg=>by
  rcases hbk with h | h
  ·exact h0 g (h ▸ hg)
  ·rw[h]at hg;injection hg with hg;subst hg;exact hok,
  vV.append acc ts vs us (vV.move (fun g hg hok=>⟨⟨hok.1,hv' g hg hok.2⟩,hst g hg hok.2⟩) acc vs h2) (vV.move (fun g hg hok=>⟨⟨hok.1,hv' g hg hok.2⟩,hst g hg hok.2⟩) ts us hL)⟩ hg'
 unfold Oper.wp execOp;simp only[ho,resolve,invoke,builtin,Sem.run_bind,Sem.run_pure,Result.andThen_ok,List.map_toArray,List.map_cons,List.map_nil,hs,hx,hr];exact hK
theorem qX6{o:Oper}{a:Act}{K:Act->World->Prop}{Q:Exit->Act->World->Prop}{w:World}{ok:Nat->Prop}{lo1 S dd:Nat}{acc:List qQ}{t:qQ}{v u:Value}(s x:Operand)
 (ho:o.op=.call { callee:=.builtin .append,args:=#[s,x],argTypes:=#[55,55] }) (hd:o.dst=some dd) (hB:xH w ok acc v) (hK:zC w lo1 t.kids u) (hok:∀ g,lo1<=g->ok g) (hv:∀ g,v.ownBlock=some g->g < lo1) (hl1:lo1<=w.1.size)
 (hs:a.eval s=v) (hS:w.1.size=S) (hx:a.eval x=.slice (some ⟨S,0,none⟩) 1 1) (hn:acc.length < 1000000)
 (h:∀ v' w',xH w' ok (acc++[t]) v'->(w.alloc (.cells (qS t u).toArray 57)).grownBy w' v.ownBlock->K (a.put (some dd) v') w') :
 o.wp prog a (w.alloc (.cells (qS t u).toArray 57)) K Q:=by
 subst hS;refine qVU s x ho (hB.below ((Below.refl _ _).alloc (Nat.le_refl _) _)) (ts:=[t]) (us:=[u]) hs hx (by simp) ?_ (by simp;omega) (hok _ (by simp;omega)) ⟨xZ.move (fun g hg hok'=>?_) t u (hK.alloc (.cells (qS t u).toArray 57)).lies,trivial⟩ (fun v' w' h1 h2=>by rw[hd];exact h v' w' h1 h2)
 ·simpa[qZK]using qUk w t u 57
 ·have hne:some g≠v.ownBlock:=fun e=>by have:=hv g e.symm;omega
  exact⟨⟨hok g hok',hne⟩,rfl⟩
structure NdX(N lo:Nat)(k x:List UInt8)(n ln c:Int)(v:Value)(ts:List qQ)(w:World):Prop where
 nd:zI N k x n ln c v w
 bd:xH w (fun g=>lo<=g/\g≠N) ts v
theorem NdX.lt{N lo:Nat}{k x:List UInt8}{n ln c:Int}{v:Value}{ts:List qQ}{w:World}(h:NdX N lo k x n ln c v ts w):N < w.1.size:=h.nd.lt
theorem NdX.call{N lo B:Nat}{k x:List UInt8}{n ln c:Int}{v:Value}{ts:List qQ}{w w':World}(h:NdX N lo k x n ln c v ts w)(hg:w.grownBy w' (some B))(hB:B < N/\B < lo):NdX N lo k x n ln c v ts w' :=
 ⟨h.nd.grown hg (by simp;omega),h.bd.grown hg (fun j e=>by cases e;exact .inl (fun h=>by omega))⟩
theorem NdX.below{N lo:Nat}{k x:List UInt8}{n ln c:Int}{v:Value}{ts:List qQ}{w w':World}(h:NdX N lo k x n ln c v ts w)(hb:Below w.1.size w w'):NdX N lo k x n ln c v ts w':=⟨h.nd.below hb,h.bd.below hb⟩
theorem NdX.drew{N lo:Nat}{k x:List UInt8}{n ln c:Int}{v:Value}{ts:List qQ}{w:World}(h:NdX N lo k x n ln c v ts w):NdX N lo k x n ln c v ts w.drew:=h.below (Below.refl _ _).drew
theorem NdX.own{N lo:Nat}{k x:List UInt8}{n ln c:Int}{v:Value}{ts:List qQ}{w:World}(h:NdX N lo k x n ln c v ts w):∀ g,v.ownBlock=some g->lo<=g/\g≠N/\g < w.1.size:=fun g hg=>by
 obtain⟨vs,h1,h2,_⟩:=h.bd;exact⟨(h2 g hg).1,(h2 g hg).2,(h1.lt g hg).2⟩
theorem NdX.put(t:qQ){lo:Nat}{v:Value}{w:World}(h:zC w lo t.kids v):NdX w.1.size lo t.kind t.text t.num t.line t.col v t.kids (w.alloc (wD t.kind t.text t.num t.line t.col v)) :=
 ⟨zI.new _ _ _ _ _ _ w,(xH.of h).move fun g hg hok=>⟨⟨hok,by omega⟩,heap_alloc_old w _ hg⟩⟩
theorem NdX.setK{N lo:Nat}{k x:List UInt8}{n ln c:Int}{v:Value}{ts:List qQ}{w:World}(h:NdX N lo k x n ln c v ts w)(k':List UInt8):NdX N lo k' x n ln c v ts (w.setCell ⟨N,0,none⟩ (.string ⟨k'.toArray⟩)):=by
 have⟨h0,h1,h2,h3,h4,h5,_⟩:=h.nd.a;have hf:=h.nd.f;refine⟨?_,h.bd.grown (jM _ _ _ _) (fun j e=>by cases e;exact .inl (fun h=>h.2 rfl))⟩;constructor
 case f=>intro k hk;have:=hf k hk;simp[go_sem, *]
 all_goals simp[go_sem, *]
theorem qKV{w0 w6 w7:World}{B N lo:Nat}{l:List Tok}{d:Int}{k x:List UInt8}{n ln c:Int}{v v7:Value}{acc ts:List qQ}{o:Obj}(S:St w0 B l d w6)(Nn:NdX N lo k x n ln c v acc w6)(hw:w0.1.size < N)(hwl:w0.1.size < lo)
 (hb7:xH w7 (fun g=>lo<=g/\g≠N) ts v7) (hg7:(w6.alloc o).grownBy w7 v.ownBlock):St w0 B l d (w7.setCell ⟨N,5,none⟩ v7)/\NdX N lo k x n ln c v7 ts (w7.setCell ⟨N,5,none⟩ v7):=by
 have hlt:=Nn.own;refine⟨((S.alloc o).local hg7 (fun j e=>by have:=(hlt j e).1;omega)).setN hw _ _,?_,hb7.grown (jM _ _ _ _) (fun j e=>by cases e;exact .inl (fun h=>h.2 rfl))⟩;exact((Nn.nd.grown (World.grownBy_alloc w6 o none) (by simp)).grown hg7 (fun e=>by have:=(hlt N e.symm).2.1;exact this rfl)).set5 v7
theorem qXW{α β:Type}{p:PR α}{f:α->List Tok->PR β}{b:β}{l:List Tok}(h:p.bind f=.ok b l):∃ a l',p=.ok a l'/\f a l'=.ok b l:=by
 cases p with
 | ok a l'=>exact⟨a,l',rfl,h⟩
 | bad ln c code=>simp[PR.bind]at h
 | out=>simp[PR.bind]at h
theorem qUP{rec:NT->Int->List Tok->PR qQ}{word:List UInt8}{d:Int}{l l':List Tok}{t:qQ}(h:jK rec word d l=.ok t l'):t.kids.length < 1000000:=by
 unfold jK at h;obtain⟨_,_,_,h⟩:=qXW h;obtain⟨_,_,_,h⟩:=qXW h;obtain⟨_,_,_,h⟩:=qXW h;obtain⟨_,_,_,h⟩:=qXW h;injection h with h1 h2;subst h1;simp[qQ.kids]
theorem qPp(rec:NT->Int->List Tok->PR qQ)(d:Int)(he:yR 107)(hgu:vM 157 (fun p=>#[p, .string ⟨#[105,102]⟩]) d (jK rec kIf d))(hbl:vM 107 (fun p=>#[p]) (d+1) (rec .block (d+1))):vM 141 (fun p=>#[p]) d (vF rec d):=by
 intro B l w h hno;obtain⟨t,r,rfl⟩:=h.ends.ne;have S0:=St.start h;have hBw:=S0.hB;have HNO:=hI hno;have S0:=hI S0;have hmf:=zT;have hft:=vS;have hfk:=yW;have HGU:=hI hgu;have HBL:=hI (wT 107 d (rec .block) he hbl);clear he hgu hbl;clear h hno;unfold jY at *;go_enter func141,ntmps141
 have hnoc:jK rec kIf d (t :: r)≠.out:=fun e=>HNO.o (by simp only[bF,if_false,if_true,reduceIte,bN,bM,bO,bU,bP,bV,bW,bB,bA,bT,lN,lC,lA,vF,PR.bind,qX,e])
 have HC:=hI (HGU.o B (t :: r) _ S0.o.ps hnoc);have HNOC:=hI hnoc;clear hnoc;go_wp2_with fail
 refine(HC.o).mono ?_;intro e w1 hq;rcases hq.cases HNOC.o with⟨t1,l1,q1,n1,c1,he1,rfl,hb1,hP1,hg1⟩ | ⟨ln,c,code,he1,rfl,hg1⟩;rotate_left
 ·refine⟨rfl,?_⟩;have hbad:(vF rec d) (t :: r)=.bad ln c code:=by simp only[bF,if_false,if_true,reduceIte,bN,bM,bO,bU,bP,bV,bW,bB,bA,bT,lN,lC,lA,vF,PR.bind,qX,he1]
  rw[hbad];exact S0.o.pan ⟨rfl,hg1⟩
 have hwN:w.1.size < w1.1.size:=(S0.o.call hP1 hg1).lt;have N1:=hI (NdX.put t1 (hb1.mono (lo':=w.1.size+1) S0.o.lt));have S1:=hI ((S0.o.call hP1 hg1).alloc (wD t1.kind t1.text t1.num t1.line t1.col (.slice q1 n1 c1)));have HE1:=hI he1;clear hq hb1 hP1 hg1 he1 HC HNOC S0;unfold qZ wD at *;have hkl:t1.kids.length < 1000000:=by
  have:=HE1.o;exact qUP this
 obtain⟨t2,r2l,hlt2⟩:=S1.o.ps.ends.ne;subst hlt2;cases hf1:(t2.text == zS);case false =>
  have H:=hI (wN B t2 r2l d zS _ S1.o.ps);rw[hf1]at H;go_wp2_with fail
  refine(H.o).mono ?_;rintro e w2 ⟨rfl,hb2⟩;have S2:=hI (S1.o.below hb2);have N2:=hI (N1.o.below hb2);clear S1 N1;clear H hb2;have S9:=S2.o;have N9:=N2.o;have hs1:=S9.lt;have hs2:=N9.lt;try simp only[World.size_setCell,World.size_alloc]at hs1 hs2
  have hr:=S9.res;have⟨r0,r1',r2,r3,r4,r5,_⟩:=hr.a;have⟨g0,g1,g2,g3,g4,g5,_⟩:=hr.b;clear hr;have hq:=N9.nd;have⟨qn0,qn1,qn2,qn3,qn4,qn5,_⟩:=hq.a;clear hq;have HS9:=hI S9;have HN9:=hI N9;clear S9 N9 S2 N2;skip
  go_wp2
  refine bodyPost_ret (v:=qZ t1 (.slice q1 n1 c1)) (by simp[results,results141,go_sem,qZ,tQ,qY,qG,qC,qO,zB,zD,zX,qE,kIf,zS,qA,qV,qF,qD,qP,qW,qN,zW,zM,qL,qM,qT,zK,zL,qH,zA, *]) rfl ?_;have hgood:(vF rec d) (t :: r)=.ok t1 (t2 :: r2l):=by simp only[bF,if_false,if_true,reduceIte,bN,bM,bO,bU,bP,bV,bW,bB,bA,bT,lN,lC,lA,vF,hf1,PR.bind,qX,HE1.o]
  rw[hgood];exact HS9.o.fin (t:=t1) (HN9.o.bd.build fun g hg=>hg.1) _ _ _ _ _ _
 case true =>
  have H:=hI (wN B t2 r2l d zS _ S1.o.ps);rw[hf1]at H;go_wp2_with fail
  refine(H.o).mono ?_;rintro e w2 ⟨rfl,hb2⟩;have S2:=hI (S1.o.below hb2);have N2:=hI (N1.o.below hb2);clear S1 N1;clear H hb2;have H:=hI (xV (S:=w2.1.size) [zS] S2.o.ps (by simp[*,qY,qG,qC,qO,zB,zD,zX,qE,kIf,zS,qA,qV,qF,qD,qP,qW,qN,zW,zM,qL,qM,qT,zK,zL,qH,zA]) (by simp) (by simp));simp only[List.map,List.length]at H;go_wp2_with fail
  refine(H.o).mono ?_;rintro e w3 (⟨l3,he3,rfl,hP3,hg3⟩ | ⟨ln,c,code,he3,rfl,hg3⟩);rotate_left
  ·refine⟨rfl,?_⟩;have hbad:(vF rec d) (t :: r)=.bad ln c code:=by simp only[bF,if_false,if_true,reduceIte,bN,bM,bO,bU,bP,bV,bW,bB,bA,bT,lN,lC,lA,vF,hf1,PR.bind,qX,HE1.o,he3]
   rw[hbad];exact S2.o.pan ⟨rfl,hg3⟩
  have S3:=hI (S2.o.call hP3 hg3);have N3:=hI (N2.o.call hg3 (by omega));clear S2 N2;have HE3:=hI he3;clear H he3 hP3 hg3;have hnoc:xX d (rec .block) l3≠.out:=fun e=>HNO.o (by simp only[bF,if_false,if_true,reduceIte,bN,bM,bO,bU,bP,bV,bW,bB,bA,bT,lN,lC,lA,vF,hf1,PR.bind,qX,HE1.o,HE3.o,e])
  have HNOC:=hI hnoc;clear hnoc;have S4d:=hI S3.o.drew;have N4d:=hI N3.o.drew;clear S3 N3;go_wp2_with fail
  have hcl:=N4d.o.nd.c5;refine wRg (S:=fun w'=>w'.cell? ⟨w1.1.size,5,none⟩=some (.slice q1 n1 c1)) 7 ?_;refine wTk 0 11 (.pointer (some ⟨w1.1.size,5,none⟩)) ?_ hcl ?_
  ·intro _ y;go_simp
  refine wTk 1 12 (.slice q1 n1 c1) ?_ hcl ?_
  ·intro _ y;go_simp
  refine wTk 2 13 (.pointer (some ⟨B,0,none⟩)) ?_ hcl ?_
  ·intro _ y;go_simp
  refine wTk 3 14 (.pointer (some ⟨B,0,none⟩)) ?_ hcl ?_
  ·intro _ y;go_simp
  refine wTk 4 15 (.func (.func 107) #[.pointer (some ⟨B,0,none⟩)] #[]) ?_ hcl ?_
  ·intro _ y;go_simp
  refine wOn 5 fun K hK=>?_
  go_simp;have HC:=HBL.o B l3 _ S4d.o.ps HNOC.o;refine HC.mono ?_;intro e w4a hq;rcases hq.cases HNOC.o with⟨t4,l4,q4,n4,c4,he4,rfl,hb6,hP6,hg6⟩ | ⟨ln,c,code,he4,rfl,hg6⟩;rotate_left
  ·refine⟨rfl,?_⟩;have hbad:(vF rec d) (t :: r)=.bad ln c code:=by simp only[bF,if_false,if_true,reduceIte,bN,bM,bO,bU,bP,bV,bW,bB,bA,bT,lN,lC,lA,vF,hf1,PR.bind,qX,HE1.o,HE3.o,he4]
   rw[hbad];exact S4d.o.pan ⟨rfl,hg6⟩
  have S6:=hI (S4d.o.call hP6 hg6);have N6:=hI (N4d.o.call hg6 (by omega));have HB6:=hI hb6;have hbl:=N4d.o.own;have c6':=N6.o.nd.c5;have f6':=N6.o.nd.f 5 nL;have hs6:=N6.o.lt;have hsz5:=N4d.o.lt;have hsz6:=hg6.size;clear hP6 hg6 hb6 HC hq S4d N4d;unfold qZ;refine kK hK c6' ?_;clear hK K;refine wOn 6 fun K hK=>?_
  go_simp;refine kK hK (by go_simp) ?_;clear hK K;refine wOn 7 fun K hK=>?_
  refine qX6 (dd:=18) (t:=t4) (u:=.slice q4 n4 c4) _ _ rfl rfl N6.o.bd HB6.o (fun g hg=>⟨by omega,by omega⟩) (fun g hg=>(hbl g hg).2.2) hsz6 rfl rfl rfl (by simpa using hkl) (fun v7 w4 hb7 hg7=>?_);refine kD hK ?_;clear hK K;obtain⟨qq4,nn4,cc4,rfl⟩:=hb7.shape;have hff:=qKV S6.o N6.o hwN (Nat.lt_succ_self _) hb7 hg7;have hs7:w4.frozen? ⟨w1.1.size,5,none⟩=false:=((N6.o.nd.grown (World.grownBy_alloc w4a _ none) (by simp)).grown hg7 (fun e=>(hbl _ e.symm).2.1 rfl)).f 5 nL;have hd7:=((N6.o.nd.grown (World.grownBy_alloc w4a _ none) (by simp)).grown hg7 (fun e=>(hbl _ e.symm).2.1 rfl)).c5;have HFF:=hI hff;clear hff hb7 hg7 S6 N6 HB6 hbl hcl c6' f6' hsz5 hsz6;try simp only[Act.put,pZa,pZb,pZc]
  refine wOn 8 fun K hK=>?_
  go_simp;refine kD hK ?_;clear hK K;refine wOn 9 fun K hK=>?_
  go_simp;refine kD hK ?_;clear hK K;refine wDn ?_ _;clear hs7 hd7;have S4:=hI HFF.o.1;have N4:=hI HFF.o.2;have HE4:=hI he4;clear HFF he4 HNOC;have hszn:=N4.o.lt;simp only[World.size_setCell]at hszn;have S9:=S4.o;have N9:=N4.o;have hs1:=S9.lt;have hs2:=N9.lt;try simp only[World.size_setCell,World.size_alloc]at hs1 hs2
  have hr:=S9.res;have⟨r0,r1',r2,r3,r4,r5,_⟩:=hr.a;have⟨g0,g1,g2,g3,g4,g5,_⟩:=hr.b;clear hr;have hq:=N9.nd;have⟨qn0,qn1,qn2,qn3,qn4,qn5,_⟩:=hq.a;clear hq;have HS9:=hI S9;have HN9:=hI N9;clear S9 N9 S4 N4;skip
  go_wp2
  refine bodyPost_ret (v:=qZ (.mk t1.kind t1.text t1.num t1.line t1.col (t1.kids++[t4])) (.slice qq4 nn4 cc4)) (by simp[results,results141,go_sem,qZ,tQ,qY,qG,qC,qO,zB,zD,zX,qE,kIf,zS,qA,qV,qF,qD,qP,qW,qN,zW,zM,qL,qM,qT,zK,zL,qH,zA, *]) rfl ?_;have hgood:(vF rec d) (t :: r)=.ok (.mk t1.kind t1.text t1.num t1.line t1.col (t1.kids++[t4])) l4:=by simp only[bF,if_false,if_true,reduceIte,bN,bM,bO,bU,bP,bV,bW,bB,bA,bT,lN,lC,lA,vF,hf1,PR.bind,qX,HE1.o,HE3.o,HE4.o]
  rw[hgood];exact HS9.o.fin (t:=(.mk t1.kind t1.text t1.num t1.line t1.col (t1.kids++[t4]))) (HN9.o.bd.build fun g hg=>hg.1) _ _ _ _ _ _
theorem qVV{o:Oper}{a:Act}{K:Act->World->Prop}{Q:Exit->Act->World->Prop}{w:World}{ok:Nat->Prop}{lo1 dd:Nat}{acc ts:List qQ}{v u:Value}(s x:Operand)
 (ho:o.op=.call { callee:=.builtin .append,args:=#[s,x],argTypes:=#[55,55] }) (hd:o.dst=some dd) (hB:xH w ok acc v) (hK:zC w lo1 ts u) (hz:ts=[]->u=.slice none 0 0) (hok:∀ g,lo1<=g->ok g) (hv:∀ g,v.ownBlock=some g->g < lo1) (hl1:lo1<=w.1.size)
 (hs:a.eval s=v) (hx:a.eval x=u) (hn:acc.length+ts.length<=1000000)
 (h:∀ v' w',xH w' ok (acc++ts) v'->w.grownBy w' v.ownBlock->K (a.put (some dd) v') w') :
 o.wp prog a w K Q:=by
 by_cases he:ts=[]
 ·obtain rfl:=he;obtain rfl:=hz rfl;obtain⟨i0,hi,hz0,hz1,hz2⟩:=info_parts info57;obtain⟨vs,h1,h2⟩:=hB;have hr:=run_append_owned_none (P:=prog) (w:=w) 0 55 o.type 57 i0 6 underlying55 hi v acc.length _ h1;have hk:=h v w (by rw[lA];exact⟨vs,h1,h2⟩) (jS _ _);unfold Oper.wp execOp;simp only[ho,resolve,invoke,builtin,Sem.run_bind,Sem.run_pure,Result.andThen_ok,List.map_toArray,List.map_cons,List.map_nil,hs,hx,hr];show K (a.put o.dst v) w
  rw[hd];exact hk
 ·obtain⟨us,h1,h2⟩:=hK;have hpos:0 < ts.length:=List.length_pos_iff.2 he;rcases h1.2 with⟨_,h0⟩ | ⟨g,cap,cur,rfl,hbg,hg,rest⟩
  ·omega
  ·refine qVU s x ho hB (ts:=ts) (us:=us) hs hx hpos (fun j y hy=>h1.cells (g:=g) rfl j y hy) (by omega) (hok _ hl1) (vV.move (fun g' hg' hok'=>?_) ts us h2) (fun v' w' h3 h4=>by rw[hd];exact h v' w' h3 h4);have hne:some g'≠v.ownBlock:=fun e=>by have:=hv g' e.symm;omega
   exact⟨⟨hok g' hok'.1,hne⟩,rfl⟩
theorem qYT{w0 w6 w7:World}{B N lo:Nat}{l:List Tok}{d:Int}{k x:List UInt8}{n ln c:Int}{v v7:Value}{acc ts:List qQ}(S:St w0 B l d w6)(Nn:NdX N lo k x n ln c v acc w6)(hw:w0.1.size < N)(hwl:w0.1.size < lo)
 (hb7:xH w7 (fun g=>lo<=g/\g≠N) ts v7) (hg7:w6.grownBy w7 v.ownBlock):St w0 B l d (w7.setCell ⟨N,5,none⟩ v7)/\NdX N lo k x n ln c v7 ts (w7.setCell ⟨N,5,none⟩ v7):=by
 have hlt:=Nn.own;refine⟨(S.local hg7 (fun j e=>by have:=(hlt j e).1;omega)).setN hw _ _,?_,hb7.grown (jM _ _ _ _) (fun j e=>by cases e;exact .inl (fun h=>h.2 rfl))⟩;exact(Nn.nd.grown hg7 (fun e=>by have:=(hlt N e.symm).2.1;exact this rfl)).set5 v7
theorem put_kind(w:World)(k k' x:ByteArray)(n ln c:Int)(v:Value):(w.alloc (.cells #[.string k, .string x, .int .u64 n, .int .i64 ln, .int .i64 c,v] 57)).setCell ⟨w.1.size,0,none⟩ (.string k')=w.alloc (.cells #[.string k', .string x, .int .u64 n, .int .i64 ln, .int .i64 c,v] 57):=by simp[go_sem]
def yM(n:Nat)(d:Int)(l:List Tok):PR qQ :=
 (zG qG ((hdT l).text == zA) l).bind fun t l' =>
  if (hdT l).text == zA || (hdT l').text == [40]then(xT n (zG qO false) l').bind fun ps l'=>(xX d (qQd n .block) l').bind fun b l' =>
   .ok (.mk qC t.text t.num t.line t.col (t.kids++ps++[b])) l'
  else if (hdT l').text == [91]then(jL [[91]] l').bind fun _ l'=>(wQ l').bind fun m l'=>(jL [[93]] l').bind fun _ l'=>(jL [[59]] l').bind fun _ l'=>.ok (.mk t.kind t.text t.num t.line t.col (t.kids++[m])) l'
  else(jL [[59]] l').bind fun _ l'=>.ok t l'
theorem qKm{kind:List UInt8}{void:Bool}{l l':List Tok}{t:qQ}(h:zG kind void l=.ok t l'):t.kids.length=1:=by
 unfold zG at h;obtain⟨_,_,_,h⟩:=qXW h;obtain⟨_,_,_,h⟩:=qXW h;injection h with h1 h2;subst h1;rfl
theorem item_does(n:Nat)(d:Int)(hn:n<=900000)(he:yR 107)(he':yR 105)(hdec:∀ (void:Bool) (B:Nat) (l:List Tok) (w:World),vP B l d w->(void=true->(hdT l).text≠[])->zG qG void l≠.out->Calls prog 103 #[.pointer (some ⟨B,0,none⟩), .string ⟨#[103,108,111,98,97,108]⟩, .bool void] w (qXV B d w (zG qG void l)))(hpa:vM 105 (fun p=>#[p]) d (zG qO false))(hbl:vM 107 (fun p=>#[p]) (d+1) (qQd n .block (d+1))):vM 91 (fun p=>#[p]) d (yM n d):=by
 intro B l w h hno;obtain⟨t,r,rfl⟩:=h.ends.ne;have S0:=St.start h;have hBw:=S0.hB;have HNO:=hI hno;have S0:=hI S0;have hmf:=zT;have hft:=vS;have hfk:=yW;have HDE:=hI hdec;have HCO:=hI (qVY 105 n d (zG qO false) hn he' hpa);have HBL:=hI (wT 107 d (qQd n .block) he hbl);have HNU:=hI (qV7 d);clear he he' hpa hbl hdec;clear h hno;unfold jY at *;go_enter func91,ntmps91
 cases hv0:(t.text == zA);case false =>
  have H:=hI (wN B t r d zA _ S0.o.ps);rw[hv0]at H;go_wp2_with fail
  refine(H.o).mono ?_;rintro e w1 ⟨rfl,hb1⟩;have S1:=hI (S0.o.below hb1);clear S0;clear H hb1;have hcv:false=true->(hdT (t :: r)).text≠[]:=fun h=>by cases h
  have HD2:=hI (fun(B:Nat) (l:List Tok) (w:World) (h:vP B l d w) (hc:false=true->(hdT l).text≠[]) (ho:zG qG false l≠.out)=>HDE.o false B l w h hc ho);have hnoc:zG qG false (t :: r)≠.out:=fun e=>HNO.o (by simp only[bF,if_false,if_true,reduceIte,bN,bM,bO,bU,bP,bV,bW,bB,bA,bT,lN,lC,lA,yM,hv0,PR.bind,qX,e])
  have HC:=hI (HDE.o false B (t :: r) _ S1.o.ps hcv hnoc);have HNOC:=hI hnoc;clear hnoc;go_wp2_with fail
  refine(HC.o).mono ?_;intro e w2 hq;rcases hq.cases HNOC.o with⟨t2,l2,q2,n2,c2,he2,rfl,hb2,hP2,hg2⟩ | ⟨ln,c,code,he2,rfl,hg2⟩;rotate_left
  ·refine⟨rfl,?_⟩;have hbad:(yM n d) (t :: r)=.bad ln c code:=by simp only[bF,if_false,if_true,reduceIte,bN,bM,bO,bU,bP,bV,bW,bB,bA,bT,lN,lC,lA,yM,hv0,PR.bind,qX,he2]
   rw[hbad];exact S1.o.pan ⟨rfl,hg2⟩
  have hwN:w.1.size < w2.1.size:=(S1.o.call hP2 hg2).lt;have N2:=hI (NdX.put t2 (hb2.mono (lo':=w.1.size+1) S1.o.lt));have S2:=hI ((S1.o.call hP2 hg2).alloc (wD t2.kind t2.text t2.num t2.line t2.col (.slice q2 n2 c2)));have HE2:=hI he2;clear hq hb2 hP2 hg2 he2 HC HNOC S1;unfold qZ wD at *;have hk1:t2.kids.length=1:=qKm HE2.o;clear hcv HD2 HDE;obtain⟨t3,r3l,hlt3⟩:=S2.o.ps.ends.ne;subst hlt3;cases hp0:(t3.text == [40]);case false =>
   have H:=hI (wN B t3 r3l d [40] _ S2.o.ps);rw[hp0]at H;go_wp2_with fail
   refine(H.o).mono ?_;rintro e w3 ⟨rfl,hb3⟩;have S3:=hI (S2.o.below hb3);have N3:=hI (N2.o.below hb3);clear S2 N2;clear H hb3;cases hb0:(t3.text == [91]);case false =>
    have H:=hI (wN B t3 r3l d [91] _ S3.o.ps);rw[hb0]at H;go_wp2_with fail
    refine(H.o).mono ?_;rintro e w4 ⟨rfl,hb4⟩;have S4:=hI (S3.o.below hb4);have N4:=hI (N3.o.below hb4);clear S3 N3;clear H hb4;have H:=hI (xV (S:=w4.1.size) [[59]] S4.o.ps (by simp) (by simp) (by simp));simp only[List.map,List.length]at H;go_wp2_with fail
    refine(H.o).mono ?_;rintro e w5 (⟨l5,he5,rfl,hP5,hg5⟩ | ⟨ln,c,code,he5,rfl,hg5⟩);rotate_left
    ·refine⟨rfl,?_⟩;have hbad:(yM n d) (t :: r)=.bad ln c code:=by simp only[bF,if_false,if_true,reduceIte,bN,bM,bO,bU,bP,bV,bW,bB,bA,bT,lN,lC,lA,yM,hv0,hp0,hb0,PR.bind,qX,HE2.o,he5]
     rw[hbad];exact S4.o.pan ⟨rfl,hg5⟩
    have S5:=hI (S4.o.call hP5 hg5);have N5:=hI (N4.o.call hg5 (by omega));clear S4 N4;have HE5:=hI he5;clear H he5 hP5 hg5;have S9:=S5.o;have N9:=N5.o;have hs1:=S9.lt;have hs2:=N9.lt;try simp only[World.size_setCell,World.size_alloc]at hs1 hs2
    have hr:=S9.res;have⟨r0,r1',r2,r3,r4,r5,_⟩:=hr.a;have⟨g0,g1,g2,g3,g4,g5,_⟩:=hr.b;clear hr;have hq:=N9.nd;have⟨qn0,qn1,qn2,qn3,qn4,qn5,_⟩:=hq.a;clear hq;have HS9:=hI S9;have HN9:=hI N9;clear S9 N9 S5 N5;skip
    go_wp2
    refine bodyPost_ret (v:=qZ t2 (.slice q2 n2 c2)) (by simp[results,results91,go_sem,qZ,tQ,qY,qG,qC,qO,zB,zD,zX,qE,kIf,zS,qA,qV,qF,qD,qP,qW,qN,zW,zM,qL,qM,qT,zK,zL,qH,zA, *]) rfl ?_;have hgood:(yM n d) (t :: r)=.ok t2 l5:=by simp only[bF,if_false,if_true,reduceIte,bN,bM,bO,bU,bP,bV,bW,bB,bA,bT,lN,lC,lA,yM,hv0,hp0,hb0,PR.bind,qX,HE2.o,HE5.o]
    rw[hgood];exact HS9.o.fin (t:=t2) (HN9.o.bd.build fun g hg=>hg.1) _ _ _ _ _ _
   case true =>
    have H:=hI (wN B t3 r3l d [91] _ S3.o.ps);rw[hb0]at H;go_wp2_with fail
    refine(H.o).mono ?_;rintro e w4 ⟨rfl,hb4⟩;have S4:=hI (S3.o.below hb4);have N4:=hI (N3.o.below hb4);clear S3 N3;clear H hb4;have H:=hI (xV (S:=w4.1.size) [[91]] S4.o.ps (by simp) (by simp) (by simp));simp only[List.map,List.length]at H;go_wp2_with fail
    refine(H.o).mono ?_;rintro e w5 (⟨l5,he5,rfl,hP5,hg5⟩ | ⟨ln,c,code,he5,rfl,hg5⟩);rotate_left
    ·refine⟨rfl,?_⟩;have hbad:(yM n d) (t :: r)=.bad ln c code:=by simp only[bF,if_false,if_true,reduceIte,bN,bM,bO,bU,bP,bV,bW,bB,bA,bT,lN,lC,lA,yM,hv0,hp0,hb0,PR.bind,qX,HE2.o,he5]
     rw[hbad];exact S4.o.pan ⟨rfl,hg5⟩
    have S5:=hI (S4.o.call hP5 hg5);have N5:=hI (N4.o.call hg5 (by omega));clear S4 N4;have HE5:=hI he5;clear H he5 hP5 hg5;have hnoc:wQ l5≠.out:=fun e=>HNO.o (by simp only[bF,if_false,if_true,reduceIte,bN,bM,bO,bU,bP,bV,bW,bB,bA,bT,lN,lC,lA,yM,hv0,hp0,hb0,PR.bind,qX,HE2.o,HE5.o,e])
    have HNOC:=hI hnoc;clear hnoc;have S6d:=hI S5.o.drew;have N6d:=hI N5.o.drew;clear S5 N5;go_wp2_with fail
    have hcl:=N6d.o.nd.c5;refine wRg (S:=fun w'=>w'.cell? ⟨w2.1.size,5,none⟩=some (.slice q2 n2 c2)) 5 ?_;refine wTk 0 39 (.pointer (some ⟨w2.1.size,5,none⟩)) ?_ hcl ?_
    ·intro _ y;go_simp
    refine wTk 1 40 (.slice q2 n2 c2) ?_ hcl ?_
    ·intro _ y;go_simp
    refine wTk 2 41 (.pointer (some ⟨B,0,none⟩)) ?_ hcl ?_
    ·intro _ y;go_simp
    refine wOn 3 fun K hK=>?_
    go_simp;have HC:=HNU.o B l5 _ S6d.o.ps HNOC.o;refine HC.mono ?_;intro e w6a hq;rcases hq.cases HNOC.o with⟨t6,l6,q6,n6,c6,he6,rfl,hb6,hP6,hg6⟩ | ⟨ln,c,code,he6,rfl,hg6⟩;rotate_left
    ·refine⟨rfl,?_⟩;have hbad:(yM n d) (t :: r)=.bad ln c code:=by simp only[bF,if_false,if_true,reduceIte,bN,bM,bO,bU,bP,bV,bW,bB,bA,bT,lN,lC,lA,yM,hv0,hp0,hb0,PR.bind,qX,HE2.o,HE5.o,he6]
     rw[hbad];exact S6d.o.pan ⟨rfl,hg6⟩
    have S6:=hI (S6d.o.call hP6 hg6);have N6:=hI (N6d.o.call hg6 (by omega));have HB6:=hI hb6;have hbl:=N6d.o.own;have c6':=N6.o.nd.c5;have f6':=N6.o.nd.f 5 nL;have hs6:=N6.o.lt;have hsz5:=N6d.o.lt;have hsz6:=hg6.size;clear hP6 hg6 hb6 HC hq S6d N6d;unfold qZ;refine kK hK c6' ?_;clear hK K;refine wOn 4 fun K hK=>?_
    go_simp;refine kK hK (by go_simp) ?_;clear hK K;refine wOn 5 fun K hK=>?_
    refine qX6 (dd:=44) (t:=t6) (u:=.slice q6 n6 c6) _ _ rfl rfl N6.o.bd HB6.o (fun g hg=>⟨by omega,by omega⟩) (fun g hg=>(hbl g hg).2.2) hsz6 rfl rfl rfl (by rw[hk1];omega) (fun v7 w6 hb7 hg7=>?_);refine kD hK ?_;clear hK K;obtain⟨qq6,nn6,cc6,rfl⟩:=hb7.shape;have hff:=qKV S6.o N6.o hwN (Nat.lt_succ_self _) hb7 hg7;have hs7:w6.frozen? ⟨w2.1.size,5,none⟩=false:=((N6.o.nd.grown (World.grownBy_alloc w6a _ none) (by simp)).grown hg7 (fun e=>(hbl _ e.symm).2.1 rfl)).f 5 nL;have hd7:=((N6.o.nd.grown (World.grownBy_alloc w6a _ none) (by simp)).grown hg7 (fun e=>(hbl _ e.symm).2.1 rfl)).c5;have HFF:=hI hff;clear hff hb7 hg7 S6 N6 HB6 hbl hcl c6' f6' hsz5 hsz6;try simp only[Act.put,pZa,pZb,pZc]
    refine wOn 6 fun K hK=>?_
    go_simp;refine kD hK ?_;clear hK K;refine wOn 7 fun K hK=>?_
    go_simp;refine kD hK ?_;clear hK K;refine wDn ?_ _;clear hs7 hd7;have S6:=hI HFF.o.1;have N6:=hI HFF.o.2;have HE6:=hI he6;clear HFF he6 HNOC;have hszn:=N6.o.lt;simp only[World.size_setCell]at hszn;have H:=hI (xV (S:=w6.1.size) [[93]] S6.o.ps (by simp) (by simp) (by simp));simp only[List.map,List.length]at H;go_wp2_with fail
    refine(H.o).mono ?_;rintro e w7 (⟨l7,he7,rfl,hP7,hg7⟩ | ⟨ln,c,code,he7,rfl,hg7⟩);rotate_left
    ·refine⟨rfl,?_⟩;have hbad:(yM n d) (t :: r)=.bad ln c code:=by simp only[bF,if_false,if_true,reduceIte,bN,bM,bO,bU,bP,bV,bW,bB,bA,bT,lN,lC,lA,yM,hv0,hp0,hb0,PR.bind,qX,HE2.o,HE5.o,HE6.o,he7]
     rw[hbad];exact S6.o.pan ⟨rfl,hg7⟩
    have S7:=hI (S6.o.call hP7 hg7);have N7:=hI (N6.o.call hg7 (by omega));clear S6 N6;have HE7:=hI he7;clear H he7 hP7 hg7;have H:=hI (xV (S:=w7.1.size) [[59]] S7.o.ps (by simp) (by simp) (by simp));simp only[List.map,List.length]at H;go_wp2_with fail
    refine(H.o).mono ?_;rintro e w8 (⟨l8,he8,rfl,hP8,hg8⟩ | ⟨ln,c,code,he8,rfl,hg8⟩);rotate_left
    ·refine⟨rfl,?_⟩;have hbad:(yM n d) (t :: r)=.bad ln c code:=by simp only[bF,if_false,if_true,reduceIte,bN,bM,bO,bU,bP,bV,bW,bB,bA,bT,lN,lC,lA,yM,hv0,hp0,hb0,PR.bind,qX,HE2.o,HE5.o,HE6.o,HE7.o,he8]
     rw[hbad];exact S7.o.pan ⟨rfl,hg8⟩
    have S8:=hI (S7.o.call hP8 hg8);have N8:=hI (N7.o.call hg8 (by omega));clear S7 N7;have HE8:=hI he8;clear H he8 hP8 hg8;have S9:=S8.o;have N9:=N8.o;have hs1:=S9.lt;have hs2:=N9.lt;try simp only[World.size_setCell,World.size_alloc]at hs1 hs2
    have hr:=S9.res;have⟨r0,r1',r2,r3,r4,r5,_⟩:=hr.a;have⟨g0,g1,g2,g3,g4,g5,_⟩:=hr.b;clear hr;have hq:=N9.nd;have⟨qn0,qn1,qn2,qn3,qn4,qn5,_⟩:=hq.a;clear hq;have HS9:=hI S9;have HN9:=hI N9;clear S9 N9 S8 N8;skip
    go_wp2
    refine bodyPost_ret (v:=qZ (.mk t2.kind t2.text t2.num t2.line t2.col (t2.kids++[t6])) (.slice qq6 nn6 cc6)) (by simp[results,results91,go_sem,qZ,tQ,qY,qG,qC,qO,zB,zD,zX,qE,kIf,zS,qA,qV,qF,qD,qP,qW,qN,zW,zM,qL,qM,qT,zK,zL,qH,zA, *]) rfl ?_;have hgood:(yM n d) (t :: r)=.ok (.mk t2.kind t2.text t2.num t2.line t2.col (t2.kids++[t6])) l8:=by simp only[bF,if_false,if_true,reduceIte,bN,bM,bO,bU,bP,bV,bW,bB,bA,bT,lN,lC,lA,yM,hv0,hp0,hb0,PR.bind,qX,HE2.o,HE5.o,HE6.o,HE7.o,HE8.o]
    rw[hgood];exact HS9.o.fin (t:=(.mk t2.kind t2.text t2.num t2.line t2.col (t2.kids++[t6]))) (HN9.o.bd.build fun g hg=>hg.1) _ _ _ _ _ _
  case true =>
   have H:=hI (wN B t3 r3l d [40] _ S2.o.ps);rw[hp0]at H;go_wp2_with fail
   refine(H.o).mono ?_;rintro e w3 ⟨rfl,hb3⟩;have S3:=hI (S2.o.below hb3);have N3:=hI (N2.o.below hb3);clear S2 N2;clear H hb3;have hk0:=N3.o.nd.c0;have hkf:=N3.o.nd.f 0 nL;have S4:=hI (S3.o.setN hwN 0 (.string ⟨qC.toArray⟩));have N4:=hI (N3.o.setK qC);clear S3 N3;have hnoc:xT n (zG qO false) (t3 :: r3l)≠.out:=fun e=>HNO.o (by simp only[bF,if_false,if_true,reduceIte,bN,bM,bO,bU,bP,bV,bW,bB,bA,bT,lN,lC,lA,yM,hv0,hp0,PR.bind,qX,HE2.o,e])
   have HNOC:=hI hnoc;clear hnoc;have S5d:=hI S4.o.drew;have N5d:=hI N4.o.drew;clear S4 N4;go_wp2_with fail
   have hcl:=N5d.o.nd.c5;refine wRg (S:=fun w'=>w'.cell? ⟨w2.1.size,5,none⟩=some (.slice q2 n2 c2)) 6 ?_;refine wTk 0 16 (.pointer (some ⟨w2.1.size,5,none⟩)) ?_ hcl ?_
   ·intro _ y;go_simp
   refine wTk 1 17 (.slice q2 n2 c2) ?_ hcl ?_
   ·intro _ y;go_simp
   refine wTk 2 18 (.pointer (some ⟨B,0,none⟩)) ?_ hcl ?_
   ·intro _ y;go_simp
   refine wTk 3 19 (.pointer (some ⟨B,0,none⟩)) ?_ hcl ?_
   ·intro _ y;go_simp
   refine wTk 4 20 (.func (.func 105) #[.pointer (some ⟨B,0,none⟩)] #[]) ?_ hcl ?_
   ·intro _ y;go_simp
   refine wOn 5 fun K hK=>?_
   go_simp;refine(HCO.o B (t3 :: r3l) _ S5d.o.ps HNOC.o).mono ?_;intro e w5a hq;rcases hq.cases HNOC.o with⟨ts5,l5,q5,n5,c5,he5,rfl,hb5,hP5,hg5,hln5,hz5⟩ | ⟨ln,c,code,he5,rfl,hg5⟩;rotate_left
   ·refine⟨rfl,?_⟩;have hbad:(yM n d) (t :: r)=.bad ln c code:=by simp only[bF,if_false,if_true,reduceIte,bN,bM,bO,bU,bP,bV,bW,bB,bA,bT,lN,lC,lA,yM,hv0,hp0,PR.bind,qX,HE2.o,he5]
    rw[hbad];exact S5d.o.pan ⟨rfl,hg5⟩
   have S6:=hI (S5d.o.call hP5 hg5);have N6:=hI (N5d.o.call hg5 (by omega));have HB6:=hI hb5;have HZ6:=hI hz5;have hbl:=N5d.o.own;have c6':=N6.o.nd.c5;have hs6:=N6.o.lt;have hsz5:=N5d.o.lt;have hsz6:=hg5.size;have HE5:=hI he5;clear hP5 hg5 hb5 hz5 he5 hq S5d N5d;refine kK hK c6' ?_;clear hK K;refine wOn 6 fun K hK=>?_
   refine qVV (dd:=22) _ _ rfl rfl N6.o.bd HB6.o HZ6.o (fun g hg=>⟨by omega,by omega⟩) (fun g hg=>(hbl g hg).2.2) hsz6 rfl rfl (by rw[hk1];omega) (fun v7 w5 hb7 hg7=>?_);refine kD hK ?_;clear hK K;obtain⟨qq5,nn5,cc5,rfl⟩:=hb7.shape;have hff:=qYT S6.o N6.o hwN (Nat.lt_succ_self _) hb7 hg7;have hs7:w5.frozen? ⟨w2.1.size,5,none⟩=false:=(N6.o.nd.grown hg7 (fun e=>(hbl _ e.symm).2.1 rfl)).f 5 nL;have hd7:=(N6.o.nd.grown hg7 (fun e=>(hbl _ e.symm).2.1 rfl)).c5;have HFF:=hI hff;clear hff hb7 hg7 S6 N6 HB6 HZ6 hbl hcl c6' hsz5 hsz6;try simp only[Act.put,pZa,pZb,pZc]
   refine wOn 7 fun K hK=>?_
   go_simp;refine kD hK ?_;clear hK K;refine wOn 8 fun K hK=>?_
   go_simp;refine kD hK ?_;clear hK K;refine wDn ?_ _;clear hs7 hd7;have S5:=hI HFF.o.1;have N5:=hI HFF.o.2;clear HFF HNOC;have hnoc:xX d (qQd n .block) l5≠.out:=fun e=>HNO.o (by simp only[bF,if_false,if_true,reduceIte,bN,bM,bO,bU,bP,bV,bW,bB,bA,bT,lN,lC,lA,yM,hv0,hp0,PR.bind,qX,HE2.o,HE5.o,e])
   have HNOC:=hI hnoc;clear hnoc;have S6d:=hI S5.o.drew;have N6d:=hI N5.o.drew;clear S5 N5;go_wp2_with fail
   have hcl:=N6d.o.nd.c5;refine wRg (S:=fun w'=>w'.cell? ⟨w2.1.size,5,none⟩=some (.slice qq5 nn5 cc5)) 7 ?_;refine wTk 0 24 (.pointer (some ⟨w2.1.size,5,none⟩)) ?_ hcl ?_
   ·intro _ y;go_simp
   refine wTk 1 25 (.slice qq5 nn5 cc5) ?_ hcl ?_
   ·intro _ y;go_simp
   refine wTk 2 26 (.pointer (some ⟨B,0,none⟩)) ?_ hcl ?_
   ·intro _ y;go_simp
   refine wTk 3 27 (.pointer (some ⟨B,0,none⟩)) ?_ hcl ?_
   ·intro _ y;go_simp
   refine wTk 4 28 (.func (.func 107) #[.pointer (some ⟨B,0,none⟩)] #[]) ?_ hcl ?_
   ·intro _ y;go_simp
   refine wOn 5 fun K hK=>?_
   go_simp;have HC:=HBL.o B l5 _ S6d.o.ps HNOC.o;refine HC.mono ?_;intro e w6a hq;rcases hq.cases HNOC.o with⟨t6,l6,q6,n6,c6,he6,rfl,hb6,hP6,hg6⟩ | ⟨ln,c,code,he6,rfl,hg6⟩;rotate_left
   ·refine⟨rfl,?_⟩;have hbad:(yM n d) (t :: r)=.bad ln c code:=by simp only[bF,if_false,if_true,reduceIte,bN,bM,bO,bU,bP,bV,bW,bB,bA,bT,lN,lC,lA,yM,hv0,hp0,PR.bind,qX,HE2.o,HE5.o,he6]
    rw[hbad];exact S6d.o.pan ⟨rfl,hg6⟩
   have S6:=hI (S6d.o.call hP6 hg6);have N6:=hI (N6d.o.call hg6 (by omega));have HB6:=hI hb6;have hbl:=N6d.o.own;have c6':=N6.o.nd.c5;have f6':=N6.o.nd.f 5 nL;have hs6:=N6.o.lt;have hsz5:=N6d.o.lt;have hsz6:=hg6.size;clear hP6 hg6 hb6 HC hq S6d N6d;unfold qZ;refine kK hK c6' ?_;clear hK K;refine wOn 6 fun K hK=>?_
   go_simp;refine kK hK (by go_simp) ?_;clear hK K;refine wOn 7 fun K hK=>?_
   refine qX6 (dd:=31) (t:=t6) (u:=.slice q6 n6 c6) _ _ rfl rfl N6.o.bd HB6.o (fun g hg=>⟨by omega,by omega⟩) (fun g hg=>(hbl g hg).2.2) hsz6 rfl rfl rfl (by rw[lL,hk1];omega) (fun v7 w6 hb7 hg7=>?_);refine kD hK ?_;clear hK K;obtain⟨qq6,nn6,cc6,rfl⟩:=hb7.shape;have hff:=qKV S6.o N6.o hwN (Nat.lt_succ_self _) hb7 hg7;have hs7:w6.frozen? ⟨w2.1.size,5,none⟩=false:=((N6.o.nd.grown (World.grownBy_alloc w6a _ none) (by simp)).grown hg7 (fun e=>(hbl _ e.symm).2.1 rfl)).f 5 nL;have hd7:=((N6.o.nd.grown (World.grownBy_alloc w6a _ none) (by simp)).grown hg7 (fun e=>(hbl _ e.symm).2.1 rfl)).c5;have HFF:=hI hff;clear hff hb7 hg7 S6 N6 HB6 hbl hcl c6' f6' hsz5 hsz6;try simp only[Act.put,pZa,pZb,pZc]
   refine wOn 8 fun K hK=>?_
   go_simp;refine kD hK ?_;clear hK K;refine wOn 9 fun K hK=>?_
   go_simp;refine kD hK ?_;clear hK K;refine wDn ?_ _;clear hs7 hd7;have S6:=hI HFF.o.1;have N6:=hI HFF.o.2;have HE6:=hI he6;clear HFF he6 HNOC;have hszn:=N6.o.lt;simp only[World.size_setCell]at hszn;have S9:=S6.o;have N9:=N6.o;have hs1:=S9.lt;have hs2:=N9.lt;try simp only[World.size_setCell,World.size_alloc]at hs1 hs2
   have hr:=S9.res;have⟨r0,r1',r2,r3,r4,r5,_⟩:=hr.a;have⟨g0,g1,g2,g3,g4,g5,_⟩:=hr.b;clear hr;have hq:=N9.nd;have⟨qn0,qn1,qn2,qn3,qn4,qn5,_⟩:=hq.a;clear hq;have HS9:=hI S9;have HN9:=hI N9;clear S9 N9 S6 N6;unfold qC at qn0;go_wp2
   refine bodyPost_ret (v:=qZ (.mk qC t2.text t2.num t2.line t2.col ((t2.kids++ts5)++[t6])) (.slice qq6 nn6 cc6)) (by simp[results,results91,go_sem,qZ,tQ,qY,qG,qC,qO,zB,zD,zX,qE,kIf,zS,qA,qV,qF,qD,qP,qW,qN,zW,zM,qL,qM,qT,zK,zL,qH,zA, *]) rfl ?_;have hgood:(yM n d) (t :: r)=.ok (.mk qC t2.text t2.num t2.line t2.col ((t2.kids++ts5)++[t6])) l6:=by simp only[bF,if_false,if_true,reduceIte,bN,bM,bO,bU,bP,bV,bW,bB,bA,bT,lN,lC,lA,yM,hv0,hp0,PR.bind,qX,HE2.o,HE5.o,HE6.o]
   rw[hgood];exact HS9.o.fin (t:=(.mk qC t2.text t2.num t2.line t2.col ((t2.kids++ts5)++[t6]))) (HN9.o.bd.build fun g hg=>hg.1) _ _ _ _ _ _
 case true =>
  have H:=hI (wN B t r d zA _ S0.o.ps);rw[hv0]at H;go_wp2_with fail
  refine(H.o).mono ?_;rintro e w1 ⟨rfl,hb1⟩;have S1:=hI (S0.o.below hb1);clear S0;clear H hb1;have hcv:true=true->(hdT (t :: r)).text≠[]:=fun _ e=>by rw[show(hdT (t :: r)).text=t.text from rfl]at e;rw[e]at hv0;exact absurd hv0 (by decide)
  have HD2:=hI (fun(B:Nat) (l:List Tok) (w:World) (h:vP B l d w) (hc:true=true->(hdT l).text≠[]) (ho:zG qG true l≠.out)=>HDE.o true B l w h hc ho);have hnoc:zG qG true (t :: r)≠.out:=fun e=>HNO.o (by simp only[bF,if_false,if_true,reduceIte,bN,bM,bO,bU,bP,bV,bW,bB,bA,bT,lN,lC,lA,yM,hv0,PR.bind,qX,e])
  have HC:=hI (HDE.o true B (t :: r) _ S1.o.ps hcv hnoc);have HNOC:=hI hnoc;clear hnoc;go_wp2_with fail
  refine(HC.o).mono ?_;intro e w2 hq;rcases hq.cases HNOC.o with⟨t2,l2,q2,n2,c2,he2,rfl,hb2,hP2,hg2⟩ | ⟨ln,c,code,he2,rfl,hg2⟩;rotate_left
  ·refine⟨rfl,?_⟩;have hbad:(yM n d) (t :: r)=.bad ln c code:=by simp only[bF,if_false,if_true,reduceIte,bN,bM,bO,bU,bP,bV,bW,bB,bA,bT,lN,lC,lA,yM,hv0,PR.bind,qX,he2]
   rw[hbad];exact S1.o.pan ⟨rfl,hg2⟩
  have hwN:w.1.size < w2.1.size:=(S1.o.call hP2 hg2).lt;have N2:=hI (NdX.put t2 (hb2.mono (lo':=w.1.size+1) S1.o.lt));have S2:=hI ((S1.o.call hP2 hg2).alloc (wD t2.kind t2.text t2.num t2.line t2.col (.slice q2 n2 c2)));have HE2:=hI he2;clear hq hb2 hP2 hg2 he2 HC HNOC S1;unfold qZ wD at *;have hk1:t2.kids.length=1:=qKm HE2.o;clear hcv HD2 HDE;have hk0:=N2.o.nd.c0;have hkf:=N2.o.nd.f 0 nL;have S3:=hI (S2.o.setN hwN 0 (.string ⟨qC.toArray⟩));have N3:=hI (N2.o.setK qC);clear S2 N2;rw[put_kind]at S3 N3;have hnoc:xT n (zG qO false) l2≠.out:=fun e=>HNO.o (by simp only[bF,if_false,if_true,reduceIte,bN,bM,bO,bU,bP,bV,bW,bB,bA,bT,lN,lC,lA,yM,hv0,PR.bind,qX,HE2.o,e])
  have HNOC:=hI hnoc;clear hnoc;have S4d:=hI S3.o.drew;have N4d:=hI N3.o.drew;clear S3 N3;go_wp2_with fail
  have hcl:=N4d.o.nd.c5;refine wRg (S:=fun w'=>w'.cell? ⟨w2.1.size,5,none⟩=some (.slice q2 n2 c2)) 6 ?_;refine wTk 0 16 (.pointer (some ⟨w2.1.size,5,none⟩)) ?_ hcl ?_
  ·intro _ y;go_simp
  refine wTk 1 17 (.slice q2 n2 c2) ?_ hcl ?_
  ·intro _ y;go_simp
  refine wTk 2 18 (.pointer (some ⟨B,0,none⟩)) ?_ hcl ?_
  ·intro _ y;go_simp
  refine wTk 3 19 (.pointer (some ⟨B,0,none⟩)) ?_ hcl ?_
  ·intro _ y;go_simp
  refine wTk 4 20 (.func (.func 105) #[.pointer (some ⟨B,0,none⟩)] #[]) ?_ hcl ?_
  ·intro _ y;go_simp
  refine wOn 5 fun K hK=>?_
  go_simp;refine(HCO.o B l2 _ S4d.o.ps HNOC.o).mono ?_;intro e w4a hq;rcases hq.cases HNOC.o with⟨ts4,l4,q4,n4,c4,he4,rfl,hb4,hP4,hg4,hln4,hz4⟩ | ⟨ln,c,code,he4,rfl,hg4⟩;rotate_left
  ·refine⟨rfl,?_⟩;have hbad:(yM n d) (t :: r)=.bad ln c code:=by simp only[bF,if_false,if_true,reduceIte,bN,bM,bO,bU,bP,bV,bW,bB,bA,bT,lN,lC,lA,yM,hv0,PR.bind,qX,HE2.o,he4]
   rw[hbad];exact S4d.o.pan ⟨rfl,hg4⟩
  have S6:=hI (S4d.o.call hP4 hg4);have N6:=hI (N4d.o.call hg4 (by omega));have HB6:=hI hb4;have HZ6:=hI hz4;have hbl:=N4d.o.own;have c6':=N6.o.nd.c5;have hs6:=N6.o.lt;have hsz5:=N4d.o.lt;have hsz6:=hg4.size;have HE4:=hI he4;clear hP4 hg4 hb4 hz4 he4 hq S4d N4d;refine kK hK c6' ?_;clear hK K;refine wOn 6 fun K hK=>?_
  refine qVV (dd:=22) _ _ rfl rfl N6.o.bd HB6.o HZ6.o (fun g hg=>⟨by omega,by omega⟩) (fun g hg=>(hbl g hg).2.2) hsz6 rfl rfl (by rw[hk1];omega) (fun v7 w4 hb7 hg7=>?_);refine kD hK ?_;clear hK K;obtain⟨qq4,nn4,cc4,rfl⟩:=hb7.shape;have hff:=qYT S6.o N6.o hwN (Nat.lt_succ_self _) hb7 hg7;have hs7:w4.frozen? ⟨w2.1.size,5,none⟩=false:=(N6.o.nd.grown hg7 (fun e=>(hbl _ e.symm).2.1 rfl)).f 5 nL;have hd7:=(N6.o.nd.grown hg7 (fun e=>(hbl _ e.symm).2.1 rfl)).c5;have HFF:=hI hff;clear hff hb7 hg7 S6 N6 HB6 HZ6 hbl hcl c6' hsz5 hsz6;try simp only[Act.put,pZa,pZb,pZc]
  refine wOn 7 fun K hK=>?_
  go_simp;refine kD hK ?_;clear hK K;refine wOn 8 fun K hK=>?_
  go_simp;refine kD hK ?_;clear hK K;refine wDn ?_ _;clear hs7 hd7;have S4:=hI HFF.o.1;have N4:=hI HFF.o.2;clear HFF HNOC;have hnoc:xX d (qQd n .block) l4≠.out:=fun e=>HNO.o (by simp only[bF,if_false,if_true,reduceIte,bN,bM,bO,bU,bP,bV,bW,bB,bA,bT,lN,lC,lA,yM,hv0,PR.bind,qX,HE2.o,HE4.o,e])
  have HNOC:=hI hnoc;clear hnoc;have S5d:=hI S4.o.drew;have N5d:=hI N4.o.drew;clear S4 N4;go_wp2_with fail
  have hcl:=N5d.o.nd.c5;refine wRg (S:=fun w'=>w'.cell? ⟨w2.1.size,5,none⟩=some (.slice qq4 nn4 cc4)) 7 ?_;refine wTk 0 24 (.pointer (some ⟨w2.1.size,5,none⟩)) ?_ hcl ?_
  ·intro _ y;go_simp
  refine wTk 1 25 (.slice qq4 nn4 cc4) ?_ hcl ?_
  ·intro _ y;go_simp
  refine wTk 2 26 (.pointer (some ⟨B,0,none⟩)) ?_ hcl ?_
  ·intro _ y;go_simp
  refine wTk 3 27 (.pointer (some ⟨B,0,none⟩)) ?_ hcl ?_
  ·intro _ y;go_simp
  refine wTk 4 28 (.func (.func 107) #[.pointer (some ⟨B,0,none⟩)] #[]) ?_ hcl ?_
  ·intro _ y;go_simp
  refine wOn 5 fun K hK=>?_
  go_simp;have HC:=HBL.o B l4 _ S5d.o.ps HNOC.o;refine HC.mono ?_;intro e w5a hq;rcases hq.cases HNOC.o with⟨t5,l5,q5,n5,c5,he5,rfl,hb6,hP6,hg6⟩ | ⟨ln,c,code,he5,rfl,hg6⟩;rotate_left
  ·refine⟨rfl,?_⟩;have hbad:(yM n d) (t :: r)=.bad ln c code:=by simp only[bF,if_false,if_true,reduceIte,bN,bM,bO,bU,bP,bV,bW,bB,bA,bT,lN,lC,lA,yM,hv0,PR.bind,qX,HE2.o,HE4.o,he5]
   rw[hbad];exact S5d.o.pan ⟨rfl,hg6⟩
  have S6:=hI (S5d.o.call hP6 hg6);have N6:=hI (N5d.o.call hg6 (by omega));have HB6:=hI hb6;have hbl:=N5d.o.own;have c6':=N6.o.nd.c5;have f6':=N6.o.nd.f 5 nL;have hs6:=N6.o.lt;have hsz5:=N5d.o.lt;have hsz6:=hg6.size;clear hP6 hg6 hb6 HC hq S5d N5d;unfold qZ;refine kK hK c6' ?_;clear hK K;refine wOn 6 fun K hK=>?_
  go_simp;refine kK hK (by go_simp) ?_;clear hK K;refine wOn 7 fun K hK=>?_
  refine qX6 (dd:=31) (t:=t5) (u:=.slice q5 n5 c5) _ _ rfl rfl N6.o.bd HB6.o (fun g hg=>⟨by omega,by omega⟩) (fun g hg=>(hbl g hg).2.2) hsz6 rfl rfl rfl (by rw[lL,hk1];omega) (fun v7 w5 hb7 hg7=>?_);refine kD hK ?_;clear hK K;obtain⟨qq5,nn5,cc5,rfl⟩:=hb7.shape;have hff:=qKV S6.o N6.o hwN (Nat.lt_succ_self _) hb7 hg7;have hs7:w5.frozen? ⟨w2.1.size,5,none⟩=false:=((N6.o.nd.grown (World.grownBy_alloc w5a _ none) (by simp)).grown hg7 (fun e=>(hbl _ e.symm).2.1 rfl)).f 5 nL;have hd7:=((N6.o.nd.grown (World.grownBy_alloc w5a _ none) (by simp)).grown hg7 (fun e=>(hbl _ e.symm).2.1 rfl)).c5;have HFF:=hI hff;clear hff hb7 hg7 S6 N6 HB6 hbl hcl c6' f6' hsz5 hsz6;try simp only[Act.put,pZa,pZb,pZc]
  refine wOn 8 fun K hK=>?_
  go_simp;refine kD hK ?_;clear hK K;refine wOn 9 fun K hK=>?_
  go_simp;refine kD hK ?_;clear hK K;refine wDn ?_ _;clear hs7 hd7;have S5:=hI HFF.o.1;have N5:=hI HFF.o.2;have HE5:=hI he5;clear HFF he5 HNOC;have hszn:=N5.o.lt;simp only[World.size_setCell]at hszn;have S9:=S5.o;have N9:=N5.o;have hs1:=S9.lt;have hs2:=N9.lt;try simp only[World.size_setCell,World.size_alloc]at hs1 hs2
  have hr:=S9.res;have⟨r0,r1',r2,r3,r4,r5,_⟩:=hr.a;have⟨g0,g1,g2,g3,g4,g5,_⟩:=hr.b;clear hr;have hq:=N9.nd;have⟨qn0,qn1,qn2,qn3,qn4,qn5,_⟩:=hq.a;clear hq;have HS9:=hI S9;have HN9:=hI N9;clear S9 N9 S5 N5;unfold qC at qn0;go_wp2
  refine bodyPost_ret (v:=qZ (.mk qC t2.text t2.num t2.line t2.col ((t2.kids++ts4)++[t5])) (.slice qq5 nn5 cc5)) (by simp[results,results91,go_sem,qZ,tQ,qY,qG,qC,qO,zB,zD,zX,qE,kIf,zS,qA,qV,qF,qD,qP,qW,qN,zW,zM,qL,qM,qT,zK,zL,qH,zA, *]) rfl ?_;have hgood:(yM n d) (t :: r)=.ok (.mk qC t2.text t2.num t2.line t2.col ((t2.kids++ts4)++[t5])) l5:=by simp only[bF,if_false,if_true,reduceIte,bN,bM,bO,bU,bP,bV,bW,bB,bA,bT,lN,lC,lA,yM,hv0,PR.bind,qX,HE2.o,HE4.o,HE5.o]
  rw[hgood];exact HS9.o.fin (t:=(.mk qC t2.text t2.num t2.line t2.col ((t2.kids++ts4)++[t5]))) (HN9.o.bd.build fun g hg=>hg.1) _ _ _ _ _ _
def ProgRel(n:Nat)(R:PR (List qQ))(w:World)(B N:Nat)(ln c:Int)(k:Nat)(wr:World):Prop :=
 ∃ acc l v,St w B l 0 wr/\Nd N qY [] 0 ln c v acc wr/\vI (fun u=>u.kind == 3) (qZe n) k acc l=R/\acc.length+k<=n
theorem qUW(n:Nat)(hn:n<=900000)(hit:vM 91 (fun p=>#[p]) 0 (qZe n)):vM 74 (fun p=>#[p]) 0 (xW n):=by
 intro B l w h hno;obtain⟨t,r,rfl⟩:=h.ends.ne;have S0:=St.start h;have H:=hI (kY B t r 0 _ S0.ps);have HN:=hI (jI t ⟨#[112,114,111,103,114,97,109]⟩ ⟨#[]⟩);have HS:=hI S0;have hno3:vI (fun u=>u.kind == 3) (qZe n) n [] (t :: r)≠.out:=qWG hno;have HNO3:=hI hno3;have HIT:=hI hit;have hfk:=yW;clear h S0 hno hit hno3;unfold jY at *;go_enter func74,ntmps74
 go_wp2_with fail
 refine(H.o).mono ?_;rintro e w1 ⟨rfl,hb1⟩;have S1:=hI (HS.o.below hb1);clear H HS hb1;go_wp2_with fail
 refine(HN.o _).mono ?_;rintro e w2 ⟨rfl,hb2⟩;have S3:=hI ((S1.o.below hb2).alloc (wD qY [] 0 t.line t.col (.slice none 0 0)));have N3:=hI (Nd.new qY [] 0 t.line t.col w2);have hwN:w.1.size < w2.1.size:=(S1.o.below hb2).lt;have hBw:=S3.o.hB;clear S1 hb2 HN;unfold wD qY at *;go_wp2_with fail
 go_loopg [] n (fun k wr=>ProgRel n (vI (fun u=>u.kind == 3) (qZe n) n [] (t :: r)) w B w2.1.size t.line t.col k wr)
 case atStart=>exact⟨[],t :: r,_,S3.o,N3.o,rfl,by simp⟩
 case round =>
  obtain⟨acc,l1,v,S,N,hm,hlen⟩:=hrel;obtain⟨t1,r1,rfl⟩:=S.ps.ends.ne;obtain⟨q,vn,vc,rfl⟩:=N.bd.shape;have HA:=hI (kY B t1 r1 0 wr S.ps);have HS:=hI S;have HN:=hI N;have HM:=hI hm;clear S N hm S3 N3;cases gk with
  | zero=>exact absurd HM.o.symm HNO3.o
  | succ m =>
  by_cases he:t1.kind=3
  ·have heb:(t1.kind == 3)=true:=by simpa using he
   have heb':(t1.kind != 3)=false:=by simpa using he
   have hpm:vI (fun u=>u.kind == 3) (qZe n) (m+1) acc (t1 :: r1)=.ok acc (t1 :: r1):=by
    rw[vI];simp only[qX,heb,if_true]
   have HPM:=hI hpm;clear hpm he;go_wp2_with fail
   refine(HA.o).mono ?_;rintro e w4 ⟨rfl,hb4⟩;unfold vT xA;have S9:=HS.o.below hb4;have N9:=HN.o.below hb4;have hs1:=S9.lt;have hs2:=N9.lt;have hr:=S9.res;have⟨r0,r1',r2,r3,r4,r5,_⟩:=hr.a;have⟨g0,g1,g2,g3,g4,g5,_⟩:=hr.b;clear hr;have hq:=N9.nd;have⟨qn0,qn1,qn2,qn3,qn4,qn5,_⟩:=hq.a;clear hq;have HS9:=hI S9;have HN9:=hI N9;clear S9 N9 hb4 HS HN HA;unfold qY at qn0;go_wp2
   refine bodyPost_ret (v:=qZ (.mk qY [] 0 t.line t.col acc) (.slice q vn vc)) (by simp[results,results74,go_sem,qZ,tQ,qY,qG,qC,qO,zB,zD,zX,qE,kIf,zS,qA,qV,qF,qD,qP,qW,qN,zW,zM,qL,qM,qT,zK,zL,qH,zA, *]) rfl ?_;have:xW n (t :: r)=.ok (.mk qY [] 0 t.line t.col acc) (t1 :: r1):=bind_ok (HM.o.symm.trans HPM.o);rw[this];exact HS9.o.fin (HN9.o.bd.mono (by omega)) _ _ _ _ _ _
  ·have heb:(t1.kind == 3)=false:=by simpa using he
   have heb':(t1.kind != 3)=true:=by simpa using he
   have hpm:vI (fun u=>u.kind == 3) (qZe n) (m+1) acc (t1 :: r1)=(qZe n (t1 :: r1)).bind fun t l=>vI (fun u=>u.kind == 3) (qZe n) m (acc++[t]) l:=by
    rw[vI];simp only[qX,heb,bF,if_false]
   have hno4:qZe n (t1 :: r1)≠.out:=fun e=>HNO3.o (by rw[<-HM.o,hpm,e];rfl)
   have HPM:=hI hpm;have HNOC:=hI hno4;clear hpm hno4 he;go_wp2_with fail
   refine(HA.o).mono ?_;rintro e w5 ⟨rfl,hb5⟩;have S5:=hI (HS.o.below hb5).drew;have N5:=hI (HN.o.below hb5).drew;clear hb5 HS HN HA;unfold vT xA;go_wp2_with fail
   have hcl:=N5.o.nd.c5;refine wRg (S:=fun w'=>w'.cell? ⟨w2.1.size,5,none⟩=some (.slice q vn vc)) 5 ?_;refine wTk 0 11 (.pointer (some ⟨w2.1.size,5,none⟩)) ?_ hcl ?_
   ·intro _ y;go_simp
   refine wTk 1 12 (.slice q vn vc) ?_ hcl ?_
   ·intro _ y;go_simp
   refine wTk 2 13 (.pointer (some ⟨B,0,none⟩)) ?_ hcl ?_
   ·intro _ y;go_simp
   refine wOn 3 fun K hK=>?_
   go_simp;have HC:=HIT.o B (t1 :: r1) _ S5.o.ps HNOC.o;refine HC.mono ?_;intro e w6 hq;rcases hq.cases HNOC.o with⟨t6,l6,q6,n6,c6,he6,rfl,hb6,hP6,hg6⟩ | ⟨ln,c,code,he6,rfl,hg6⟩
   ·have S6:=hI (S5.o.call hP6 hg6);have N6:=hI (N5.o.call hg6 (by omega));have HB6:=hI hb6;have hbl:=N5.o.bd.lt;have c6':=N6.o.nd.c5;have f6':=N6.o.nd.f 5 nL;have hs6:=N6.o.lt;have hsz5:=N5.o.lt;have hsz6:=hg6.size;clear hP6 hg6 hb6 HC hq S5 N5;unfold qZ;refine kK hK c6' ?_;clear hK K;refine wOn 4 fun K hK=>?_
    go_simp;refine kK hK (by go_simp) ?_;clear hK K;refine wOn 5 fun K hK=>?_
    refine qQq (dd:=16) (t:=t6) (u:=.slice q6 n6 c6) _ _ rfl rfl N6.o.bd HB6.o (by omega) (fun g hg=>(hbl g hg).2) hsz6 rfl rfl rfl (by omega) (fun v7 w7 hb7 hg7=>?_);refine kD hK ?_;clear hK K;obtain⟨q7,n7,c7,rfl⟩:=hb7.shape;have hff:=qZ8 S6.o N6.o hwN hb7 hg7;have hs7:w7.frozen? ⟨w2.1.size,5,none⟩=false:=((N6.o.nd.grown (World.grownBy_alloc w6 _ none) (by simp)).grown hg7 (fun e=>by have:=(hbl _ e.symm).1;omega)).f 5 nL;have hd7:=((N6.o.nd.grown (World.grownBy_alloc w6 _ none) (by simp)).grown hg7 (fun e=>by have:=(hbl _ e.symm).1;omega)).c5;have HFF:=hI hff;clear hff hb7 hg7 S6 N6 HB6 hbl hcl c6' f6' hsz5 hsz6;try simp only[Act.put,pZa,pZb,pZc]
    refine wOn 6 fun K hK=>?_
    go_simp;refine kD hK ?_;clear hK K;refine wOn 7 fun K hK=>?_
    go_simp;refine kD hK ?_;clear hK K;refine wDn ?_ _;clear hs7 hd7;go_wp2
    go_roundg m
    case measure=>omega
    case rel=>exact⟨acc++[t6],l6,_,HFF.o.1,HFF.o.2,by rw[<-HM.o,HPM.o,he6];rfl,by simp;omega⟩
   ·refine⟨rfl,?_⟩;have hbad:xW n (t :: r)=.bad ln c code:=qXl (HM.o.symm.trans (HPM.o.trans (qXl he6)));rw[hbad];exact S5.o.pan ⟨rfl,hg6⟩
theorem qLV(p q:Addr)(w:World) :
 CallsD prog 73 #[.pointer (some p), .pointer (some q)] .returning w fun e u' w'=>e=.returned (.tuple #[])/\u'=.returning/\w'=w:=by
 refine callsD_of_wpS func73 rfl fun c₀ cs hu=>?_
 apply wpS_seq;apply wpS_region;simp[wpOpsS,go_sem,recoverD,hu,ntmps73,Exit.thenS];refine wpS_of_wp ?_;change Code.wp _ _ _ { tmps:=#[.pointer (some p), .pointer (some q), .nilIface, .nilIface,undef,undef,undef,undef,undef],defers:=[] } w;generalize hQ:(fun e a' w'=>bodyPostS prog f73 c₀ cs (fun e u' w'=>e=Ending.returned (.tuple #[])/\u'=FrameMode.returning/\w'=w) e a' (c₀ :: cs) w')=Q;go_wp2
 rw[<-hQ];refine⟨rfl, .returning,?_, .tuple #[],by simp[results,results73],rfl,rfl,rfl⟩;cases c₀;simp_all
theorem qUD(v:Value)(w:World):(Instr.typeAssert (.iface 110 v) 20 110 false).run prog w=.ok v w:=by kernel_rfl
def Caught(b c:Nat)(ln co code:Int)(w w':World):Prop :=
 zI b [] [] 0 0 0 (.slice none 0 0) w'/\w'.cell? ⟨c,0,none⟩=some (.int .i64 ln)/\w'.cell? ⟨c,1,none⟩=some (.int .i64 co)/\w'.cell? ⟨c,2,none⟩=some (.int .i64 code)/\∀ (w0:World) (r:Option Nat),w0.grownBy w r->w0.1.size<=b->w0.1.size<=c->w0.grownBy w' r
theorem zI.zset{b:Nat}{w:World}(h:zI b [] [] 0 0 0 (.slice none 0 0) w){c:Nat}(hne:¬b=c)(o:Nat)(v:Value):zI b [] [] 0 0 0 (.slice none 0 0) (w.setCell ⟨c,o,none⟩ v):=h.grown (jM w c o v) (by simpa using hne)
theorem zsix{b:Nat}{w:World}(h:zI b [] [] 0 0 0 (.slice none 0 0) w):zI b [] [] 0 0 0 (.slice none 0 0) (six w b (.string ⟨#[]⟩) (.string ⟨#[]⟩) (.int .u64 0) (.int .i64 0) (.int .i64 0) (.slice none 0 0)):=by
 have⟨h0,h1,h2,h3,h4,h5,_⟩:=h.a;have hf:=h.f;unfold six;constructor
 case f=>intro k hk;have:=hf k hk;simp[go_sem, *]
 all_goals simp[go_sem, *]
theorem qLW{b c:Nat}{ln co code x y z:Int}{w:World}(hb:zI b [] [] 0 0 0 (.slice none 0 0) w)(hne:¬b=c)(hc0:w.cell? ⟨c,0,none⟩=some (.int .i64 x))(hc1:w.cell? ⟨c,1,none⟩=some (.int .i64 y))(hc2:w.cell? ⟨c,2,none⟩=some (.int .i64 z)) :
 Caught b c ln co code w ((((six w b (.string ⟨#[]⟩) (.string ⟨#[]⟩) (.int .u64 0) (.int .i64 0) (.int .i64 0) (.slice none 0 0)).setCell ⟨c,0,none⟩ (.int .i64 ln)).setCell ⟨c,1,none⟩ (.int .i64 co)).setCell ⟨c,2,none⟩ (.int .i64 code)).drew:=by
 have hg:=vQ w b (.string ⟨#[]⟩) (.string ⟨#[]⟩) (.int .u64 0) (.int .i64 0) (.int .i64 0) (.slice none 0 0);have d0:=hg.cell hc0 (by simp;omega);have d1:=hg.cell hc1 (by simp;omega);have d2:=hg.cell hc2 (by simp;omega);refine⟨((((zsix hb).zset hne _ _).zset hne _ _).zset hne _ _).below (Below.refl _ _).drew,?_,?_,?_,fun w0 r h h1 h2=>?_⟩
 ·simp[go_sem, *]
 ·simp[go_sem, *]
 ·simp[go_sem, *]
 ·exact vX (xR (xR (xR (qQU h h1 _ _ _ _ _ _) h2 _ _) h2 _ _) h2 _ _)
theorem qWj(b c:Nat)(ln co code x y z:Int)(w:World)(hb:zI b [] [] 0 0 0 (.slice none 0 0) w)(hc0:w.cell? ⟨c,0,none⟩=some (.int .i64 x))(hc1:w.cell? ⟨c,1,none⟩=some (.int .i64 y))(hc2:w.cell? ⟨c,2,none⟩=some (.int .i64 z))(hf0:w.frozen? ⟨c,0,none⟩=false)(hf1:w.frozen? ⟨c,1,none⟩=false)(hf2:w.frozen? ⟨c,2,none⟩=false)(hne:¬b=c) :
 CallsD prog 73 #[.pointer (some ⟨b,0,none⟩), .pointer (some ⟨c,0,none⟩)] (.panicking [{ v:=qXo ln co code,recovered:=false }]) w fun e u' w' =>
  e=.returned (.tuple #[])/\u'=.panicking [{ v:=qXo ln co code,recovered:=true }]/\Caught b c ln co code w w':=by
 unfold qXo;refine callsD_of_wpS func73 rfl fun c₀ cs hu=>?_
 apply wpS_seq;apply wpS_region;simp[wpOpsS,go_sem,recoverD,hu,ntmps73,Exit.thenS];refine wpS_of_wp ?_;change Code.wp _ _ _ { tmps:=#[.pointer (some ⟨b,0,none⟩), .pointer (some ⟨c,0,none⟩), .iface 110 (.agg #[.int .i64 ln, .int .i64 co, .int .i64 code]), .iface 110 (.agg #[.int .i64 ln, .int .i64 co, .int .i64 code]),undef,undef,undef,undef,undef],defers:=[] } w;have⟨r0,r1,r2,r3,r4,r5,_⟩:=hb.a;have⟨g0,g1,g2,g3,g4,g5,_⟩:=hb.b;have hta:=qUD;go_wp2
 go_region
 exact⟨rfl, .panicking [{ v:=.iface 110 (.agg #[.int .i64 ln, .int .i64 co, .int .i64 code]),recovered:=true }],rfl, .tuple #[],by simp[results,results73],rfl,rfl,qLW hb hne hc0 hc1 hc2⟩
end Go.Proofs.YtiajhekdhhhghaaGreatDoor
