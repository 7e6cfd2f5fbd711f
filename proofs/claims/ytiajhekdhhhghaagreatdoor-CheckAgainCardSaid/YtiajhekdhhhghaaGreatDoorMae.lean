/- Walks. -/
import Derived.Recover
import Derived.Defers
import Derived.Test.YtiajhekdhhhghaaGreatDoorMad
set_option linter.all false
set_option maxHeartbeats 8000000
set_option maxRecDepth 100000
namespace Go.Proofs.YtiajhekdhhhghaaGreatDoor
open Tryz
open Go Go.RowKit
theorem global_w :kZ 95 (fun p n=>#[p,n]) (qXa):=by
 intro lo B acc t v w ws hW hL hF he hlen;obtain⟨k,x,m,ln,co,ks⟩:=t;obtain⟨hFk,hFx,hFm0,hFm1,hFn,hFL⟩:=id hF;unfold qXa qQn at he;simp only[qY,qG,qC,qO,zB,zD,zX,qE,kIf,zS,qA,qV,qF,qD,qP,qW,qN,zW,zM,qL,qM,qT,zK,zL,qH,zA,qQ.kind,qQ.text,qQ.num,qQ.line,qQ.col,qQ.kids]at he;obtain⟨hb,he1⟩:=zN he;clear he;simp only[bE,beq_iff_eq]at hb;obtain⟨rfl,hnm⟩:=hb;rcases ks with _ | ⟨a0,_ | ⟨a1,_ | ⟨b,r⟩⟩⟩
 ·simp at he1
 rotate_right
 ·simp at he1
 ·simp only at he1;obtain⟨ws1,wr1,hc1,hd1,hx1⟩:=qK he1;subst hx1;clear he1;injection hd1 with hd1;subst hd1;obtain⟨g0,vc,hv,hR⟩:=hL.row (by simp[qQ.kids]);have HR:=hI hR;clear hR;simp only[qQ.kind,qQ.text,qQ.num,qQ.line,qQ.col,qQ.kids,List.length]at hv;subst hv;have S0:=hI (Sw.start hW hL);have HF:=hI hF;have HFL:=hI hFL;have HLEN:=hI hlen;have hBw:=hW.lt;have HFX:=hI hFx;have HFN:=hI hFn;clear hW hF hL hFL hlen hFk hFx hFn;try simp only[qZ,qS,qQ.kind,qQ.text,qQ.num,qQ.line,qQ.col,qQ.kids]at *
  go_enter func95,ntmps95
  obtain⟨c0,c1,c2,c3,c4,c5⟩:=S0.o.cells;have hszN:=S0.o.lt;go_wp2_with fail
  try clear c0 c1 c2 c3 c4 c5
  try clear hszN
  have HQ:=qZg (t:=(.mk [103,108,111,98,97,108] x m ln co [a0])) (v:=.slice (some ⟨g0,0,none⟩) 1 vc) (lo:=1) (hi:=2) _ S0.o.wr.tab HFX.o rfl hnm (by first | simp | omega | (have:=HFN.o;(try simp only[List.length]at this ⊢);omega)) (by first | simp | omega | (have:=HFN.o;(try simp only[List.length]at this ⊢);omega));simp only[qZ,qQ.kind,qQ.text,qQ.num,qQ.line,qQ.col,qQ.kids]at HQ;refine HQ.mono ?_;clear HQ;rintro e w2 ⟨rfl,hb2⟩;have S2:=hI (S0.o.below hb2);clear S0 hb2;obtain⟨c0,c1,c2,c3,c4,c5⟩:=S2.o.cells;have hszN:=S2.o.lt;go_wp2_with fail
  refine(jF _).mono ?_;rintro e w' ⟨rfl,rfl⟩;try clear c0 c1 c2 c3 c4 c5 hszN
  have HC:=hI ((qXn false) lo B acc (.mk [103,108,111,98,97,108] x m ln co [a0]) _ _ ws1 S2.o.wr S2.o.li HF.o hc1 (by have:=HLEN.o;(try simp only[lL,lO,lZ]at this ⊢);omega));try simp only[qZ,qQ.kind,qQ.text,qQ.num,qQ.line,qQ.col,qQ.kids]at HC
  obtain⟨c0,c1,c2,c3,c4,c5⟩:=S2.o.cells;have hszN:=S2.o.lt;go_wp2_with fail
  try clear c0 c1 c2 c3 c4 c5
  try clear hszN
  refine(HC.o).mono ?_;rintro e w3 ⟨rfl,hW3,hK3⟩;have S3:=hI (S2.o.call hW3 hK3);clear S2 hW3 hK3 HC;obtain⟨c0,c1,c2,c3,c4,c5⟩:=S3.o.cells;have hszN:=S3.o.lt;go_wp2_with fail
  try clear c0 c1 c2 c3 c4 c5
  try clear hszN
  have H:=jZ (S:=w3.1.size) [[59]] S3.o.wr (by simp) (by simp) (by have:=HLEN.o;(try simp only[lL,lO,lZ]at this ⊢);omega);simp only[jT,List.map,List.length]at H;refine H.mono ?_;clear H;rintro e w4 ⟨rfl,hW4,hK4⟩;have S4:=hI (S3.o.call hW4 hK4);clear S3 hW4 hK4;go_wp2
  first | go_end0 | refine bodyPost_ret (v:=.tuple #[]) (by simp[results,results95,go_sem]) rfl ?_
  exact⟨rfl,by simpa[List.append_assoc,qY,qG,qC,qO,zB,zD,zX,qE,kIf,zS,qA,qV,qF,qD,qP,qW,qN,zW,zM,qL,qM,qT,zK,zL,qH,zA]using S4.o.wr,S4.o.kp⟩
 ·simp only at he1;obtain⟨wsA,wrA,hA,hS,hxA⟩:=qK he1;subst hxA;clear he1;injection hS with hS;subst hS;obtain⟨ws1,wr1,hc1,hd1,hx1⟩:=qK hA;subst hx1;clear hA;obtain⟨ws2,wr2,hc2,hd2,hx2⟩:=qK hd1;subst hx2;clear hd1;injection hc2 with hc2;subst hc2;obtain⟨ws3,wr3,hc3,hd3,hx3⟩:=qK hd2;subst hx3;clear hd2;injection hd3 with hd3;subst hd3;obtain⟨g0,vc,hv,hR⟩:=hL.row (by simp[qQ.kids]);have HR:=hI hR;clear hR;simp only[qQ.kind,qQ.text,qQ.num,qQ.line,qQ.col,qQ.kids,List.length]at hv;subst hv;have S0:=hI (Sw.start hW hL);have HF:=hI hF;have HFL:=hI hFL;have HLEN:=hI hlen;have hBw:=hW.lt;have HFX:=hI hFx;have HFN:=hI hFn;clear hW hF hL hFL hlen hFk hFx hFn;try simp only[qZ,qS,qQ.kind,qQ.text,qQ.num,qQ.line,qQ.col,qQ.kids]at *
  go_enter func95,ntmps95
  obtain⟨c0,c1,c2,c3,c4,c5⟩:=S0.o.cells;have hszN:=S0.o.lt;go_wp2_with fail
  try clear c0 c1 c2 c3 c4 c5
  try clear hszN
  have HQ:=qZg (t:=(.mk [103,108,111,98,97,108] x m ln co [a0,a1])) (v:=.slice (some ⟨g0,0,none⟩) 2 vc) (lo:=1) (hi:=2) _ S0.o.wr.tab HFX.o rfl hnm (by first | simp | omega | (have:=HFN.o;(try simp only[List.length]at this ⊢);omega)) (by first | simp | omega | (have:=HFN.o;(try simp only[List.length]at this ⊢);omega));simp only[qZ,qQ.kind,qQ.text,qQ.num,qQ.line,qQ.col,qQ.kids]at HQ;refine HQ.mono ?_;clear HQ;rintro e w4 ⟨rfl,hb4⟩;have S4:=hI (S0.o.below hb4);clear S0 hb4;obtain⟨c0,c1,c2,c3,c4,c5⟩:=S4.o.cells;have hszN:=S4.o.lt;go_wp2_with fail
  refine(jF _).mono ?_;rintro e w' ⟨rfl,rfl⟩;try clear c0 c1 c2 c3 c4 c5 hszN
  have HC:=hI ((qXn false) lo B acc (.mk [103,108,111,98,97,108] x m ln co [a0,a1]) _ _ ws1 S4.o.wr S4.o.li HF.o hc1 (by have:=HLEN.o;(try simp only[lL,lO,lZ]at this ⊢);omega));try simp only[qZ,qQ.kind,qQ.text,qQ.num,qQ.line,qQ.col,qQ.kids]at HC
  obtain⟨c0,c1,c2,c3,c4,c5⟩:=S4.o.cells;have hszN:=S4.o.lt;go_wp2_with fail
  try clear c0 c1 c2 c3 c4 c5
  try clear hszN
  refine(HC.o).mono ?_;rintro e w5 ⟨rfl,hW5,hK5⟩;have S5:=hI (S4.o.call hW5 hK5);clear S4 hW5 hK5 HC;obtain⟨c0,c1,c2,c3,c4,c5⟩:=S5.o.cells;have hszN:=S5.o.lt;go_wp2_with fail
  try clear c0 c1 c2 c3 c4 c5
  try clear hszN
  have H:=jZ (S:=w5.1.size) [[91]] S5.o.wr (by simp) (by simp) (by have:=HLEN.o;(try simp only[lL,lO,lZ]at this ⊢);omega);simp only[jT,List.map,List.length]at H;refine H.mono ?_;clear H;rintro e w6 ⟨rfl,hW6,hK6⟩;have S6:=hI (S5.o.call hW6 hK6);clear S5 hW6 hK6;obtain⟨qa,na,ca,hla,hca⟩:=(HR.o.keep S6.o.kp.below).2 1 (by simp);simp only[Nat.zero_add,Nat.zero_mul,Nat.one_mul,Nat.reduceAdd,Nat.reduceMul,List.getElem_cons_zero,List.getElem_cons_succ]at hla hca;have⟨k0,k1,k2,k3,k4,k5,_⟩:=hca.a;simp only[Nat.zero_add,Nat.zero_mul,Nat.one_mul,Nat.reduceAdd,Nat.reduceMul,List.getElem_cons_zero,List.getElem_cons_succ]at k0 k1 k2 k3 k4 k5;have HC:=hI (qPT lo B ((acc++ws1)++[[91]]) a1 (.slice qa na ca) _ ws3 S6.o.wr hla (HFL.o.mem _ (by simp)) hc3 (by have:=HLEN.o;(try simp only[lL,lO,lZ]at this ⊢);omega));clear hca hla;try simp only[qZ]at HC
  obtain⟨c0,c1,c2,c3,c4,c5⟩:=S6.o.cells;have hszN:=S6.o.lt;go_wp2_with fail
  try clear c0 c1 c2 c3 c4 c5
  try clear hszN
  try clear k0 k1 k2 k3 k4 k5
  refine(HC.o).mono ?_;rintro e w7 ⟨rfl,hW7,hK7⟩;have S7:=hI (S6.o.call hW7 hK7);clear S6 hW7 hK7 HC;obtain⟨c0,c1,c2,c3,c4,c5⟩:=S7.o.cells;have hszN:=S7.o.lt;go_wp2_with fail
  try clear c0 c1 c2 c3 c4 c5
  try clear hszN
  have H:=jZ (S:=w7.1.size) [[93]] S7.o.wr (by simp) (by simp) (by have:=HLEN.o;(try simp only[lL,lO,lZ]at this ⊢);omega);simp only[jT,List.map,List.length]at H;refine H.mono ?_;clear H;rintro e w8 ⟨rfl,hW8,hK8⟩;have S8:=hI (S7.o.call hW8 hK8);clear S7 hW8 hK8;obtain⟨c0,c1,c2,c3,c4,c5⟩:=S8.o.cells;have hszN:=S8.o.lt;go_wp2_with fail
  try clear c0 c1 c2 c3 c4 c5
  try clear hszN
  have H:=jZ (S:=w8.1.size) [[59]] S8.o.wr (by simp) (by simp) (by have:=HLEN.o;(try simp only[lL,lO,lZ]at this ⊢);omega);simp only[jT,List.map,List.length]at H;refine H.mono ?_;clear H;rintro e w9 ⟨rfl,hW9,hK9⟩;have S9:=hI (S8.o.call hW9 hK9);clear S8 hW9 hK9;go_wp2
  first | go_end0 | refine bodyPost_ret (v:=.tuple #[]) (by simp[results,results95,go_sem]) rfl ?_
  exact⟨rfl,by simpa[List.append_assoc,qY,qG,qC,qO,zB,zD,zX,qE,kIf,zS,qA,qV,qF,qD,qP,qW,qN,zW,zM,qL,qM,qT,zK,zL,qH,zA]using S9.o.wr,S9.o.kp⟩
theorem program_w(n:Nat)(hfn:kZ 94 (fun p n=>#[p,n]) (kA (qZB n))):kZ 76 (fun p n=>#[p,n]) (qQO n):=by
 intro lo B acc t v w ws hW hL hF he hlen;obtain⟨k,x,m,ln,co,ks⟩:=t;obtain⟨hFk,hFx,hFm0,hFm1,hFn,hFL⟩:=id hF;simp only[qQO,qY,qG,qC,qO,zB,zD,zX,qE,kIf,zS,qA,qV,qF,qD,qP,qW,qN,zW,zM,qL,qM,qT,zK,zL,qH,zA,qQ.kind,qQ.text,qQ.num,qQ.line,qQ.col,qQ.kids]at he;obtain⟨hb,hm⟩:=zN he;clear he;simp only[bE,beq_iff_eq]at hb;obtain⟨rfl,hbare⟩:=hb;obtain⟨q0,vc,hv,hvc,hvm,hka⟩:=hL.kids;have HKA:=hI hka;clear hka;simp only[qQ.kind,qQ.text,qQ.num,qQ.line,qQ.col,qQ.kids,List.length]at hv;subst hv;have S0:=hI (Sw.start hW hL);have HF:=hI hF;have HFL:=hI hFL;have HLEN:=hI hlen;have hBw:=hW.lt;have HFX:=hI hFx;have HFN:=hI hFn;clear hW hF hL hFL hlen hFk hFx hFn;try simp only[qZ,qS,qQ.kind,qQ.text,qQ.num,qQ.line,qQ.col,qQ.kids]at *
 have HEM:=hI hm;clear hm;have hmf:=zT;go_enter func76,ntmps76
 obtain⟨c0,c1,c2,c3,c4,c5⟩:=S0.o.cells;have hszN:=S0.o.lt;go_wp2_with fail
 try clear c0 c1 c2 c3 c4 c5
 try clear hszN
 have HQ:=wB (t:=(.mk [112,114,111,103,114,97,109] x m ln co ks)) (v:=.slice q0 ks.length vc) (lo:=0) (hi:=9223372036854775807) _ S0.o.wr.tab rfl hbare (by first | (simp;done) | omega | (have:=HFN.o;(try simp only[List.length]at this ⊢);omega)) (by first | (simp;done) | omega | (have:=HFN.o;(try simp only[List.length]at this ⊢);omega));simp only[qZ,qQ.kind,qQ.text,qQ.num,qQ.line,qQ.col,qQ.kids]at HQ;refine HQ.mono ?_;clear HQ;rintro e w1 ⟨rfl,hb1⟩;have S1:=hI (S0.o.below hb1);clear S0 hb1;obtain⟨c0,c1,c2,c3,c4,c5⟩:=S1.o.cells;have hszN:=S1.o.lt;go_wp2_with fail
 refine(jF _).mono ?_;rintro e w' ⟨rfl,rfl⟩;try clear c0 c1 c2 c3 c4 c5 hszN
 obtain⟨c0,c1,c2,c3,c4,c5⟩:=S1.o.cells;have hszN:=S1.o.lt;go_wp2_with fail
 try clear c0 c1 c2 c3 c4 c5
 try clear hszN
 go_loopw [17] (fun i wr=>ManyRel lo B w.1.size acc (.mk [112,114,111,103,114,97,109] x m ln co ks) (.slice q0 ks.length vc) (fun k=>if k.kind == [102,117,110,99]then kA (qZB n) k else qXa k) ks ws w i wr) (fun i _=>ks.length - (intOf i).toNat)
 case atStart=>exact⟨0,[],ws,Nat.zero_le _,rfl,rfl,HEM.o,by simpa using S1.o⟩
 case round =>
  have hn:=HFN.o;obtain⟨i,pre,post,hk,rfl,hws,hpost,hS⟩:=hrel;have HWS:=hI hws;have HPO:=hI hpost;have SR:=hI hS;clear hws hpost hS S1;by_cases hlt:i < ks.length
  ·have hne:ks≠[]:=fun e=>by rw[e]at hlt;simp at hlt
   obtain⟨g1,off,rfl,hR⟩:=(HKA.o.keep SR.o.kp.below).resolve_left hne;obtain⟨qa,na,ca,hla,hca⟩:=hR.2 i hlt;have⟨k0,k1,k2,k3,k4,k5,_⟩:=hca.a;have HLA:=hI hla;have hneat:=hI (qZn.mem HFL.o ks[i] (List.getElem_mem _));have T0:=hI (Hn.new ks[i] (.slice qa na ca) wr);have S1:=hI (SR.o.alloc (.cells (qS ks[i] (.slice qa na ca)).toArray 57));have hBr:=SR.o.wr.lt;have HLL:=hI (HLA.o.keep (((Below.refl _ _).alloc (Nat.le_refl _) (.cells (qS ks[i] (.slice qa na ca)).toArray 57)).mono (Nat.le_of_lt hBr)));obtain⟨a,b,ha,hb,hpe⟩:=qUi hlt HPO.o;have HA:=hI ha;have HB:=hI hb;have HPE:=hI hpe;have hlen:((acc++pre)++a).length<=1000000000:=by have:=HLEN.o;rw[HWS.o,hpe]at this;simp only[lL,lO,lZ]at this ⊢;omega
   have HLEN2:=hI hlen;clear hca hla hR hne HLA ha hb hpe hlen SR;generalize hu:ks[i]=u at *;simp only[qS,qZ]at *;cases hkf:(u.kind == [102,117,110,99]);case false =>
    have ha:=HA.o;simp only[hkf,bF,if_false,if_true,reduceIte]at ha;have HC:=hI (global_w lo B (acc++pre) u (.slice qa na ca) _ a S1.o.wr HLL.o hneat.o ha (by have:=HLEN2.o;rwa [lL]at this));clear ha;try simp only[qZ]at HC
    obtain⟨c0,c1,c2,c3,c4,c5⟩:=S1.o.cells;go_wp2_with fail
    clear c0 c1 c2 c3 c4 c5;refine(HC.o).mono ?_;rintro e w5 ⟨rfl,hW5,hK5⟩;have S5:=hI (S1.o.call hW5 hK5);clear hW5 hK5 HC S1 T0 k0 k1 k2 k3 k4 k5;go_wp2
    go_roundw
    case rel=>exact⟨i+1,pre++a,b,by omega,by go_num,by rw[HWS.o,HPE.o,List.append_assoc],HB.o,by simpa[List.append_assoc]using S5.o⟩
    case measure=>simp[intOf];omega
   case true =>
    have ha:=HA.o;simp only[hkf,bF,if_false,if_true,reduceIte]at ha;have HC:=hI (hfn lo B (acc++pre) u (.slice qa na ca) _ a S1.o.wr HLL.o hneat.o ha (by have:=HLEN2.o;rwa [lL]at this));clear ha;try simp only[qZ]at HC
    skip
    obtain⟨c0,c1,c2,c3,c4,c5⟩:=S1.o.cells;go_wp2_with fail
    clear c0 c1 c2 c3 c4 c5;refine(HC.o).mono ?_;rintro e w5 ⟨rfl,hW5,hK5⟩;have S5:=hI (S1.o.call hW5 hK5);clear hW5 hK5 HC S1 T0 k0 k1 k2 k3 k4 k5;go_wp2
    go_roundw
    case rel=>exact⟨i+1,pre++a,b,by omega,by go_num,by rw[HWS.o,HPE.o,List.append_assoc],HB.o,by simpa[List.append_assoc]using S5.o⟩
    case measure=>simp[intOf];omega
  ·have hp0:post=[]:=by have h:=HPO.o;rw[qPP _ ks hk hlt]at h;injection h with h;exact h.symm
   have hws:=HWS.o;rw[hp0,lA]at hws;subst hws;have S2:=SR;clear SR hp0;go_wp2
   first | go_end0 | refine bodyPost_ret (v:=.tuple #[]) (by simp[results,results76,go_sem]) rfl ?_
   exact⟨rfl,by simpa[List.append_assoc,qY,qG,qC,qO,zB,zD,zX,qE,kIf,zS,qA,qV,qF,qD,qP,qW,qN,zW,zM,qL,qM,qT,zK,zL,qH,zA]using S2.o.wr,S2.o.kp⟩
theorem run_w:∀ n,kZ 150 (fun p n=>#[p,n]) (qZB n .expr)/\kZ 116 (fun p n=>#[p,n]) (qZB n .block):=by
 intro n;induction n with
 | zero=>exact⟨fun _ _ _ _ _ _ _ _ _ _ he=>by simp[qZB]at he,fun _ _ _ _ _ _ _ _ _ _ he=>by simp[qZB]at he⟩
 | succ n ih=>exact⟨qUK (qZB n) ih.1,block_w (qZB n) (qLd (qZB n) ih.1 ih.2)⟩
theorem prog_w(n:Nat):kZ 76 (fun p n=>#[p,n]) (qQO n):=program_w n (qL7 (qZB n) (run_w n).2)
theorem qVU{o:Oper}{a:Act}{K:Act->World->Prop}{Q:Exit->Act->World->Prop}{w:World}{ok:Nat->Prop}{acc ts:List qQ}{us:List Value}{v:Value}{ad:Addr}{c:Nat}(s x:Operand)
 (ho:o.op=.call { callee:=.builtin .append,args:=#[s,x],argTypes:=#[55,55] }) (hB:xH w ok acc v)
 (hs:a.eval s=v) (hx:a.eval x=.slice (some ad) ts.length c) (hm:0 < ts.length) (hnews:∀ (j:Nat) (u:Value),(qZK ts us)[j]? = some u->w.cell? (ad.add j)=some u)
 (hn:acc.length+ts.length<=1000000) (hok:ok w.1.size) (hL:vV w (fun g=>ok g/\some g≠v.ownBlock) ts us)
 (h:∀ v' w',xH w' ok (acc++ts) v'->w.grownBy w' v.ownBlock->K (a.put o.dst v') w') :
 o.wp prog a w K Q:=by
 obtain⟨vs,h1,h0,h2⟩:=hB;obtain⟨i0,hi,hz0,hz1,hz2⟩:=info_parts info57;have hlen:=vV.length acc vs h2;have hlen2:=vV.length ts us hL;have hone:=qYa ts us (vV.one ts us hL);have hrl:=qW9 ts us hlen2;obtain⟨v',w',hr,ho',hg',_⟩:=run_append_own (P:=prog) w 0 55 o.type 57 i0 _ 6 80 underlying55 hi hz0 hz1 hz2 rfl (by decide) v acc.length _ h1 ad ts.length c (qZK ts us) hrl hnews hone (by unfold maxLen;omega) (by omega) (Nat.zero_le _);have hbk:=qX7 (P:=prog) w 0 55 o.type 57 i0 _ 6 80 underlying55 hi hz0 hz1 hz2 v acc.length _ h1 ad ts.length c (qZK ts us) hrl hnews hone (by unfold maxLen;omega) (by omega) hm v' w' hr;have hst:∀ g,g < w.1.size->some g≠v.ownBlock->w'.1[g]? = w.1[g]?:=fun g hg hne=>hg'.block g hg hne
 have hv':∀ g,g < w.1.size->some g≠v.ownBlock->some g≠v'.ownBlock:=fun g hg hne e=>by
  rcases hbk with h | h
  ·exact hne (e.trans h)
  ·rw[h]at e;injection e with e;omega
 have hK:=h v' w' ⟨vs++us,by rw[qJS acc ts vs us hlen,lL];exact ho',fun g hg=>by
  rcases hbk with h | h
  ·exact h0 g (h ▸ hg)
  ·rw[h]at hg;injection hg with hg;subst hg;exact hok,
  vV.append acc ts vs us (vV.move (fun g hg hok=>⟨⟨hok.1,hv' g hg hok.2⟩,hst g hg hok.2⟩) acc vs h2) (vV.move (fun g hg hok=>⟨⟨hok.1,hv' g hg hok.2⟩,hst g hg hok.2⟩) ts us hL)⟩ hg'
 unfold Oper.wp execOp;simp only[ho,resolve,invoke,builtin,Sem.run_bind,Sem.run_pure,Result.andThen_ok,List.map_toArray,List.map_cons,List.map_nil,hs,hx,hr];exact hK
theorem qX6{o:Oper}{a:Act}{K:Act->World->Prop}{Q:Exit->Act->World->Prop}{w:World}{ok:Nat->Prop}{lo1 S dd:Nat}{acc:List qQ}{t:qQ}{v u:Value}(s x:Operand)
 (ho:o.op=.call { callee:=.builtin .append,args:=#[s,x],argTypes:=#[55,55] }) (hd:o.dst=some dd) (hB:xH w ok acc v) (hK:zC w lo1 t.kids u) (hok:∀ g,lo1<=g->ok g) (hv:∀ g,v.ownBlock=some g->g < lo1) (hl1:lo1<=w.1.size)
 (hs:a.eval s=v) (hS:w.1.size=S) (hx:a.eval x=.slice (some ⟨S,0,none⟩) 1 1) (hn:acc.length < 1000000)
 (h:∀ v' w',xH w' ok (acc++[t]) v'->(w.alloc (.cells (qS t u).toArray 57)).grownBy w' v.ownBlock->K (a.put (some dd) v') w') :
 o.wp prog a (w.alloc (.cells (qS t u).toArray 57)) K Q:=by
 subst hS;refine qVU s x ho (hB.below ((Below.refl _ _).alloc (Nat.le_refl _) _)) (ts:=[t]) (us:=[u]) hs hx (by simp) ?_ (by simp;omega) (hok _ (by simp;omega)) ⟨xZ.move (fun g hg hok'=>?_) t u (hK.alloc (.cells (qS t u).toArray 57)).lies,trivial⟩ (fun v' w' h1 h2=>by rw[hd];exact h v' w' h1 h2)
 ·simpa[qZK]using qUk w t u 57
 ·have hne:some g≠v.ownBlock:=fun e=>by have:=hv g e.symm;omega
  exact⟨⟨hok g hok',hne⟩,rfl⟩
structure NdX(N lo:Nat)(k x:List UInt8)(n ln c:Int)(v:Value)(ts:List qQ)(w:World):Prop where
 nd:zI N k x n ln c v w
 bd:xH w (fun g=>lo<=g/\g≠N) ts v
theorem NdX.lt{N lo:Nat}{k x:List UInt8}{n ln c:Int}{v:Value}{ts:List qQ}{w:World}(h:NdX N lo k x n ln c v ts w):N < w.1.size:=h.nd.lt
theorem NdX.call{N lo B:Nat}{k x:List UInt8}{n ln c:Int}{v:Value}{ts:List qQ}{w w':World}(h:NdX N lo k x n ln c v ts w)(hg:w.grownBy w' (some B))(hB:B < N/\B < lo):NdX N lo k x n ln c v ts w' :=
 ⟨h.nd.grown hg (by simp;omega),h.bd.grown hg (fun j e=>by cases e;exact .inl (fun h=>by omega))⟩
theorem NdX.below{N lo:Nat}{k x:List UInt8}{n ln c:Int}{v:Value}{ts:List qQ}{w w':World}(h:NdX N lo k x n ln c v ts w)(hb:Below w.1.size w w'):NdX N lo k x n ln c v ts w':=⟨h.nd.below hb,h.bd.below hb⟩
theorem NdX.drew{N lo:Nat}{k x:List UInt8}{n ln c:Int}{v:Value}{ts:List qQ}{w:World}(h:NdX N lo k x n ln c v ts w):NdX N lo k x n ln c v ts w.drew:=h.below (Below.refl _ _).drew
theorem NdX.own{N lo:Nat}{k x:List UInt8}{n ln c:Int}{v:Value}{ts:List qQ}{w:World}(h:NdX N lo k x n ln c v ts w):∀ g,v.ownBlock=some g->lo<=g/\g≠N/\g < w.1.size:=fun g hg=>by
 obtain⟨vs,h1,h2,_⟩:=h.bd;exact⟨(h2 g hg).1,(h2 g hg).2,(h1.lt g hg).2⟩
theorem NdX.put(t:qQ){lo:Nat}{v:Value}{w:World}(h:zC w lo t.kids v):NdX w.1.size lo t.kind t.text t.num t.line t.col v t.kids (w.alloc (wD t.kind t.text t.num t.line t.col v)) :=
 ⟨zI.new _ _ _ _ _ _ w,(xH.of h).move fun g hg hok=>⟨⟨hok,by omega⟩,heap_alloc_old w _ hg⟩⟩
theorem NdX.setK{N lo:Nat}{k x:List UInt8}{n ln c:Int}{v:Value}{ts:List qQ}{w:World}(h:NdX N lo k x n ln c v ts w)(k':List UInt8):NdX N lo k' x n ln c v ts (w.setCell ⟨N,0,none⟩ (.string ⟨k'.toArray⟩)):=by
 have⟨h0,h1,h2,h3,h4,h5,_⟩:=h.nd.a;have hf:=h.nd.f;refine⟨?_,h.bd.grown (jM _ _ _ _) (fun j e=>by cases e;exact .inl (fun h=>h.2 rfl))⟩;constructor
 case f=>intro k hk;have:=hf k hk;simp[go_sem, *]
 all_goals simp[go_sem, *]
theorem qKV{w0 w6 w7:World}{B N lo:Nat}{l:List Tok}{d:Int}{k x:List UInt8}{n ln c:Int}{v v7:Value}{acc ts:List qQ}{o:Obj}(S:St w0 B l d w6)(Nn:NdX N lo k x n ln c v acc w6)(hw:w0.1.size < N)(hwl:w0.1.size < lo)
 (hb7:xH w7 (fun g=>lo<=g/\g≠N) ts v7) (hg7:(w6.alloc o).grownBy w7 v.ownBlock):St w0 B l d (w7.setCell ⟨N,5,none⟩ v7)/\NdX N lo k x n ln c v7 ts (w7.setCell ⟨N,5,none⟩ v7):=by
 have hlt:=Nn.own;refine⟨((S.alloc o).local hg7 (fun j e=>by have:=(hlt j e).1;omega)).setN hw _ _,?_,hb7.grown (jM _ _ _ _) (fun j e=>by cases e;exact .inl (fun h=>h.2 rfl))⟩;exact((Nn.nd.grown (World.grownBy_alloc w6 o none) (by simp)).grown hg7 (fun e=>by have:=(hlt N e.symm).2.1;exact this rfl)).set5 v7
theorem qXW{α β:Type}{p:PR α}{f:α->List Tok->PR β}{b:β}{l:List Tok}(h:p.bind f=.ok b l):∃ a l',p=.ok a l'/\f a l'=.ok b l:=by
 cases p with
 | ok a l'=>exact⟨a,l',rfl,h⟩
 | bad ln c code=>simp[PR.bind]at h
 | out=>simp[PR.bind]at h
theorem qUP{rec:NT->Int->List Tok->PR qQ}{word:List UInt8}{d:Int}{l l':List Tok}{t:qQ}(h:jK rec word d l=.ok t l'):t.kids.length < 1000000:=by
 unfold jK at h;obtain⟨_,_,_,h⟩:=qXW h;obtain⟨_,_,_,h⟩:=qXW h;obtain⟨_,_,_,h⟩:=qXW h;obtain⟨_,_,_,h⟩:=qXW h;injection h with h1 h2;subst h1;simp[qQ.kids]
theorem qPp(rec:NT->Int->List Tok->PR qQ)(d:Int)(he:yR 107)(hgu:vM 157 (fun p=>#[p, .string ⟨#[105,102]⟩]) d (jK rec kIf d))(hbl:vM 107 (fun p=>#[p]) (d+1) (rec .block (d+1))):vM 141 (fun p=>#[p]) d (vF rec d):=by
 intro B l w h hno;obtain⟨t,r,rfl⟩:=h.ends.ne;have S0:=St.start h;have hBw:=S0.hB;have HNO:=hI hno;have S0:=hI S0;have hmf:=zT;have hft:=vS;have hfk:=yW;have HGU:=hI hgu;have HBL:=hI (wT 107 d (rec .block) he hbl);clear he hgu hbl;clear h hno;unfold jY at *;go_enter func141,ntmps141
 have hnoc:jK rec kIf d (t :: r)≠.out:=fun e=>HNO.o (by simp only[bF,if_false,if_true,reduceIte,bN,bM,bO,bU,bP,bV,bW,bB,bA,bT,lN,lC,lA,vF,PR.bind,qX,e])
 have HC:=hI (HGU.o B (t :: r) _ S0.o.ps hnoc);have HNOC:=hI hnoc;clear hnoc;go_wp2_with fail
 refine(HC.o).mono ?_;intro e w1 hq;rcases hq.cases HNOC.o with⟨t1,l1,q1,n1,c1,he1,rfl,hb1,hP1,hg1⟩ | ⟨ln,c,code,he1,rfl,hg1⟩;rotate_left
 ·refine⟨rfl,?_⟩;have hbad:(vF rec d) (t :: r)=.bad ln c code:=by simp only[bF,if_false,if_true,reduceIte,bN,bM,bO,bU,bP,bV,bW,bB,bA,bT,lN,lC,lA,vF,PR.bind,qX,he1]
  rw[hbad];exact S0.o.pan ⟨rfl,hg1⟩
 have hwN:w.1.size < w1.1.size:=(S0.o.call hP1 hg1).lt;have N1:=hI (NdX.put t1 (hb1.mono (lo':=w.1.size+1) S0.o.lt));have S1:=hI ((S0.o.call hP1 hg1).alloc (wD t1.kind t1.text t1.num t1.line t1.col (.slice q1 n1 c1)));have HE1:=hI he1;clear hq hb1 hP1 hg1 he1 HC HNOC S0;unfold qZ wD at *;have hkl:t1.kids.length < 1000000:=by
  have:=HE1.o;exact qUP this
 obtain⟨t2,r2l,hlt2⟩:=S1.o.ps.ends.ne;subst hlt2;cases hf1:(t2.text == zS);case false =>
  have H:=hI (wN B t2 r2l d zS _ S1.o.ps);rw[hf1]at H;go_wp2_with fail
  refine(H.o).mono ?_;rintro e w2 ⟨rfl,hb2⟩;have S2:=hI (S1.o.below hb2);have N2:=hI (N1.o.below hb2);clear S1 N1;clear H hb2;have S9:=S2.o;have N9:=N2.o;have hs1:=S9.lt;have hs2:=N9.lt;try simp only[World.size_setCell,World.size_alloc]at hs1 hs2
  have hr:=S9.res;have⟨r0,r1',r2,r3,r4,r5,_⟩:=hr.a;have⟨g0,g1,g2,g3,g4,g5,_⟩:=hr.b;clear hr;have hq:=N9.nd;have⟨qn0,qn1,qn2,qn3,qn4,qn5,_⟩:=hq.a;clear hq;have HS9:=hI S9;have HN9:=hI N9;clear S9 N9 S2 N2;skip
  go_wp2
  refine bodyPost_ret (v:=qZ t1 (.slice q1 n1 c1)) (by simp[results,results141,go_sem,qZ,qQ.kind,qQ.text,qQ.num,qQ.line,qQ.col,qQ.kids,qY,qG,qC,qO,zB,zD,zX,qE,kIf,zS,qA,qV,qF,qD,qP,qW,qN,zW,zM,qL,qM,qT,zK,zL,qH,zA, *]) rfl ?_;have hgood:(vF rec d) (t :: r)=.ok t1 (t2 :: r2l):=by simp only[bF,if_false,if_true,reduceIte,bN,bM,bO,bU,bP,bV,bW,bB,bA,bT,lN,lC,lA,vF,hf1,PR.bind,qX,HE1.o]
  rw[hgood];exact HS9.o.fin (t:=t1) (HN9.o.bd.build fun g hg=>hg.1) _ _ _ _ _ _
 case true =>
  have H:=hI (wN B t2 r2l d zS _ S1.o.ps);rw[hf1]at H;go_wp2_with fail
  refine(H.o).mono ?_;rintro e w2 ⟨rfl,hb2⟩;have S2:=hI (S1.o.below hb2);have N2:=hI (N1.o.below hb2);clear S1 N1;clear H hb2;have H:=hI (xV (S:=w2.1.size) [zS] S2.o.ps (by simp[*,qY,qG,qC,qO,zB,zD,zX,qE,kIf,zS,qA,qV,qF,qD,qP,qW,qN,zW,zM,qL,qM,qT,zK,zL,qH,zA]) (by simp) (by simp));simp only[List.map,List.length]at H;go_wp2_with fail
  refine(H.o).mono ?_;rintro e w3 (⟨l3,he3,rfl,hP3,hg3⟩ | ⟨ln,c,code,he3,rfl,hg3⟩);rotate_left
  ·refine⟨rfl,?_⟩;have hbad:(vF rec d) (t :: r)=.bad ln c code:=by simp only[bF,if_false,if_true,reduceIte,bN,bM,bO,bU,bP,bV,bW,bB,bA,bT,lN,lC,lA,vF,hf1,PR.bind,qX,HE1.o,he3]
   rw[hbad];exact S2.o.pan ⟨rfl,hg3⟩
  have S3:=hI (S2.o.call hP3 hg3);have N3:=hI (N2.o.call hg3 (by omega));clear S2 N2;have HE3:=hI he3;clear H he3 hP3 hg3;have hnoc:xX d (rec .block) l3≠.out:=fun e=>HNO.o (by simp only[bF,if_false,if_true,reduceIte,bN,bM,bO,bU,bP,bV,bW,bB,bA,bT,lN,lC,lA,vF,hf1,PR.bind,qX,HE1.o,HE3.o,e])
  have HNOC:=hI hnoc;clear hnoc;have S4d:=hI S3.o.drew;have N4d:=hI N3.o.drew;clear S3 N3;go_wp2_with fail
  have hcl:=N4d.o.nd.c5;refine wRg (S:=fun w'=>w'.cell? ⟨w1.1.size,5,none⟩=some (.slice q1 n1 c1)) 7 ?_;refine wTk 0 11 (.pointer (some ⟨w1.1.size,5,none⟩)) ?_ hcl ?_
  ·intro _ y;go_simp
  refine wTk 1 12 (.slice q1 n1 c1) ?_ hcl ?_
  ·intro _ y;go_simp
  refine wTk 2 13 (.pointer (some ⟨B,0,none⟩)) ?_ hcl ?_
  ·intro _ y;go_simp
  refine wTk 3 14 (.pointer (some ⟨B,0,none⟩)) ?_ hcl ?_
  ·intro _ y;go_simp
  refine wTk 4 15 (.func (.func 107) #[.pointer (some ⟨B,0,none⟩)] #[]) ?_ hcl ?_
  ·intro _ y;go_simp
  refine wOn 5 fun K hK=>?_
  go_simp;have HC:=HBL.o B l3 _ S4d.o.ps HNOC.o;refine HC.mono ?_;intro e w4a hq;rcases hq.cases HNOC.o with⟨t4,l4,q4,n4,c4,he4,rfl,hb6,hP6,hg6⟩ | ⟨ln,c,code,he4,rfl,hg6⟩;rotate_left
  ·refine⟨rfl,?_⟩;have hbad:(vF rec d) (t :: r)=.bad ln c code:=by simp only[bF,if_false,if_true,reduceIte,bN,bM,bO,bU,bP,bV,bW,bB,bA,bT,lN,lC,lA,vF,hf1,PR.bind,qX,HE1.o,HE3.o,he4]
   rw[hbad];exact S4d.o.pan ⟨rfl,hg6⟩
  have S6:=hI (S4d.o.call hP6 hg6);have N6:=hI (N4d.o.call hg6 (by omega));have HB6:=hI hb6;have hbl:=N4d.o.own;have c6':=N6.o.nd.c5;have f6':=N6.o.nd.f 5 nL;have hs6:=N6.o.lt;have hsz5:=N4d.o.lt;have hsz6:=hg6.size;clear hP6 hg6 hb6 HC hq S4d N4d;unfold qZ;refine kK hK c6' ?_;clear hK K;refine wOn 6 fun K hK=>?_
  go_simp;refine kK hK (by go_simp) ?_;clear hK K;refine wOn 7 fun K hK=>?_
  refine qX6 (dd:=18) (t:=t4) (u:=.slice q4 n4 c4) _ _ rfl rfl N6.o.bd HB6.o (fun g hg=>⟨by omega,by omega⟩) (fun g hg=>(hbl g hg).2.2) hsz6 rfl rfl rfl (by simpa using hkl) (fun v7 w4 hb7 hg7=>?_);refine kD hK ?_;clear hK K;obtain⟨qq4,nn4,cc4,rfl⟩:=hb7.shape;have hff:=qKV S6.o N6.o hwN (Nat.lt_succ_self _) hb7 hg7;have hs7:w4.frozen? ⟨w1.1.size,5,none⟩=false:=((N6.o.nd.grown (World.grownBy_alloc w4a _ none) (by simp)).grown hg7 (fun e=>(hbl _ e.symm).2.1 rfl)).f 5 nL;have hd7:=((N6.o.nd.grown (World.grownBy_alloc w4a _ none) (by simp)).grown hg7 (fun e=>(hbl _ e.symm).2.1 rfl)).c5;have HFF:=hI hff;clear hff hb7 hg7 S6 N6 HB6 hbl hcl c6' f6' hsz5 hsz6;try simp only[Act.put,pZa,pZb,pZc]
  refine wOn 8 fun K hK=>?_
  go_simp;refine kD hK ?_;clear hK K;refine wOn 9 fun K hK=>?_
  go_simp;refine kD hK ?_;clear hK K;refine wDn ?_ _;clear hs7 hd7;have S4:=hI HFF.o.1;have N4:=hI HFF.o.2;have HE4:=hI he4;clear HFF he4 HNOC;have hszn:=N4.o.lt;simp only[World.size_setCell]at hszn;have S9:=S4.o;have N9:=N4.o;have hs1:=S9.lt;have hs2:=N9.lt;try simp only[World.size_setCell,World.size_alloc]at hs1 hs2
  have hr:=S9.res;have⟨r0,r1',r2,r3,r4,r5,_⟩:=hr.a;have⟨g0,g1,g2,g3,g4,g5,_⟩:=hr.b;clear hr;have hq:=N9.nd;have⟨qn0,qn1,qn2,qn3,qn4,qn5,_⟩:=hq.a;clear hq;have HS9:=hI S9;have HN9:=hI N9;clear S9 N9 S4 N4;skip
  go_wp2
  refine bodyPost_ret (v:=qZ (.mk t1.kind t1.text t1.num t1.line t1.col (t1.kids++[t4])) (.slice qq4 nn4 cc4)) (by simp[results,results141,go_sem,qZ,qQ.kind,qQ.text,qQ.num,qQ.line,qQ.col,qQ.kids,qY,qG,qC,qO,zB,zD,zX,qE,kIf,zS,qA,qV,qF,qD,qP,qW,qN,zW,zM,qL,qM,qT,zK,zL,qH,zA, *]) rfl ?_;have hgood:(vF rec d) (t :: r)=.ok (.mk t1.kind t1.text t1.num t1.line t1.col (t1.kids++[t4])) l4:=by simp only[bF,if_false,if_true,reduceIte,bN,bM,bO,bU,bP,bV,bW,bB,bA,bT,lN,lC,lA,vF,hf1,PR.bind,qX,HE1.o,HE3.o,HE4.o]
  rw[hgood];exact HS9.o.fin (t:=(.mk t1.kind t1.text t1.num t1.line t1.col (t1.kids++[t4]))) (HN9.o.bd.build fun g hg=>hg.1) _ _ _ _ _ _
theorem qVV{o:Oper}{a:Act}{K:Act->World->Prop}{Q:Exit->Act->World->Prop}{w:World}{ok:Nat->Prop}{lo1 dd:Nat}{acc ts:List qQ}{v u:Value}(s x:Operand)
 (ho:o.op=.call { callee:=.builtin .append,args:=#[s,x],argTypes:=#[55,55] }) (hd:o.dst=some dd) (hB:xH w ok acc v) (hK:zC w lo1 ts u) (hz:ts=[]->u=.slice none 0 0) (hok:∀ g,lo1<=g->ok g) (hv:∀ g,v.ownBlock=some g->g < lo1) (hl1:lo1<=w.1.size)
 (hs:a.eval s=v) (hx:a.eval x=u) (hn:acc.length+ts.length<=1000000)
 (h:∀ v' w',xH w' ok (acc++ts) v'->w.grownBy w' v.ownBlock->K (a.put (some dd) v') w') :
 o.wp prog a w K Q:=by
 by_cases he:ts=[]
 ·obtain rfl:=he;obtain rfl:=hz rfl;obtain⟨i0,hi,hz0,hz1,hz2⟩:=info_parts info57;obtain⟨vs,h1,h2⟩:=hB;have hr:=run_append_owned_none (P:=prog) (w:=w) 0 55 o.type 57 i0 6 underlying55 hi v acc.length _ h1;have hk:=h v w (by rw[lA];exact⟨vs,h1,h2⟩) (jS _ _);unfold Oper.wp execOp;simp only[ho,resolve,invoke,builtin,Sem.run_bind,Sem.run_pure,Result.andThen_ok,List.map_toArray,List.map_cons,List.map_nil,hs,hx,hr];show K (a.put o.dst v) w
  rw[hd];exact hk
 ·obtain⟨us,h1,h2⟩:=hK;have hpos:0 < ts.length:=List.length_pos_iff.2 he;rcases h1.2 with⟨_,h0⟩ | ⟨g,cap,cur,rfl,hbg,hg,rest⟩
  ·omega
  ·refine qVU s x ho hB (ts:=ts) (us:=us) hs hx hpos (fun j y hy=>h1.cells (g:=g) rfl j y hy) (by omega) (hok _ hl1) (vV.move (fun g' hg' hok'=>?_) ts us h2) (fun v' w' h3 h4=>by rw[hd];exact h v' w' h3 h4);have hne:some g'≠v.ownBlock:=fun e=>by have:=hv g' e.symm;omega
   exact⟨⟨hok g' hok'.1,hne⟩,rfl⟩
theorem qYT{w0 w6 w7:World}{B N lo:Nat}{l:List Tok}{d:Int}{k x:List UInt8}{n ln c:Int}{v v7:Value}{acc ts:List qQ}(S:St w0 B l d w6)(Nn:NdX N lo k x n ln c v acc w6)(hw:w0.1.size < N)(hwl:w0.1.size < lo)
 (hb7:xH w7 (fun g=>lo<=g/\g≠N) ts v7) (hg7:w6.grownBy w7 v.ownBlock):St w0 B l d (w7.setCell ⟨N,5,none⟩ v7)/\NdX N lo k x n ln c v7 ts (w7.setCell ⟨N,5,none⟩ v7):=by
 have hlt:=Nn.own;refine⟨(S.local hg7 (fun j e=>by have:=(hlt j e).1;omega)).setN hw _ _,?_,hb7.grown (jM _ _ _ _) (fun j e=>by cases e;exact .inl (fun h=>h.2 rfl))⟩;exact(Nn.nd.grown hg7 (fun e=>by have:=(hlt N e.symm).2.1;exact this rfl)).set5 v7
theorem put_kind(w:World)(k k' x:ByteArray)(n ln c:Int)(v:Value):(w.alloc (.cells #[.string k, .string x, .int .u64 n, .int .i64 ln, .int .i64 c,v] 57)).setCell ⟨w.1.size,0,none⟩ (.string k')=w.alloc (.cells #[.string k', .string x, .int .u64 n, .int .i64 ln, .int .i64 c,v] 57):=by simp[go_sem]
def yM(n:Nat)(d:Int)(l:List Tok):PR qQ :=
 (zG qG ((hdT l).text == zA) l).bind fun t l' =>
  if (hdT l).text == zA || (hdT l').text == [40]then(xT n (zG qO false) l').bind fun ps l'=>(xX d (qQd n .block) l').bind fun b l' =>
   .ok (.mk qC t.text t.num t.line t.col (t.kids++ps++[b])) l'
  else if (hdT l').text == [91]then(jL [[91]] l').bind fun _ l'=>(wQ l').bind fun m l'=>(jL [[93]] l').bind fun _ l'=>(jL [[59]] l').bind fun _ l'=>.ok (.mk t.kind t.text t.num t.line t.col (t.kids++[m])) l'
  else(jL [[59]] l').bind fun _ l'=>.ok t l'
theorem qKm{kind:List UInt8}{void:Bool}{l l':List Tok}{t:qQ}(h:zG kind void l=.ok t l'):t.kids.length=1:=by
 unfold zG at h;obtain⟨_,_,_,h⟩:=qXW h;obtain⟨_,_,_,h⟩:=qXW h;injection h with h1 h2;subst h1;rfl
theorem item_does(n:Nat)(d:Int)(hn:n<=900000)(he:yR 107)(he':yR 105)(hdec:∀ (void:Bool) (B:Nat) (l:List Tok) (w:World),vP B l d w->(void=true->(hdT l).text≠[])->zG qG void l≠.out->Calls prog 103 #[.pointer (some ⟨B,0,none⟩), .string ⟨#[103,108,111,98,97,108]⟩, .bool void] w (qXV B d w (zG qG void l)))(hpa:vM 105 (fun p=>#[p]) d (zG qO false))(hbl:vM 107 (fun p=>#[p]) (d+1) (qQd n .block (d+1))):vM 91 (fun p=>#[p]) d (yM n d):=by
 intro B l w h hno;obtain⟨t,r,rfl⟩:=h.ends.ne;have S0:=St.start h;have hBw:=S0.hB;have HNO:=hI hno;have S0:=hI S0;have hmf:=zT;have hft:=vS;have hfk:=yW;have HDE:=hI hdec;have HCO:=hI (qVY 105 n d (zG qO false) hn he' hpa);have HBL:=hI (wT 107 d (qQd n .block) he hbl);have HNU:=hI (qV7 d);clear he he' hpa hbl hdec;clear h hno;unfold jY at *;go_enter func91,ntmps91
 cases hv0:(t.text == zA);case false =>
  have H:=hI (wN B t r d zA _ S0.o.ps);rw[hv0]at H;go_wp2_with fail
  refine(H.o).mono ?_;rintro e w1 ⟨rfl,hb1⟩;have S1:=hI (S0.o.below hb1);clear S0;clear H hb1;have hcv:false=true->(hdT (t :: r)).text≠[]:=fun h=>by cases h
  have HD2:=hI (fun(B:Nat) (l:List Tok) (w:World) (h:vP B l d w) (hc:false=true->(hdT l).text≠[]) (ho:zG qG false l≠.out)=>HDE.o false B l w h hc ho);have hnoc:zG qG false (t :: r)≠.out:=fun e=>HNO.o (by simp only[bF,if_false,if_true,reduceIte,bN,bM,bO,bU,bP,bV,bW,bB,bA,bT,lN,lC,lA,yM,hv0,PR.bind,qX,e])
  have HC:=hI (HDE.o false B (t :: r) _ S1.o.ps hcv hnoc);have HNOC:=hI hnoc;clear hnoc;go_wp2_with fail
  refine(HC.o).mono ?_;intro e w2 hq;rcases hq.cases HNOC.o with⟨t2,l2,q2,n2,c2,he2,rfl,hb2,hP2,hg2⟩ | ⟨ln,c,code,he2,rfl,hg2⟩;rotate_left
  ·refine⟨rfl,?_⟩;have hbad:(yM n d) (t :: r)=.bad ln c code:=by simp only[bF,if_false,if_true,reduceIte,bN,bM,bO,bU,bP,bV,bW,bB,bA,bT,lN,lC,lA,yM,hv0,PR.bind,qX,he2]
   rw[hbad];exact S1.o.pan ⟨rfl,hg2⟩
  have hwN:w.1.size < w2.1.size:=(S1.o.call hP2 hg2).lt;have N2:=hI (NdX.put t2 (hb2.mono (lo':=w.1.size+1) S1.o.lt));have S2:=hI ((S1.o.call hP2 hg2).alloc (wD t2.kind t2.text t2.num t2.line t2.col (.slice q2 n2 c2)));have HE2:=hI he2;clear hq hb2 hP2 hg2 he2 HC HNOC S1;unfold qZ wD at *;have hk1:t2.kids.length=1:=qKm HE2.o;clear hcv HD2 HDE;obtain⟨t3,r3l,hlt3⟩:=S2.o.ps.ends.ne;subst hlt3;cases hp0:(t3.text == [40]);case false =>
   have H:=hI (wN B t3 r3l d [40] _ S2.o.ps);rw[hp0]at H;go_wp2_with fail
   refine(H.o).mono ?_;rintro e w3 ⟨rfl,hb3⟩;have S3:=hI (S2.o.below hb3);have N3:=hI (N2.o.below hb3);clear S2 N2;clear H hb3;cases hb0:(t3.text == [91]);case false =>
    have H:=hI (wN B t3 r3l d [91] _ S3.o.ps);rw[hb0]at H;go_wp2_with fail
    refine(H.o).mono ?_;rintro e w4 ⟨rfl,hb4⟩;have S4:=hI (S3.o.below hb4);have N4:=hI (N3.o.below hb4);clear S3 N3;clear H hb4;have H:=hI (xV (S:=w4.1.size) [[59]] S4.o.ps (by simp) (by simp) (by simp));simp only[List.map,List.length]at H;go_wp2_with fail
    refine(H.o).mono ?_;rintro e w5 (⟨l5,he5,rfl,hP5,hg5⟩ | ⟨ln,c,code,he5,rfl,hg5⟩);rotate_left
    ·refine⟨rfl,?_⟩;have hbad:(yM n d) (t :: r)=.bad ln c code:=by simp only[bF,if_false,if_true,reduceIte,bN,bM,bO,bU,bP,bV,bW,bB,bA,bT,lN,lC,lA,yM,hv0,hp0,hb0,PR.bind,qX,HE2.o,he5]
     rw[hbad];exact S4.o.pan ⟨rfl,hg5⟩
    have S5:=hI (S4.o.call hP5 hg5);have N5:=hI (N4.o.call hg5 (by omega));clear S4 N4;have HE5:=hI he5;clear H he5 hP5 hg5;have S9:=S5.o;have N9:=N5.o;have hs1:=S9.lt;have hs2:=N9.lt;try simp only[World.size_setCell,World.size_alloc]at hs1 hs2
    have hr:=S9.res;have⟨r0,r1',r2,r3,r4,r5,_⟩:=hr.a;have⟨g0,g1,g2,g3,g4,g5,_⟩:=hr.b;clear hr;have hq:=N9.nd;have⟨qn0,qn1,qn2,qn3,qn4,qn5,_⟩:=hq.a;clear hq;have HS9:=hI S9;have HN9:=hI N9;clear S9 N9 S5 N5;skip
    go_wp2
    refine bodyPost_ret (v:=qZ t2 (.slice q2 n2 c2)) (by simp[results,results91,go_sem,qZ,qQ.kind,qQ.text,qQ.num,qQ.line,qQ.col,qQ.kids,qY,qG,qC,qO,zB,zD,zX,qE,kIf,zS,qA,qV,qF,qD,qP,qW,qN,zW,zM,qL,qM,qT,zK,zL,qH,zA, *]) rfl ?_;have hgood:(yM n d) (t :: r)=.ok t2 l5:=by simp only[bF,if_false,if_true,reduceIte,bN,bM,bO,bU,bP,bV,bW,bB,bA,bT,lN,lC,lA,yM,hv0,hp0,hb0,PR.bind,qX,HE2.o,HE5.o]
    rw[hgood];exact HS9.o.fin (t:=t2) (HN9.o.bd.build fun g hg=>hg.1) _ _ _ _ _ _
   case true =>
    have H:=hI (wN B t3 r3l d [91] _ S3.o.ps);rw[hb0]at H;go_wp2_with fail
    refine(H.o).mono ?_;rintro e w4 ⟨rfl,hb4⟩;have S4:=hI (S3.o.below hb4);have N4:=hI (N3.o.below hb4);clear S3 N3;clear H hb4;have H:=hI (xV (S:=w4.1.size) [[91]] S4.o.ps (by simp) (by simp) (by simp));simp only[List.map,List.length]at H;go_wp2_with fail
    refine(H.o).mono ?_;rintro e w5 (⟨l5,he5,rfl,hP5,hg5⟩ | ⟨ln,c,code,he5,rfl,hg5⟩);rotate_left
    ·refine⟨rfl,?_⟩;have hbad:(yM n d) (t :: r)=.bad ln c code:=by simp only[bF,if_false,if_true,reduceIte,bN,bM,bO,bU,bP,bV,bW,bB,bA,bT,lN,lC,lA,yM,hv0,hp0,hb0,PR.bind,qX,HE2.o,he5]
     rw[hbad];exact S4.o.pan ⟨rfl,hg5⟩
    have S5:=hI (S4.o.call hP5 hg5);have N5:=hI (N4.o.call hg5 (by omega));clear S4 N4;have HE5:=hI he5;clear H he5 hP5 hg5;have hnoc:wQ l5≠.out:=fun e=>HNO.o (by simp only[bF,if_false,if_true,reduceIte,bN,bM,bO,bU,bP,bV,bW,bB,bA,bT,lN,lC,lA,yM,hv0,hp0,hb0,PR.bind,qX,HE2.o,HE5.o,e])
    have HNOC:=hI hnoc;clear hnoc;have S6d:=hI S5.o.drew;have N6d:=hI N5.o.drew;clear S5 N5;go_wp2_with fail
    have hcl:=N6d.o.nd.c5;refine wRg (S:=fun w'=>w'.cell? ⟨w2.1.size,5,none⟩=some (.slice q2 n2 c2)) 5 ?_;refine wTk 0 39 (.pointer (some ⟨w2.1.size,5,none⟩)) ?_ hcl ?_
    ·intro _ y;go_simp
    refine wTk 1 40 (.slice q2 n2 c2) ?_ hcl ?_
    ·intro _ y;go_simp
    refine wTk 2 41 (.pointer (some ⟨B,0,none⟩)) ?_ hcl ?_
    ·intro _ y;go_simp
    refine wOn 3 fun K hK=>?_
    go_simp;have HC:=HNU.o B l5 _ S6d.o.ps HNOC.o;refine HC.mono ?_;intro e w6a hq;rcases hq.cases HNOC.o with⟨t6,l6,q6,n6,c6,he6,rfl,hb6,hP6,hg6⟩ | ⟨ln,c,code,he6,rfl,hg6⟩;rotate_left
    ·refine⟨rfl,?_⟩;have hbad:(yM n d) (t :: r)=.bad ln c code:=by simp only[bF,if_false,if_true,reduceIte,bN,bM,bO,bU,bP,bV,bW,bB,bA,bT,lN,lC,lA,yM,hv0,hp0,hb0,PR.bind,qX,HE2.o,HE5.o,he6]
     rw[hbad];exact S6d.o.pan ⟨rfl,hg6⟩
    have S6:=hI (S6d.o.call hP6 hg6);have N6:=hI (N6d.o.call hg6 (by omega));have HB6:=hI hb6;have hbl:=N6d.o.own;have c6':=N6.o.nd.c5;have f6':=N6.o.nd.f 5 nL;have hs6:=N6.o.lt;have hsz5:=N6d.o.lt;have hsz6:=hg6.size;clear hP6 hg6 hb6 HC hq S6d N6d;unfold qZ;refine kK hK c6' ?_;clear hK K;refine wOn 4 fun K hK=>?_
    go_simp;refine kK hK (by go_simp) ?_;clear hK K;refine wOn 5 fun K hK=>?_
    refine qX6 (dd:=44) (t:=t6) (u:=.slice q6 n6 c6) _ _ rfl rfl N6.o.bd HB6.o (fun g hg=>⟨by omega,by omega⟩) (fun g hg=>(hbl g hg).2.2) hsz6 rfl rfl rfl (by rw[hk1];omega) (fun v7 w6 hb7 hg7=>?_);refine kD hK ?_;clear hK K;obtain⟨qq6,nn6,cc6,rfl⟩:=hb7.shape;have hff:=qKV S6.o N6.o hwN (Nat.lt_succ_self _) hb7 hg7;have hs7:w6.frozen? ⟨w2.1.size,5,none⟩=false:=((N6.o.nd.grown (World.grownBy_alloc w6a _ none) (by simp)).grown hg7 (fun e=>(hbl _ e.symm).2.1 rfl)).f 5 nL;have hd7:=((N6.o.nd.grown (World.grownBy_alloc w6a _ none) (by simp)).grown hg7 (fun e=>(hbl _ e.symm).2.1 rfl)).c5;have HFF:=hI hff;clear hff hb7 hg7 S6 N6 HB6 hbl hcl c6' f6' hsz5 hsz6;try simp only[Act.put,pZa,pZb,pZc]
    refine wOn 6 fun K hK=>?_
    go_simp;refine kD hK ?_;clear hK K;refine wOn 7 fun K hK=>?_
    go_simp;refine kD hK ?_;clear hK K;refine wDn ?_ _;clear hs7 hd7;have S6:=hI HFF.o.1;have N6:=hI HFF.o.2;have HE6:=hI he6;clear HFF he6 HNOC;have hszn:=N6.o.lt;simp only[World.size_setCell]at hszn;have H:=hI (xV (S:=w6.1.size) [[93]] S6.o.ps (by simp) (by simp) (by simp));simp only[List.map,List.length]at H;go_wp2_with fail
    refine(H.o).mono ?_;rintro e w7 (⟨l7,he7,rfl,hP7,hg7⟩ | ⟨ln,c,code,he7,rfl,hg7⟩);rotate_left
    ·refine⟨rfl,?_⟩;have hbad:(yM n d) (t :: r)=.bad ln c code:=by simp only[bF,if_false,if_true,reduceIte,bN,bM,bO,bU,bP,bV,bW,bB,bA,bT,lN,lC,lA,yM,hv0,hp0,hb0,PR.bind,qX,HE2.o,HE5.o,HE6.o,he7]
     rw[hbad];exact S6.o.pan ⟨rfl,hg7⟩
    have S7:=hI (S6.o.call hP7 hg7);have N7:=hI (N6.o.call hg7 (by omega));clear S6 N6;have HE7:=hI he7;clear H he7 hP7 hg7;have H:=hI (xV (S:=w7.1.size) [[59]] S7.o.ps (by simp) (by simp) (by simp));simp only[List.map,List.length]at H;go_wp2_with fail
    refine(H.o).mono ?_;rintro e w8 (⟨l8,he8,rfl,hP8,hg8⟩ | ⟨ln,c,code,he8,rfl,hg8⟩);rotate_left
    ·refine⟨rfl,?_⟩;have hbad:(yM n d) (t :: r)=.bad ln c code:=by simp only[bF,if_false,if_true,reduceIte,bN,bM,bO,bU,bP,bV,bW,bB,bA,bT,lN,lC,lA,yM,hv0,hp0,hb0,PR.bind,qX,HE2.o,HE5.o,HE6.o,HE7.o,he8]
     rw[hbad];exact S7.o.pan ⟨rfl,hg8⟩
    have S8:=hI (S7.o.call hP8 hg8);have N8:=hI (N7.o.call hg8 (by omega));clear S7 N7;have HE8:=hI he8;clear H he8 hP8 hg8;have S9:=S8.o;have N9:=N8.o;have hs1:=S9.lt;have hs2:=N9.lt;try simp only[World.size_setCell,World.size_alloc]at hs1 hs2
    have hr:=S9.res;have⟨r0,r1',r2,r3,r4,r5,_⟩:=hr.a;have⟨g0,g1,g2,g3,g4,g5,_⟩:=hr.b;clear hr;have hq:=N9.nd;have⟨qn0,qn1,qn2,qn3,qn4,qn5,_⟩:=hq.a;clear hq;have HS9:=hI S9;have HN9:=hI N9;clear S9 N9 S8 N8;skip
    go_wp2
    refine bodyPost_ret (v:=qZ (.mk t2.kind t2.text t2.num t2.line t2.col (t2.kids++[t6])) (.slice qq6 nn6 cc6)) (by simp[results,results91,go_sem,qZ,qQ.kind,qQ.text,qQ.num,qQ.line,qQ.col,qQ.kids,qY,qG,qC,qO,zB,zD,zX,qE,kIf,zS,qA,qV,qF,qD,qP,qW,qN,zW,zM,qL,qM,qT,zK,zL,qH,zA, *]) rfl ?_;have hgood:(yM n d) (t :: r)=.ok (.mk t2.kind t2.text t2.num t2.line t2.col (t2.kids++[t6])) l8:=by simp only[bF,if_false,if_true,reduceIte,bN,bM,bO,bU,bP,bV,bW,bB,bA,bT,lN,lC,lA,yM,hv0,hp0,hb0,PR.bind,qX,HE2.o,HE5.o,HE6.o,HE7.o,HE8.o]
    rw[hgood];exact HS9.o.fin (t:=(.mk t2.kind t2.text t2.num t2.line t2.col (t2.kids++[t6]))) (HN9.o.bd.build fun g hg=>hg.1) _ _ _ _ _ _
  case true =>
   have H:=hI (wN B t3 r3l d [40] _ S2.o.ps);rw[hp0]at H;go_wp2_with fail
   refine(H.o).mono ?_;rintro e w3 ⟨rfl,hb3⟩;have S3:=hI (S2.o.below hb3);have N3:=hI (N2.o.below hb3);clear S2 N2;clear H hb3;have hk0:=N3.o.nd.c0;have hkf:=N3.o.nd.f 0 nL;have S4:=hI (S3.o.setN hwN 0 (.string ⟨qC.toArray⟩));have N4:=hI (N3.o.setK qC);clear S3 N3;have hnoc:xT n (zG qO false) (t3 :: r3l)≠.out:=fun e=>HNO.o (by simp only[bF,if_false,if_true,reduceIte,bN,bM,bO,bU,bP,bV,bW,bB,bA,bT,lN,lC,lA,yM,hv0,hp0,PR.bind,qX,HE2.o,e])
   have HNOC:=hI hnoc;clear hnoc;have S5d:=hI S4.o.drew;have N5d:=hI N4.o.drew;clear S4 N4;go_wp2_with fail
   have hcl:=N5d.o.nd.c5;refine wRg (S:=fun w'=>w'.cell? ⟨w2.1.size,5,none⟩=some (.slice q2 n2 c2)) 6 ?_;refine wTk 0 16 (.pointer (some ⟨w2.1.size,5,none⟩)) ?_ hcl ?_
   ·intro _ y;go_simp
   refine wTk 1 17 (.slice q2 n2 c2) ?_ hcl ?_
   ·intro _ y;go_simp
   refine wTk 2 18 (.pointer (some ⟨B,0,none⟩)) ?_ hcl ?_
   ·intro _ y;go_simp
   refine wTk 3 19 (.pointer (some ⟨B,0,none⟩)) ?_ hcl ?_
   ·intro _ y;go_simp
   refine wTk 4 20 (.func (.func 105) #[.pointer (some ⟨B,0,none⟩)] #[]) ?_ hcl ?_
   ·intro _ y;go_simp
   refine wOn 5 fun K hK=>?_
   go_simp;refine(HCO.o B (t3 :: r3l) _ S5d.o.ps HNOC.o).mono ?_;intro e w5a hq;rcases hq.cases HNOC.o with⟨ts5,l5,q5,n5,c5,he5,rfl,hb5,hP5,hg5,hln5,hz5⟩ | ⟨ln,c,code,he5,rfl,hg5⟩;rotate_left
   ·refine⟨rfl,?_⟩;have hbad:(yM n d) (t :: r)=.bad ln c code:=by simp only[bF,if_false,if_true,reduceIte,bN,bM,bO,bU,bP,bV,bW,bB,bA,bT,lN,lC,lA,yM,hv0,hp0,PR.bind,qX,HE2.o,he5]
    rw[hbad];exact S5d.o.pan ⟨rfl,hg5⟩
   have S6:=hI (S5d.o.call hP5 hg5);have N6:=hI (N5d.o.call hg5 (by omega));have HB6:=hI hb5;have HZ6:=hI hz5;have hbl:=N5d.o.own;have c6':=N6.o.nd.c5;have hs6:=N6.o.lt;have hsz5:=N5d.o.lt;have hsz6:=hg5.size;have HE5:=hI he5;clear hP5 hg5 hb5 hz5 he5 hq S5d N5d;refine kK hK c6' ?_;clear hK K;refine wOn 6 fun K hK=>?_
   refine qVV (dd:=22) _ _ rfl rfl N6.o.bd HB6.o HZ6.o (fun g hg=>⟨by omega,by omega⟩) (fun g hg=>(hbl g hg).2.2) hsz6 rfl rfl (by rw[hk1];omega) (fun v7 w5 hb7 hg7=>?_);refine kD hK ?_;clear hK K;obtain⟨qq5,nn5,cc5,rfl⟩:=hb7.shape;have hff:=qYT S6.o N6.o hwN (Nat.lt_succ_self _) hb7 hg7;have hs7:w5.frozen? ⟨w2.1.size,5,none⟩=false:=(N6.o.nd.grown hg7 (fun e=>(hbl _ e.symm).2.1 rfl)).f 5 nL;have hd7:=(N6.o.nd.grown hg7 (fun e=>(hbl _ e.symm).2.1 rfl)).c5;have HFF:=hI hff;clear hff hb7 hg7 S6 N6 HB6 HZ6 hbl hcl c6' hsz5 hsz6;try simp only[Act.put,pZa,pZb,pZc]
   refine wOn 7 fun K hK=>?_
   go_simp;refine kD hK ?_;clear hK K;refine wOn 8 fun K hK=>?_
   go_simp;refine kD hK ?_;clear hK K;refine wDn ?_ _;clear hs7 hd7;have S5:=hI HFF.o.1;have N5:=hI HFF.o.2;clear HFF HNOC;have hnoc:xX d (qQd n .block) l5≠.out:=fun e=>HNO.o (by simp only[bF,if_false,if_true,reduceIte,bN,bM,bO,bU,bP,bV,bW,bB,bA,bT,lN,lC,lA,yM,hv0,hp0,PR.bind,qX,HE2.o,HE5.o,e])
   have HNOC:=hI hnoc;clear hnoc;have S6d:=hI S5.o.drew;have N6d:=hI N5.o.drew;clear S5 N5;go_wp2_with fail
   have hcl:=N6d.o.nd.c5;refine wRg (S:=fun w'=>w'.cell? ⟨w2.1.size,5,none⟩=some (.slice qq5 nn5 cc5)) 7 ?_;refine wTk 0 24 (.pointer (some ⟨w2.1.size,5,none⟩)) ?_ hcl ?_
   ·intro _ y;go_simp
   refine wTk 1 25 (.slice qq5 nn5 cc5) ?_ hcl ?_
   ·intro _ y;go_simp
   refine wTk 2 26 (.pointer (some ⟨B,0,none⟩)) ?_ hcl ?_
   ·intro _ y;go_simp
   refine wTk 3 27 (.pointer (some ⟨B,0,none⟩)) ?_ hcl ?_
   ·intro _ y;go_simp
   refine wTk 4 28 (.func (.func 107) #[.pointer (some ⟨B,0,none⟩)] #[]) ?_ hcl ?_
   ·intro _ y;go_simp
   refine wOn 5 fun K hK=>?_
   go_simp;have HC:=HBL.o B l5 _ S6d.o.ps HNOC.o;refine HC.mono ?_;intro e w6a hq;rcases hq.cases HNOC.o with⟨t6,l6,q6,n6,c6,he6,rfl,hb6,hP6,hg6⟩ | ⟨ln,c,code,he6,rfl,hg6⟩;rotate_left
   ·refine⟨rfl,?_⟩;have hbad:(yM n d) (t :: r)=.bad ln c code:=by simp only[bF,if_false,if_true,reduceIte,bN,bM,bO,bU,bP,bV,bW,bB,bA,bT,lN,lC,lA,yM,hv0,hp0,PR.bind,qX,HE2.o,HE5.o,he6]
    rw[hbad];exact S6d.o.pan ⟨rfl,hg6⟩
   have S6:=hI (S6d.o.call hP6 hg6);have N6:=hI (N6d.o.call hg6 (by omega));have HB6:=hI hb6;have hbl:=N6d.o.own;have c6':=N6.o.nd.c5;have f6':=N6.o.nd.f 5 nL;have hs6:=N6.o.lt;have hsz5:=N6d.o.lt;have hsz6:=hg6.size;clear hP6 hg6 hb6 HC hq S6d N6d;unfold qZ;refine kK hK c6' ?_;clear hK K;refine wOn 6 fun K hK=>?_
   go_simp;refine kK hK (by go_simp) ?_;clear hK K;refine wOn 7 fun K hK=>?_
   refine qX6 (dd:=31) (t:=t6) (u:=.slice q6 n6 c6) _ _ rfl rfl N6.o.bd HB6.o (fun g hg=>⟨by omega,by omega⟩) (fun g hg=>(hbl g hg).2.2) hsz6 rfl rfl rfl (by rw[lL,hk1];omega) (fun v7 w6 hb7 hg7=>?_);refine kD hK ?_;clear hK K;obtain⟨qq6,nn6,cc6,rfl⟩:=hb7.shape;have hff:=qKV S6.o N6.o hwN (Nat.lt_succ_self _) hb7 hg7;have hs7:w6.frozen? ⟨w2.1.size,5,none⟩=false:=((N6.o.nd.grown (World.grownBy_alloc w6a _ none) (by simp)).grown hg7 (fun e=>(hbl _ e.symm).2.1 rfl)).f 5 nL;have hd7:=((N6.o.nd.grown (World.grownBy_alloc w6a _ none) (by simp)).grown hg7 (fun e=>(hbl _ e.symm).2.1 rfl)).c5;have HFF:=hI hff;clear hff hb7 hg7 S6 N6 HB6 hbl hcl c6' f6' hsz5 hsz6;try simp only[Act.put,pZa,pZb,pZc]
   refine wOn 8 fun K hK=>?_
   go_simp;refine kD hK ?_;clear hK K;refine wOn 9 fun K hK=>?_
   go_simp;refine kD hK ?_;clear hK K;refine wDn ?_ _;clear hs7 hd7;have S6:=hI HFF.o.1;have N6:=hI HFF.o.2;have HE6:=hI he6;clear HFF he6 HNOC;have hszn:=N6.o.lt;simp only[World.size_setCell]at hszn;have S9:=S6.o;have N9:=N6.o;have hs1:=S9.lt;have hs2:=N9.lt;try simp only[World.size_setCell,World.size_alloc]at hs1 hs2
   have hr:=S9.res;have⟨r0,r1',r2,r3,r4,r5,_⟩:=hr.a;have⟨g0,g1,g2,g3,g4,g5,_⟩:=hr.b;clear hr;have hq:=N9.nd;have⟨qn0,qn1,qn2,qn3,qn4,qn5,_⟩:=hq.a;clear hq;have HS9:=hI S9;have HN9:=hI N9;clear S9 N9 S6 N6;unfold qC at qn0;go_wp2
   refine bodyPost_ret (v:=qZ (.mk qC t2.text t2.num t2.line t2.col ((t2.kids++ts5)++[t6])) (.slice qq6 nn6 cc6)) (by simp[results,results91,go_sem,qZ,qQ.kind,qQ.text,qQ.num,qQ.line,qQ.col,qQ.kids,qY,qG,qC,qO,zB,zD,zX,qE,kIf,zS,qA,qV,qF,qD,qP,qW,qN,zW,zM,qL,qM,qT,zK,zL,qH,zA, *]) rfl ?_;have hgood:(yM n d) (t :: r)=.ok (.mk qC t2.text t2.num t2.line t2.col ((t2.kids++ts5)++[t6])) l6:=by simp only[bF,if_false,if_true,reduceIte,bN,bM,bO,bU,bP,bV,bW,bB,bA,bT,lN,lC,lA,yM,hv0,hp0,PR.bind,qX,HE2.o,HE5.o,HE6.o]
   rw[hgood];exact HS9.o.fin (t:=(.mk qC t2.text t2.num t2.line t2.col ((t2.kids++ts5)++[t6]))) (HN9.o.bd.build fun g hg=>hg.1) _ _ _ _ _ _
 case true =>
  have H:=hI (wN B t r d zA _ S0.o.ps);rw[hv0]at H;go_wp2_with fail
  refine(H.o).mono ?_;rintro e w1 ⟨rfl,hb1⟩;have S1:=hI (S0.o.below hb1);clear S0;clear H hb1;have hcv:true=true->(hdT (t :: r)).text≠[]:=fun _ e=>by rw[show(hdT (t :: r)).text=t.text from rfl]at e;rw[e]at hv0;exact absurd hv0 (by decide)
  have HD2:=hI (fun(B:Nat) (l:List Tok) (w:World) (h:vP B l d w) (hc:true=true->(hdT l).text≠[]) (ho:zG qG true l≠.out)=>HDE.o true B l w h hc ho);have hnoc:zG qG true (t :: r)≠.out:=fun e=>HNO.o (by simp only[bF,if_false,if_true,reduceIte,bN,bM,bO,bU,bP,bV,bW,bB,bA,bT,lN,lC,lA,yM,hv0,PR.bind,qX,e])
  have HC:=hI (HDE.o true B (t :: r) _ S1.o.ps hcv hnoc);have HNOC:=hI hnoc;clear hnoc;go_wp2_with fail
  refine(HC.o).mono ?_;intro e w2 hq;rcases hq.cases HNOC.o with⟨t2,l2,q2,n2,c2,he2,rfl,hb2,hP2,hg2⟩ | ⟨ln,c,code,he2,rfl,hg2⟩;rotate_left
  ·refine⟨rfl,?_⟩;have hbad:(yM n d) (t :: r)=.bad ln c code:=by simp only[bF,if_false,if_true,reduceIte,bN,bM,bO,bU,bP,bV,bW,bB,bA,bT,lN,lC,lA,yM,hv0,PR.bind,qX,he2]
   rw[hbad];exact S1.o.pan ⟨rfl,hg2⟩
  have hwN:w.1.size < w2.1.size:=(S1.o.call hP2 hg2).lt;have N2:=hI (NdX.put t2 (hb2.mono (lo':=w.1.size+1) S1.o.lt));have S2:=hI ((S1.o.call hP2 hg2).alloc (wD t2.kind t2.text t2.num t2.line t2.col (.slice q2 n2 c2)));have HE2:=hI he2;clear hq hb2 hP2 hg2 he2 HC HNOC S1;unfold qZ wD at *;have hk1:t2.kids.length=1:=qKm HE2.o;clear hcv HD2 HDE;have hk0:=N2.o.nd.c0;have hkf:=N2.o.nd.f 0 nL;have S3:=hI (S2.o.setN hwN 0 (.string ⟨qC.toArray⟩));have N3:=hI (N2.o.setK qC);clear S2 N2;rw[put_kind]at S3 N3;have hnoc:xT n (zG qO false) l2≠.out:=fun e=>HNO.o (by simp only[bF,if_false,if_true,reduceIte,bN,bM,bO,bU,bP,bV,bW,bB,bA,bT,lN,lC,lA,yM,hv0,PR.bind,qX,HE2.o,e])
  have HNOC:=hI hnoc;clear hnoc;have S4d:=hI S3.o.drew;have N4d:=hI N3.o.drew;clear S3 N3;go_wp2_with fail
  have hcl:=N4d.o.nd.c5;refine wRg (S:=fun w'=>w'.cell? ⟨w2.1.size,5,none⟩=some (.slice q2 n2 c2)) 6 ?_;refine wTk 0 16 (.pointer (some ⟨w2.1.size,5,none⟩)) ?_ hcl ?_
  ·intro _ y;go_simp
  refine wTk 1 17 (.slice q2 n2 c2) ?_ hcl ?_
  ·intro _ y;go_simp
  refine wTk 2 18 (.pointer (some ⟨B,0,none⟩)) ?_ hcl ?_
  ·intro _ y;go_simp
  refine wTk 3 19 (.pointer (some ⟨B,0,none⟩)) ?_ hcl ?_
  ·intro _ y;go_simp
  refine wTk 4 20 (.func (.func 105) #[.pointer (some ⟨B,0,none⟩)] #[]) ?_ hcl ?_
  ·intro _ y;go_simp
  refine wOn 5 fun K hK=>?_
  go_simp;refine(HCO.o B l2 _ S4d.o.ps HNOC.o).mono ?_;intro e w4a hq;rcases hq.cases HNOC.o with⟨ts4,l4,q4,n4,c4,he4,rfl,hb4,hP4,hg4,hln4,hz4⟩ | ⟨ln,c,code,he4,rfl,hg4⟩;rotate_left
  ·refine⟨rfl,?_⟩;have hbad:(yM n d) (t :: r)=.bad ln c code:=by simp only[bF,if_false,if_true,reduceIte,bN,bM,bO,bU,bP,bV,bW,bB,bA,bT,lN,lC,lA,yM,hv0,PR.bind,qX,HE2.o,he4]
   rw[hbad];exact S4d.o.pan ⟨rfl,hg4⟩
  have S6:=hI (S4d.o.call hP4 hg4);have N6:=hI (N4d.o.call hg4 (by omega));have HB6:=hI hb4;have HZ6:=hI hz4;have hbl:=N4d.o.own;have c6':=N6.o.nd.c5;have hs6:=N6.o.lt;have hsz5:=N4d.o.lt;have hsz6:=hg4.size;have HE4:=hI he4;clear hP4 hg4 hb4 hz4 he4 hq S4d N4d;refine kK hK c6' ?_;clear hK K;refine wOn 6 fun K hK=>?_
  refine qVV (dd:=22) _ _ rfl rfl N6.o.bd HB6.o HZ6.o (fun g hg=>⟨by omega,by omega⟩) (fun g hg=>(hbl g hg).2.2) hsz6 rfl rfl (by rw[hk1];omega) (fun v7 w4 hb7 hg7=>?_);refine kD hK ?_;clear hK K;obtain⟨qq4,nn4,cc4,rfl⟩:=hb7.shape;have hff:=qYT S6.o N6.o hwN (Nat.lt_succ_self _) hb7 hg7;have hs7:w4.frozen? ⟨w2.1.size,5,none⟩=false:=(N6.o.nd.grown hg7 (fun e=>(hbl _ e.symm).2.1 rfl)).f 5 nL;have hd7:=(N6.o.nd.grown hg7 (fun e=>(hbl _ e.symm).2.1 rfl)).c5;have HFF:=hI hff;clear hff hb7 hg7 S6 N6 HB6 HZ6 hbl hcl c6' hsz5 hsz6;try simp only[Act.put,pZa,pZb,pZc]
  refine wOn 7 fun K hK=>?_
  go_simp;refine kD hK ?_;clear hK K;refine wOn 8 fun K hK=>?_
  go_simp;refine kD hK ?_;clear hK K;refine wDn ?_ _;clear hs7 hd7;have S4:=hI HFF.o.1;have N4:=hI HFF.o.2;clear HFF HNOC;have hnoc:xX d (qQd n .block) l4≠.out:=fun e=>HNO.o (by simp only[bF,if_false,if_true,reduceIte,bN,bM,bO,bU,bP,bV,bW,bB,bA,bT,lN,lC,lA,yM,hv0,PR.bind,qX,HE2.o,HE4.o,e])
  have HNOC:=hI hnoc;clear hnoc;have S5d:=hI S4.o.drew;have N5d:=hI N4.o.drew;clear S4 N4;go_wp2_with fail
  have hcl:=N5d.o.nd.c5;refine wRg (S:=fun w'=>w'.cell? ⟨w2.1.size,5,none⟩=some (.slice qq4 nn4 cc4)) 7 ?_;refine wTk 0 24 (.pointer (some ⟨w2.1.size,5,none⟩)) ?_ hcl ?_
  ·intro _ y;go_simp
  refine wTk 1 25 (.slice qq4 nn4 cc4) ?_ hcl ?_
  ·intro _ y;go_simp
  refine wTk 2 26 (.pointer (some ⟨B,0,none⟩)) ?_ hcl ?_
  ·intro _ y;go_simp
  refine wTk 3 27 (.pointer (some ⟨B,0,none⟩)) ?_ hcl ?_
  ·intro _ y;go_simp
  refine wTk 4 28 (.func (.func 107) #[.pointer (some ⟨B,0,none⟩)] #[]) ?_ hcl ?_
  ·intro _ y;go_simp
  refine wOn 5 fun K hK=>?_
  go_simp;have HC:=HBL.o B l4 _ S5d.o.ps HNOC.o;refine HC.mono ?_;intro e w5a hq;rcases hq.cases HNOC.o with⟨t5,l5,q5,n5,c5,he5,rfl,hb6,hP6,hg6⟩ | ⟨ln,c,code,he5,rfl,hg6⟩;rotate_left
  ·refine⟨rfl,?_⟩;have hbad:(yM n d) (t :: r)=.bad ln c code:=by simp only[bF,if_false,if_true,reduceIte,bN,bM,bO,bU,bP,bV,bW,bB,bA,bT,lN,lC,lA,yM,hv0,PR.bind,qX,HE2.o,HE4.o,he5]
   rw[hbad];exact S5d.o.pan ⟨rfl,hg6⟩
  have S6:=hI (S5d.o.call hP6 hg6);have N6:=hI (N5d.o.call hg6 (by omega));have HB6:=hI hb6;have hbl:=N5d.o.own;have c6':=N6.o.nd.c5;have f6':=N6.o.nd.f 5 nL;have hs6:=N6.o.lt;have hsz5:=N5d.o.lt;have hsz6:=hg6.size;clear hP6 hg6 hb6 HC hq S5d N5d;unfold qZ;refine kK hK c6' ?_;clear hK K;refine wOn 6 fun K hK=>?_
  go_simp;refine kK hK (by go_simp) ?_;clear hK K;refine wOn 7 fun K hK=>?_
  refine qX6 (dd:=31) (t:=t5) (u:=.slice q5 n5 c5) _ _ rfl rfl N6.o.bd HB6.o (fun g hg=>⟨by omega,by omega⟩) (fun g hg=>(hbl g hg).2.2) hsz6 rfl rfl rfl (by rw[lL,hk1];omega) (fun v7 w5 hb7 hg7=>?_);refine kD hK ?_;clear hK K;obtain⟨qq5,nn5,cc5,rfl⟩:=hb7.shape;have hff:=qKV S6.o N6.o hwN (Nat.lt_succ_self _) hb7 hg7;have hs7:w5.frozen? ⟨w2.1.size,5,none⟩=false:=((N6.o.nd.grown (World.grownBy_alloc w5a _ none) (by simp)).grown hg7 (fun e=>(hbl _ e.symm).2.1 rfl)).f 5 nL;have hd7:=((N6.o.nd.grown (World.grownBy_alloc w5a _ none) (by simp)).grown hg7 (fun e=>(hbl _ e.symm).2.1 rfl)).c5;have HFF:=hI hff;clear hff hb7 hg7 S6 N6 HB6 hbl hcl c6' f6' hsz5 hsz6;try simp only[Act.put,pZa,pZb,pZc]
  refine wOn 8 fun K hK=>?_
  go_simp;refine kD hK ?_;clear hK K;refine wOn 9 fun K hK=>?_
  go_simp;refine kD hK ?_;clear hK K;refine wDn ?_ _;clear hs7 hd7;have S5:=hI HFF.o.1;have N5:=hI HFF.o.2;have HE5:=hI he5;clear HFF he5 HNOC;have hszn:=N5.o.lt;simp only[World.size_setCell]at hszn;have S9:=S5.o;have N9:=N5.o;have hs1:=S9.lt;have hs2:=N9.lt;try simp only[World.size_setCell,World.size_alloc]at hs1 hs2
  have hr:=S9.res;have⟨r0,r1',r2,r3,r4,r5,_⟩:=hr.a;have⟨g0,g1,g2,g3,g4,g5,_⟩:=hr.b;clear hr;have hq:=N9.nd;have⟨qn0,qn1,qn2,qn3,qn4,qn5,_⟩:=hq.a;clear hq;have HS9:=hI S9;have HN9:=hI N9;clear S9 N9 S5 N5;unfold qC at qn0;go_wp2
  refine bodyPost_ret (v:=qZ (.mk qC t2.text t2.num t2.line t2.col ((t2.kids++ts4)++[t5])) (.slice qq5 nn5 cc5)) (by simp[results,results91,go_sem,qZ,qQ.kind,qQ.text,qQ.num,qQ.line,qQ.col,qQ.kids,qY,qG,qC,qO,zB,zD,zX,qE,kIf,zS,qA,qV,qF,qD,qP,qW,qN,zW,zM,qL,qM,qT,zK,zL,qH,zA, *]) rfl ?_;have hgood:(yM n d) (t :: r)=.ok (.mk qC t2.text t2.num t2.line t2.col ((t2.kids++ts4)++[t5])) l5:=by simp only[bF,if_false,if_true,reduceIte,bN,bM,bO,bU,bP,bV,bW,bB,bA,bT,lN,lC,lA,yM,hv0,PR.bind,qX,HE2.o,HE4.o,HE5.o]
  rw[hgood];exact HS9.o.fin (t:=(.mk qC t2.text t2.num t2.line t2.col ((t2.kids++ts4)++[t5]))) (HN9.o.bd.build fun g hg=>hg.1) _ _ _ _ _ _
def ProgRel(n:Nat)(R:PR (List qQ))(w:World)(B N:Nat)(ln c:Int)(k:Nat)(wr:World):Prop :=
 ∃ acc l v,St w B l 0 wr/\Nd N qY [] 0 ln c v acc wr/\vI (fun u=>u.kind == 3) (qZe n) k acc l=R/\acc.length+k<=n
theorem qUW(n:Nat)(hn:n<=900000)(hit:vM 91 (fun p=>#[p]) 0 (qZe n)):vM 74 (fun p=>#[p]) 0 (xW n):=by
 intro B l w h hno;obtain⟨t,r,rfl⟩:=h.ends.ne;have S0:=St.start h;have H:=hI (kY B t r 0 _ S0.ps);have HN:=hI (jI t ⟨#[112,114,111,103,114,97,109]⟩ ⟨#[]⟩);have HS:=hI S0;have hno3:vI (fun u=>u.kind == 3) (qZe n) n [] (t :: r)≠.out:=qWG hno;have HNO3:=hI hno3;have HIT:=hI hit;have hfk:=yW;clear h S0 hno hit hno3;unfold jY at *;go_enter func74,ntmps74
 go_wp2_with fail
 refine(H.o).mono ?_;rintro e w1 ⟨rfl,hb1⟩;have S1:=hI (HS.o.below hb1);clear H HS hb1;go_wp2_with fail
 refine(HN.o _).mono ?_;rintro e w2 ⟨rfl,hb2⟩;have S3:=hI ((S1.o.below hb2).alloc (wD qY [] 0 t.line t.col (.slice none 0 0)));have N3:=hI (Nd.new qY [] 0 t.line t.col w2);have hwN:w.1.size < w2.1.size:=(S1.o.below hb2).lt;have hBw:=S3.o.hB;clear S1 hb2 HN;unfold wD qY at *;go_wp2_with fail
 go_loopg [] n (fun k wr=>ProgRel n (vI (fun u=>u.kind == 3) (qZe n) n [] (t :: r)) w B w2.1.size t.line t.col k wr)
 case atStart=>exact⟨[],t :: r,_,S3.o,N3.o,rfl,by simp⟩
 case round =>
  obtain⟨acc,l1,v,S,N,hm,hlen⟩:=hrel;obtain⟨t1,r1,rfl⟩:=S.ps.ends.ne;obtain⟨q,vn,vc,rfl⟩:=N.bd.shape;have HA:=hI (kY B t1 r1 0 wr S.ps);have HS:=hI S;have HN:=hI N;have HM:=hI hm;clear S N hm S3 N3;cases gk with
  | zero=>exact absurd HM.o.symm HNO3.o
  | succ m =>
  by_cases he:t1.kind=3
  ·have heb:(t1.kind == 3)=true:=by simpa using he
   have heb':(t1.kind != 3)=false:=by simpa using he
   have hpm:vI (fun u=>u.kind == 3) (qZe n) (m+1) acc (t1 :: r1)=.ok acc (t1 :: r1):=by
    rw[vI];simp only[qX,heb,if_true]
   have HPM:=hI hpm;clear hpm he;go_wp2_with fail
   refine(HA.o).mono ?_;rintro e w4 ⟨rfl,hb4⟩;unfold vT xA;have S9:=HS.o.below hb4;have N9:=HN.o.below hb4;have hs1:=S9.lt;have hs2:=N9.lt;have hr:=S9.res;have⟨r0,r1',r2,r3,r4,r5,_⟩:=hr.a;have⟨g0,g1,g2,g3,g4,g5,_⟩:=hr.b;clear hr;have hq:=N9.nd;have⟨qn0,qn1,qn2,qn3,qn4,qn5,_⟩:=hq.a;clear hq;have HS9:=hI S9;have HN9:=hI N9;clear S9 N9 hb4 HS HN HA;unfold qY at qn0;go_wp2
   refine bodyPost_ret (v:=qZ (.mk qY [] 0 t.line t.col acc) (.slice q vn vc)) (by simp[results,results74,go_sem,qZ,qQ.kind,qQ.text,qQ.num,qQ.line,qQ.col,qQ.kids,qY,qG,qC,qO,zB,zD,zX,qE,kIf,zS,qA,qV,qF,qD,qP,qW,qN,zW,zM,qL,qM,qT,zK,zL,qH,zA, *]) rfl ?_;have:xW n (t :: r)=.ok (.mk qY [] 0 t.line t.col acc) (t1 :: r1):=bind_ok (HM.o.symm.trans HPM.o);rw[this];exact HS9.o.fin (HN9.o.bd.mono (by omega)) _ _ _ _ _ _
  ·have heb:(t1.kind == 3)=false:=by simpa using he
   have heb':(t1.kind != 3)=true:=by simpa using he
   have hpm:vI (fun u=>u.kind == 3) (qZe n) (m+1) acc (t1 :: r1)=(qZe n (t1 :: r1)).bind fun t l=>vI (fun u=>u.kind == 3) (qZe n) m (acc++[t]) l:=by
    rw[vI];simp only[qX,heb,bF,if_false]
   have hno4:qZe n (t1 :: r1)≠.out:=fun e=>HNO3.o (by rw[<-HM.o,hpm,e];rfl)
   have HPM:=hI hpm;have HNOC:=hI hno4;clear hpm hno4 he;go_wp2_with fail
   refine(HA.o).mono ?_;rintro e w5 ⟨rfl,hb5⟩;have S5:=hI (HS.o.below hb5).drew;have N5:=hI (HN.o.below hb5).drew;clear hb5 HS HN HA;unfold vT xA;go_wp2_with fail
   have hcl:=N5.o.nd.c5;refine wRg (S:=fun w'=>w'.cell? ⟨w2.1.size,5,none⟩=some (.slice q vn vc)) 5 ?_;refine wTk 0 11 (.pointer (some ⟨w2.1.size,5,none⟩)) ?_ hcl ?_
   ·intro _ y;go_simp
   refine wTk 1 12 (.slice q vn vc) ?_ hcl ?_
   ·intro _ y;go_simp
   refine wTk 2 13 (.pointer (some ⟨B,0,none⟩)) ?_ hcl ?_
   ·intro _ y;go_simp
   refine wOn 3 fun K hK=>?_
   go_simp;have HC:=HIT.o B (t1 :: r1) _ S5.o.ps HNOC.o;refine HC.mono ?_;intro e w6 hq;rcases hq.cases HNOC.o with⟨t6,l6,q6,n6,c6,he6,rfl,hb6,hP6,hg6⟩ | ⟨ln,c,code,he6,rfl,hg6⟩
   ·have S6:=hI (S5.o.call hP6 hg6);have N6:=hI (N5.o.call hg6 (by omega));have HB6:=hI hb6;have hbl:=N5.o.bd.lt;have c6':=N6.o.nd.c5;have f6':=N6.o.nd.f 5 nL;have hs6:=N6.o.lt;have hsz5:=N5.o.lt;have hsz6:=hg6.size;clear hP6 hg6 hb6 HC hq S5 N5;unfold qZ;refine kK hK c6' ?_;clear hK K;refine wOn 4 fun K hK=>?_
    go_simp;refine kK hK (by go_simp) ?_;clear hK K;refine wOn 5 fun K hK=>?_
    refine qQq (dd:=16) (t:=t6) (u:=.slice q6 n6 c6) _ _ rfl rfl N6.o.bd HB6.o (by omega) (fun g hg=>(hbl g hg).2) hsz6 rfl rfl rfl (by omega) (fun v7 w7 hb7 hg7=>?_);refine kD hK ?_;clear hK K;obtain⟨q7,n7,c7,rfl⟩:=hb7.shape;have hff:=qZ8 S6.o N6.o hwN hb7 hg7;have hs7:w7.frozen? ⟨w2.1.size,5,none⟩=false:=((N6.o.nd.grown (World.grownBy_alloc w6 _ none) (by simp)).grown hg7 (fun e=>by have:=(hbl _ e.symm).1;omega)).f 5 nL;have hd7:=((N6.o.nd.grown (World.grownBy_alloc w6 _ none) (by simp)).grown hg7 (fun e=>by have:=(hbl _ e.symm).1;omega)).c5;have HFF:=hI hff;clear hff hb7 hg7 S6 N6 HB6 hbl hcl c6' f6' hsz5 hsz6;try simp only[Act.put,pZa,pZb,pZc]
    refine wOn 6 fun K hK=>?_
    go_simp;refine kD hK ?_;clear hK K;refine wOn 7 fun K hK=>?_
    go_simp;refine kD hK ?_;clear hK K;refine wDn ?_ _;clear hs7 hd7;go_wp2
    go_roundg m
    case measure=>omega
    case rel=>exact⟨acc++[t6],l6,_,HFF.o.1,HFF.o.2,by rw[<-HM.o,HPM.o,he6];rfl,by simp;omega⟩
   ·refine⟨rfl,?_⟩;have hbad:xW n (t :: r)=.bad ln c code:=qXl (HM.o.symm.trans (HPM.o.trans (qXl he6)));rw[hbad];exact S5.o.pan ⟨rfl,hg6⟩
theorem qLV(p q:Addr)(w:World) :
 CallsD prog 73 #[.pointer (some p), .pointer (some q)] .returning w fun e u' w'=>e=.returned (.tuple #[])/\u'=.returning/\w'=w:=by
 refine callsD_of_wpS func73 rfl fun c₀ cs hu=>?_
 apply wpS_seq;apply wpS_region;simp[wpOpsS,go_sem,recoverD,hu,ntmps73,Exit.thenS];refine wpS_of_wp ?_;change Code.wp _ _ _ { tmps:=#[.pointer (some p), .pointer (some q), .nilIface, .nilIface,undef,undef,undef,undef,undef],defers:=[] } w;generalize hQ:(fun e a' w'=>bodyPostS prog f73 c₀ cs (fun e u' w'=>e=Ending.returned (.tuple #[])/\u'=FrameMode.returning/\w'=w) e a' (c₀ :: cs) w')=Q;go_wp2
 rw[<-hQ];refine⟨rfl, .returning,?_, .tuple #[],by simp[results,results73],rfl,rfl,rfl⟩;cases c₀;simp_all
theorem qUD(v:Value)(w:World):(Instr.typeAssert (.iface 110 v) 20 110 false).run prog w=.ok v w:=by kernel_rfl
def Caught(b c:Nat)(ln co code:Int)(w w':World):Prop :=
 zI b [] [] 0 0 0 (.slice none 0 0) w'/\w'.cell? ⟨c,0,none⟩=some (.int .i64 ln)/\w'.cell? ⟨c,1,none⟩=some (.int .i64 co)/\w'.cell? ⟨c,2,none⟩=some (.int .i64 code)/\∀ (w0:World) (r:Option Nat),w0.grownBy w r->w0.1.size<=b->w0.1.size<=c->w0.grownBy w' r
theorem zI.zset{b:Nat}{w:World}(h:zI b [] [] 0 0 0 (.slice none 0 0) w){c:Nat}(hne:¬b=c)(o:Nat)(v:Value):zI b [] [] 0 0 0 (.slice none 0 0) (w.setCell ⟨c,o,none⟩ v):=h.grown (jM w c o v) (by simpa using hne)
theorem zsix{b:Nat}{w:World}(h:zI b [] [] 0 0 0 (.slice none 0 0) w):zI b [] [] 0 0 0 (.slice none 0 0) (six w b (.string ⟨#[]⟩) (.string ⟨#[]⟩) (.int .u64 0) (.int .i64 0) (.int .i64 0) (.slice none 0 0)):=by
 have⟨h0,h1,h2,h3,h4,h5,_⟩:=h.a;have hf:=h.f;unfold six;constructor
 case f=>intro k hk;have:=hf k hk;simp[go_sem, *]
 all_goals simp[go_sem, *]
theorem qLW{b c:Nat}{ln co code x y z:Int}{w:World}(hb:zI b [] [] 0 0 0 (.slice none 0 0) w)(hne:¬b=c)(hc0:w.cell? ⟨c,0,none⟩=some (.int .i64 x))(hc1:w.cell? ⟨c,1,none⟩=some (.int .i64 y))(hc2:w.cell? ⟨c,2,none⟩=some (.int .i64 z)) :
 Caught b c ln co code w ((((six w b (.string ⟨#[]⟩) (.string ⟨#[]⟩) (.int .u64 0) (.int .i64 0) (.int .i64 0) (.slice none 0 0)).setCell ⟨c,0,none⟩ (.int .i64 ln)).setCell ⟨c,1,none⟩ (.int .i64 co)).setCell ⟨c,2,none⟩ (.int .i64 code)).drew:=by
 have hg:=vQ w b (.string ⟨#[]⟩) (.string ⟨#[]⟩) (.int .u64 0) (.int .i64 0) (.int .i64 0) (.slice none 0 0);have d0:=hg.cell hc0 (by simp;omega);have d1:=hg.cell hc1 (by simp;omega);have d2:=hg.cell hc2 (by simp;omega);refine⟨((((zsix hb).zset hne _ _).zset hne _ _).zset hne _ _).below (Below.refl _ _).drew,?_,?_,?_,fun w0 r h h1 h2=>?_⟩
 ·simp[go_sem, *]
 ·simp[go_sem, *]
 ·simp[go_sem, *]
 ·exact vX (xR (xR (xR (qQU h h1 _ _ _ _ _ _) h2 _ _) h2 _ _) h2 _ _)
theorem qWj(b c:Nat)(ln co code x y z:Int)(w:World)(hb:zI b [] [] 0 0 0 (.slice none 0 0) w)(hc0:w.cell? ⟨c,0,none⟩=some (.int .i64 x))(hc1:w.cell? ⟨c,1,none⟩=some (.int .i64 y))(hc2:w.cell? ⟨c,2,none⟩=some (.int .i64 z))(hf0:w.frozen? ⟨c,0,none⟩=false)(hf1:w.frozen? ⟨c,1,none⟩=false)(hf2:w.frozen? ⟨c,2,none⟩=false)(hne:¬b=c) :
 CallsD prog 73 #[.pointer (some ⟨b,0,none⟩), .pointer (some ⟨c,0,none⟩)] (.panicking [{ v:=qXo ln co code,recovered:=false }]) w fun e u' w' =>
  e=.returned (.tuple #[])/\u'=.panicking [{ v:=qXo ln co code,recovered:=true }]/\Caught b c ln co code w w':=by
 unfold qXo;refine callsD_of_wpS func73 rfl fun c₀ cs hu=>?_
 apply wpS_seq;apply wpS_region;simp[wpOpsS,go_sem,recoverD,hu,ntmps73,Exit.thenS];refine wpS_of_wp ?_;change Code.wp _ _ _ { tmps:=#[.pointer (some ⟨b,0,none⟩), .pointer (some ⟨c,0,none⟩), .iface 110 (.agg #[.int .i64 ln, .int .i64 co, .int .i64 code]), .iface 110 (.agg #[.int .i64 ln, .int .i64 co, .int .i64 code]),undef,undef,undef,undef,undef],defers:=[] } w;have⟨r0,r1,r2,r3,r4,r5,_⟩:=hb.a;have⟨g0,g1,g2,g3,g4,g5,_⟩:=hb.b;have hta:=qUD;go_wp2
 go_region
 exact⟨rfl, .panicking [{ v:=.iface 110 (.agg #[.int .i64 ln, .int .i64 co, .int .i64 code]),recovered:=true }],rfl, .tuple #[],by simp[results,results73],rfl,rfl,qLW hb hne hc0 hc1 hc2⟩
structure qPc(T c:Nat)(l:List Tok)(w:World):Prop where
 row:qYR T l w
 lt:T < w.1.size
 ends:qZY l
 hc:l.length<=c
 hm:c<=maxLen
 hl:l.length<=70000
 ht:∀ t∈l,t.text.length<=65536
 tab:qKT w.1.size w
def qXH:Value:=.agg #[.string ⟨#[]⟩, .string ⟨#[]⟩, .int .u64 0, .int .i64 0, .int .i64 0, .slice none 0 0]
def TreePost(w:World)(p:PR qQ)(e:Ending)(w':World):Prop :=
 match p with
 | .ok t _=>∃ v,e=.returned (.tuple #[qZ t v, .agg #[.int .i64 0, .int .i64 0, .int .i64 0]])/\zC w' w.1.size t.kids v/\Below w.1.size w w'
 | .bad ln c code=>e=.returned (.tuple #[qXH, .agg #[.int .i64 ln, .int .i64 c, .int .i64 code]])/\Below w.1.size w w'
 | .out=>True
theorem qK8{w0 w1 w':World}{B:Nat}(h:Below w0.1.size w0 w1)(hg:w1.grownBy w' (some B))(hB:w0.1.size<=B):Below w0.1.size w0 w':=h.grown hg h.size (fun k e=>by cases e;exact hB)
def qX5(T c:Nat)(l:List Tok)(w:World):World :=
 ((w.alloc (.cells #[.string ⟨#[]⟩, .string ⟨#[]⟩, .int .u64 0, .int .i64 0, .int .i64 0, .slice none 0 0] 57)).alloc (.cells #[.int .i64 0, .int .i64 0, .int .i64 0] 110)).alloc (.cells #[.slice (some ⟨T,0,none⟩) l.length c, .int .i64 0] 129)
theorem qKP(T c:Nat)(l:List Tok)(w:World):Below w.1.size w (qX5 T c l w) :=
 (((Below.refl _ _).alloc (Nat.le_refl _) _).alloc (by simp) _).alloc (by simp;omega) _
theorem tree_ps{T c:Nat}{l:List Tok}{w:World}(h:qPc T c l w):vP (w.1.size+1+1) l 0 (qX5 T c l w):=by
 have hb:=qKP T c l w;refine⟨w.1.size,T,0,c,?_,?_,?_,?_,fun k hk=>?_,h.ends,by have:=h.lt;omega,h.hc,h.hm,h.hl,h.ht,by omega,h.tab.under hb,by omega⟩
 ·simp[qX5,go_sem]
 ·simp[qX5,go_sem]
 ·simp[qX5,go_sem]
 ·simp[qX5,go_sem]
 ·rw[Nat.zero_add];exact(h.row k hk).below hb h.lt
theorem qUy(T c:Nat)(l:List Tok)(w:World):zI w.1.size [] [] 0 0 0 (.slice none 0 0) (qX5 T c l w):=((zI.new [] [] 0 0 0 (.slice none 0 0) w).alloc _).alloc _
structure qQE(b:Nat)(x y z:Int)(w:World):Prop where
 c0:w.cell? ⟨b,0,none⟩=some (.int .i64 x)
 c1:w.cell? ⟨b,1,none⟩=some (.int .i64 y)
 c2:w.cell? ⟨b,2,none⟩=some (.int .i64 z)
 f:∀ k,k < 3->w.frozen? ⟨b,k,none⟩=false
theorem qQE.a{b:Nat}{x y z:Int}{w:World}(h:qQE b x y z w):w.cell? ⟨b,0,none⟩=some (.int .i64 x)/\w.cell? ⟨b,1,none⟩=some (.int .i64 y)/\w.cell? ⟨b,2,none⟩=some (.int .i64 z)/\True:=⟨h.c0,h.c1,h.c2,trivial⟩
theorem qQE.b{b:Nat}{x y z:Int}{w:World}(h:qQE b x y z w):w.frozen? ⟨b,0,none⟩=false/\w.frozen? ⟨b,1,none⟩=false/\w.frozen? ⟨b,2,none⟩=false/\True:=⟨h.f 0 (by decide),h.f 1 (by decide),h.f 2 (by decide),trivial⟩
theorem qQE.grown{b:Nat}{x y z:Int}{w w':World}{r:Option Nat}(h:qQE b x y z w)(hg:w.grownBy w' r)(hne:some b≠r):qQE b x y z w' :=
 ⟨hg.cell h.c0 hne,hg.cell h.c1 hne,hg.cell h.c2 hne,fun k hk=>(World.frozen?_of_block (hg.block b (qJ h.c0) hne)).trans (h.f k hk)⟩
theorem qYv(T c:Nat)(l:List Tok)(w:World):qQE (w.1.size+1) 0 0 0 (qX5 T c l w):=by
 constructor
 case f=>intro k hk;simp[qX5,go_sem]
 all_goals simp[qX5,go_sem]
theorem tree_any(n:Nat)(hp:vM 74 (fun p=>#[p]) 0 (xW n))(T c:Nat)(l:List Tok)(w:World)(h:qPc T c l w)(hno:xW n l≠.out) :
 Calls prog 60 #[.slice (some ⟨T,0,none⟩) l.length c] w (TreePost w (xW n l)):=by
 have hmf:=zT;have HP:=hI hp;have HNO:=hI hno;have HT:=hI h;clear h hno hp;go_enter_defers func60,ntmps60
 go_wp2_with fail
 refine(HP.o (w.1.size+1+1) l (qX5 T c l w) (tree_ps HT.o) HNO.o).mono ?_;intro e w1 hq;rcases hq.cases HNO.o with⟨t1,l1,q1,n1,c1,he1,rfl,hb1,hP1,hg1⟩ | ⟨ln,co,code,he1,rfl,hg1⟩
 ·have hN:=(qUy T c l w).grown hg1 (by simp;omega);have hF:=(qYv T c l w).grown hg1 (by simp);have HB:=hI hb1;have HE:=hI he1;have HG:=hI (qK8 (qKP T c l w) hg1 (by omega));have⟨r0,r1,r2,r3,r4,r5,_⟩:=hN.a;have⟨g0,g1,g2,g3,g4,g5,_⟩:=hN.b;have⟨s0,s1,s2,_⟩:=hF.a;have⟨k0,k1,k2,_⟩:=hF.b;have hsz:=hN.lt;clear hN hF hb1 hP1 hg1 he1 hq HP HT;unfold qZ;go_wp2
  refine leaves_cons (f:=73) (args:=#[.pointer (some ⟨w.1.size,0,none⟩), .pointer (some ⟨w.1.size+1,0,none⟩)]) (by simp) (by simp[go_sem]) ?_;refine(qLV ⟨w.1.size,0,none⟩ ⟨w.1.size+1,0,none⟩ _).mono ?_;rintro e u' w2 ⟨rfl,rfl,rfl⟩;refine⟨.tuple #[qZ t1 (.slice q1 n1 c1), .agg #[.int .i64 0, .int .i64 0, .int .i64 0]],by simp[results,results60,go_sem,qZ, *],?_⟩;rw[HE.o];have hs3:(qX5 T c l w).1.size=w.1.size+3:=by simp[qX5]
  have hb:=HB.o;rw[hs3]at hb;have h1:=hb.six (k:=w.1.size) (by omega) (.string ⟨t1.kind.toArray⟩) (.string ⟨t1.text.toArray⟩) (.int .u64 t1.num) (.int .i64 t1.line) (.int .i64 t1.col) (.slice q1 n1 c1);have h2:=((h1.grown (jM _ (w.1.size+1) 0 (.int .i64 0)) (fun j e=>by cases e;exact .inl (by omega))).grown (jM _ (w.1.size+1) 1 (.int .i64 0)) (fun j e=>by cases e;exact .inl (by omega))).grown (jM _ (w.1.size+1) 2 (.int .i64 0)) (fun j e=>by cases e;exact .inl (by omega));refine⟨_,rfl,h2.mono (by omega),qQb ?_⟩;have hle:=Nat.le_refl w.1.size;have hls:w.1.size<=w.1.size+1:=by omega
  exact xR (xR (xR (qQU (zV HG.o none) hle _ _ _ _ _ _) hls _ _) hls _ _) hls _ _
 ·have hN:=(qUy T c l w).grown hg1 (by simp;omega);have hF:=(qYv T c l w).grown hg1 (by simp);have hG:=qK8 (qKP T c l w) hg1 (by omega);refine leaves_cons (f:=73) (args:=#[.pointer (some ⟨w.1.size,0,none⟩), .pointer (some ⟨w.1.size+1,0,none⟩)]) (by simp) (by simp[go_sem]) ?_;refine(qWj w.1.size (w.1.size+1) ln co code 0 0 0 w1 hN hF.c0 hF.c1 hF.c2 (hF.f 0 nL) (hF.f 1 nL) (hF.f 2 nL) (by omega)).mono ?_;rintro e u' w2 ⟨rfl,rfl,hC⟩;have⟨c0,c1,c2,c3,c4,c5,_⟩:=hC.1.a;have d0:=hC.2.1;have d1:=hC.2.2.1;have d2:=hC.2.2.2.1;have hG2:Below w.1.size w w2:=qQb (hC.2.2.2.2 w none (zV hG none) (Nat.le_refl _) (by omega));show Leaves _ _ _ _ [] FrameMode.returning w2
  refine⟨.tuple #[qXH, .agg #[.int .i64 ln, .int .i64 co, .int .i64 code]],by simp[results,results60,go_sem,qXH, *],?_⟩;rw[he1];exact⟨rfl,hG2⟩
def qJ1(w:World)(p:PR qQ)(e:Ending)(w':World):Prop :=
 match p with
 | .ok t _=>∃ v,e=.returned (.tuple #[qZ t v, .int .i64 0, .int .i64 0, .int .i64 0])/\zC w' w.1.size t.kids v/\Below w.1.size w w'
 | .bad ln c code=>e=.returned (.tuple #[qXH, .int .i64 ln, .int .i64 c, .int .i64 code])/\Below w.1.size w w'
 | .out=>True
theorem parse_any(n:Nat)(hp:vM 74 (fun p=>#[p]) 0 (xW n))(T c:Nat)(l:List Tok)(w:World)(h:qPc T c l w)(hno:xW n l≠.out) :
 Calls prog 43 #[.slice (some ⟨T,0,none⟩) l.length c] w (qJ1 w (xW n l)):=by
 have ha:=(Below.refl w.1.size w).alloc (Nat.le_refl _) jY;have h1:qPc T c l (w.alloc jY):=⟨h.row.below ha h.lt,by simp;have:=h.lt;omega,h.ends,h.hc,h.hm,h.hl,h.ht,by
  have:=h.tab.under ha;obtain⟨a1,a2,⟨b,off,cap,h2,h3⟩,⟨b',off',cap',h4,h5⟩⟩:=this;exact⟨by simp;omega,Nat.le_refl _,⟨b,off,cap,h2,by simp;omega⟩,⟨b',off',cap',h4,by simp;omega⟩⟩⟩
 have H:=hI (tree_any n hp T c l _ h1 hno);have HA:=hI ha;have HNO:=hI hno;have HR:=hI (zI.new [] [] 0 0 0 (.slice none 0 0) w);clear h h1 hno hp ha;unfold jY at *;go_enter func43,ntmps43
 go_wp2_with fail
 refine(H.o).mono ?_;intro e w1 hq;cases hr:xW n l with
 | out=>exact absurd hr HNO.o
 | ok t l' =>
  rw[hr]at hq;obtain⟨v,rfl,hb,hB⟩:=hq;obtain⟨q,vn,vc,rfl⟩:=hb.shape;have hR:=HR.o.below hB;have HB:=hI hb;have HG:=hI hB;have⟨r0,r1,r2,r3,r4,r5,_⟩:=hR.a;have⟨g0,g1,g2,g3,g4,g5,_⟩:=hR.b;have hsz:=hR.lt;clear hR hb hB H HR;unfold qZ;go_wp2
  go_region
  go_wp2
  refine bodyPost_ret (v:=.tuple #[qZ t (.slice q vn vc), .int .i64 0, .int .i64 0, .int .i64 0]) (by simp[results,results43,go_sem,qZ, *]) rfl ?_;rw[hr];have hb2:zC w1 (w.1.size+1) t.kids (.slice q vn vc):=by simpa using HB.o
  refine⟨_,rfl,zC.mono (zC.below (((hb2.six (Nat.lt_succ_self _) _ _ _ _ _ _).alloc _).alloc _) (Below.refl _ _).drew) (by omega),qQb (vX (zY (zY (qQU (zV (HA.o.trans (HG.o.mono HA.o.size)) none) (Nat.le_refl _) _ _ _ _ _ _) _) _))⟩
 | bad ln co code =>
  rw[hr]at hq;obtain⟨rfl,hB⟩:=hq;have hR:=HR.o.below hB;have HG:=hI hB;have⟨r0,r1,r2,r3,r4,r5,_⟩:=hR.a;have⟨g0,g1,g2,g3,g4,g5,_⟩:=hR.b;have hsz:=hR.lt;clear hR hB H HR;unfold qXH;go_wp2
  go_region
  go_wp2
  refine bodyPost_ret (v:=.tuple #[qXH, .int .i64 ln, .int .i64 co, .int .i64 code]) (by simp[results,results43,go_sem,qXH, *]) rfl ?_;rw[hr];exact⟨rfl,qQb (vX (zY (zY (qQU (zV (HA.o.trans (HG.o.mono HA.o.size)) none) (Nat.le_refl _) _ _ _ _ _ _) _) _))⟩
theorem tokT_text{l:List UInt8}{ln c:Int}(h:wK l=0):(qJX l ln c).text≠[]/\(qJX l ln c).text.length<=l.length:=by
 have hp:=qQW h;have hl:=wG l;refine⟨fun e=>?_,?_⟩
 ·have:(qJX l ln c).text.length=0:=by rw[e];rfl
  simp only[qJX,List.length_take]at this;omega
 ·simp only[qJX,List.length_take];omega
theorem lexF_ends:∀ (n:Nat) (l:List UInt8) (ln c:Int) (ts:List Tok),qJt n l ln c=.ok ts->qZY ts/\ts.length<=l.length+1/\∀ t∈ts,t.text.length<=l.length:=by
 intro n;induction n with
 | zero=>intro l ln c ts h;simp[qJt]at h;try (subst h;simp)
 | succ n ih =>
  intro l ln c ts h;rw[qJt]at h;have hk:=qZT l.length l ln c;generalize qQp l.length l ln c=s at *;by_cases h1:s.1=[]
  ·simp only[h1,if_true]at h;injection h with h;subst h;exact⟨⟨rfl,rfl⟩,by simp,by simp⟩
  ·by_cases h2:wK s.1=0
   ·simp only[if_neg h1,if_pos h2]at h;have hp:=qQW h2;have hle:=wG s.1;have htt:=tokT_text (ln:=s.2.1) (c:=s.2.2) h2;generalize hr:qJt n (s.1.drop (zZ s.1)) _ _=r at h;cases r with
    | bad a b d=>simp[Res.cons]at h
    | ok us =>
     simp only[Res.cons]at h;injection h with h;subst h;obtain⟨h3,h4,h5⟩:=ih _ _ _ _ hr;rw[List.length_drop]at h4 h5;refine⟨?_,by simp;omega,fun t ht=>?_⟩
     ·obtain⟨u,us',rfl⟩:=h3.ne;exact⟨htt.1,h3⟩
     ·rcases List.mem_cons.1 ht with rfl | ht
      ·omega
      ·have:=h5 t ht;omega
   ·simp only[if_neg h1,if_neg h2]at h;cases h
theorem qUh{l:List UInt8}{ts:List Tok}(h:qQD l 1 1=.ok ts):qZY ts/\ts.length<=l.length+1/\∀ t∈ts,t.text.length<=l.length:=lexF_ends _ _ _ _ _ h
theorem lexF_bad:∀ (n:Nat) (l:List UInt8) (ln c a b code:Int),l.length < n->qJt n l ln c=.bad a b code->code=20\/code=21:=by
 intro n;induction n with
 | zero=>intro l ln c a b code hn;omega
 | succ n ih =>
  intro l ln c a b code hn h;rw[qJt]at h;have hk:=qZT l.length l ln c;generalize qQp l.length l ln c=s at *;by_cases h1:s.1=[]
  ·simp only[h1,if_true]at h;cases h
  ·by_cases h2:wK s.1=0
   ·simp only[if_neg h1,if_pos h2]at h;have hp:=qQW h2;have hle:=wG s.1;generalize hr:qJt n (s.1.drop (zZ s.1)) _ _=r at h;cases r with
    | ok us=>simp[Res.cons]at h
    | bad x y d =>
     simp only[Res.cons]at h;injection h with e1 e2 e3;subst e3;exact ih _ _ _ _ _ _ (by rw[List.length_drop];omega) hr
   ·simp only[if_neg h1,if_neg h2]at h;injection h with e1 e2 e3;rw[<-e3];exact qU7 h2
def qJq(n:Nat)(s:List UInt8):PR qQ :=
 match qQD s 1 1 with
 | .bad ln c code=>.bad ln c code
 | .ok l=>xW n l
def Tab3(w:World):Prop:=qKT w.1.size w/\qZO w
theorem Tab3.below{w w':World}(h:Tab3 w)(hb:Below w.1.size w w'):Tab3 w':=by
 refine⟨?_,h.2.below hb⟩;obtain⟨a1,a2,⟨b,off,cap,h2,h3⟩,⟨b',off',cap',h4,h5⟩⟩:=h.1.under hb;have:=hb.size;exact⟨by omega,Nat.le_refl _,⟨b,off,cap,h2,by omega⟩,⟨b',off',cap',h4,by omega⟩⟩
theorem read_any(n:Nat)(hp:vM 74 (fun p=>#[p]) 0 (xW n))(s:ByteArray)(w:World)(hs:s.size<=65536)(ht:Tab3 w)(hno:qJq n s.data.toList≠.out) :
 Calls prog 21 #[.string s] w (qJ1 w (qJq n s.data.toList)):=by
 have ha:=(Below.refl w.1.size w).alloc (Nat.le_refl _) jY;have H:=hI (qUQ s _ hs (ht.below ha).2);have HT:=hI (ht.below ha);have HA:=hI ha;have HNO:=hI hno;have HP:=hI hp;have HR:=hI (zI.new [] [] 0 0 0 (.slice none 0 0) w);clear ht hno hp ha;unfold jY at *;go_enter func21,ntmps21
 go_wp2_with fail
 refine(H.o).mono ?_;intro e w1 hq;unfold qXM at hq;cases hr:qQD s.data.toList 1 1 with
 | bad ln co code =>
  rw[hr]at hq;obtain⟨rfl,hB⟩:=hq;have hres:qJq n s.data.toList=.bad ln co code:=by simp[qJq,hr]
  have hcode:=lexF_bad _ _ _ _ _ _ _ (by omega) hr;have hcb:(code != 0)=true:=by rcases hcode with rfl | rfl <;> rfl
  have hR:=HR.o.below hB;have HG:=hI hB;have HRS:=hI hres;have⟨r0,r1,r2,r3,r4,r5,_⟩:=hR.a;have⟨g0,g1,g2,g3,g4,g5,_⟩:=hR.b;have hsz:=hR.lt;clear hR hB H HR hres hcode;go_wp2
  refine bodyPost_ret (v:=.tuple #[qXH, .int .i64 ln, .int .i64 co, .int .i64 code]) (by simp[results,results21,go_sem,qXH, *]) rfl ?_;rw[HRS.o];exact⟨rfl,qQb (qQU (zV (HA.o.trans (HG.o.mono HA.o.size)) none) (Nat.le_refl _) _ _ _ _ _ _)⟩
 | ok l =>
  rw[hr]at hq;obtain⟨v,rfl,hown,hB⟩:=hq;obtain⟨hend,hlen,htx⟩:=qUh hr;have hres:qJq n s.data.toList=xW n l:=by simp[qJq,hr]
  obtain⟨g,cap,rfl,hg,hgl,hcap,hrow⟩:=qUr hown (by obtain⟨t,r,rfl⟩:=hend.ne;simp);have hcm:cap<=maxLen:=by
   rcases hown.2 with⟨h,_⟩ | ⟨g',cap',cur,h,_,_,_,h6,_⟩
   ·cases h
   ·injection h with h1 h2 h3;subst h3;exact h6
  have hT1:=HT.o.below hB;have hs1:s.data.toList.length<=65536:=by rw[<-qQQ];exact hs
  have HK:qPc g cap l w1:=⟨hrow,hgl,hend,hcap,hcm,by omega,fun t h=>by have:=htx t h;omega,hT1.1⟩;have HC:=hI (parse_any n HP.o g cap l w1 HK (by rw[<-hres];exact HNO.o));have HRS:=hI hres;have HG:=hI hB;have HR1:=hI (HR.o.below hB);have HN2:=hI (show xW n l≠.out by rw[<-hres];exact HNO.o);clear hown hB hend hlen htx hres hrow HK hT1 H hcm hs1;go_wp2_with fail
  refine(HC.o).mono ?_;intro e w2 hq;cases hr2:xW n l with
  | out=>exact absurd hr2 HN2.o
  | ok t l' =>
   rw[hr2]at hq;obtain⟨v,rfl,hb,hB2⟩:=hq;obtain⟨q,vn,vc,rfl⟩:=hb.shape;have hR:=HR1.o.below hB2;have HB:=hI hb;have HG2:=hI hB2;have⟨r0,r1,r2,r3,r4,r5,_⟩:=hR.a;have⟨g0,g1,g2,g3,g4,g5,_⟩:=hR.b;have hsz:=hR.lt;clear hR hb hB2 HC HR HR1;unfold qZ;go_wp2
   refine bodyPost_ret (v:=.tuple #[qZ t (.slice q vn vc), .int .i64 0, .int .i64 0, .int .i64 0]) (by simp[results,results21,go_sem,qZ, *]) rfl ?_;rw[HRS.o,hr2];have hlo:w.1.size+1<=w1.1.size:=by have:=HG.o.size;simpa using this
   exact⟨_,rfl,((HB.o.mono hlo).six (Nat.lt_succ_self _) _ _ _ _ _ _).mono (by omega),qQb (qQU (zV ((HA.o.trans (HG.o.mono HA.o.size)).trans (HG2.o.mono (Nat.le_trans HA.o.size HG.o.size))) none) (Nat.le_refl _) _ _ _ _ _ _)⟩
  | bad ln co code =>
   rw[hr2]at hq;obtain⟨rfl,hB2⟩:=hq;have hR:=HR1.o.below hB2;have HG2:=hI hB2;have⟨r0,r1,r2,r3,r4,r5,_⟩:=hR.a;have⟨g0,g1,g2,g3,g4,g5,_⟩:=hR.b;have hsz:=hR.lt;clear hR hB2 HC HR HR1;unfold qXH;go_wp2
   refine bodyPost_ret (v:=.tuple #[qXH, .int .i64 ln, .int .i64 co, .int .i64 code]) (by simp[results,results21,go_sem,qXH, *]) rfl ?_;rw[HRS.o,hr2];exact⟨rfl,qQb (qQU (zV ((HA.o.trans (HG.o.mono HA.o.size)).trans (HG2.o.mono (Nat.le_trans HA.o.size HG.o.size))) none) (Nat.le_refl _) _ _ _ _ _ _)⟩
theorem qLk(p q:Addr)(w:World) :
 CallsD prog 75 #[.pointer (some p), .pointer (some q)] .returning w fun e u' w'=>e=.returned (.tuple #[])/\u'=.returning/\w'=w:=by
 refine callsD_of_wpS func75 rfl fun c₀ cs hu=>?_
 apply wpS_seq;apply wpS_region;simp[wpOpsS,go_sem,recoverD,hu,ntmps75,Exit.thenS];refine wpS_of_wp ?_;change Code.wp _ _ _ { tmps:=#[.pointer (some p), .pointer (some q), .nilIface, .nilIface,undef,undef,undef,undef,undef],defers:=[] } w;generalize hQ:(fun e a' w'=>bodyPostS prog f75 c₀ cs (fun e u' w'=>e=Ending.returned (.tuple #[])/\u'=FrameMode.returning/\w'=w) e a' (c₀ :: cs) w')=Q;go_wp2
 rw[<-hQ];refine⟨rfl, .returning,?_, .tuple #[],by simp[results,results75],rfl,rfl,rfl⟩;cases c₀;simp_all
def qWB(w:World):Prop:=Tab3 w/\Pow w
def wrW(t:qQ)(v:Value)(w:World):World :=
 (((w.alloc (.cells (qS t v).toArray 57)).alloc (.cells #[.slice none 0 0] 113)).alloc (.cells #[.int .i64 0] 24)).alloc (.cells #[.slice none 0 0] 132)
theorem qLl(t:qQ)(v:Value)(w:World):Below w.1.size w (wrW t v w) :=
 ((((Below.refl _ _).alloc (Nat.le_refl _) _).alloc (by simp) _).alloc (by simp;omega) _).alloc (by simp;omega) _
theorem wr_size(t:qQ)(v:Value)(w:World):(wrW t v w).1.size=w.1.size+4:=by simp[wrW]
theorem wr_at{t:qQ}{v:Value}{w:World}(h:qWB w):WAt w.1.size (w.1.size+1+1+1) [] (wrW t v w):=by
 have hb:=qLl t v w;have hp:=h.2.lt;refine⟨⟨.slice none 0 0,?_,World.ownsRow_nil _ _ _ _⟩,h.1.1.under hb,by omega,h.2.under hb hp,hp⟩;have:=vL (((w.alloc (.cells (qS t v).toArray 57)).alloc (.cells #[.slice none 0 0] 113)).alloc (.cells #[.int .i64 0] 24)) (.cells #[.slice none 0 0] 132);simpa[wrW]using this
def WrPost(w:World)(ws:List (List UInt8))(e:Ending)(w':World):Prop :=
 ∃ v,e=.returned (.tuple #[v, .int .i64 0])/\w'.ownsRow w.1.size 9 1 v ws.length (jT ws)/\Below w.1.size w w'
theorem qLm(n:Nat)(t:qQ)(v:Value)(w:World)(ws:List (List UInt8))(h4:qWB w)(hL:xZ w (· < w.1.size) t v)(hF:qZl t)(he:qQO n t=some ws)(hlen:ws.length<=1000000000) :
 Calls prog 61 #[qZ t v] w (WrPost w ws):=by
 have hb:=qLl t v w;have hsz:=wr_size t v w;obtain⟨q0,vc,rfl,_,_⟩:=hL.shape;have HC:=hI (prog_w n w.1.size (w.1.size+1+1+1) [] t _ (wrW t _ w) ws (wr_at h4) (xZ.move (fun g hg _=>⟨(by omega:g < w.1.size+1+1+1),hb.block g hg⟩) t _ hL) hF he (by simpa using hlen));have hmf:=zT;have HB:=hI hb;have n0:(wrW t (.slice q0 t.kids.length vc) w).1[w.1.size+1]? = some (.cells #[.slice none 0 0] 113):=by
  have:=vL (w.alloc (.cells (qS t (.slice q0 t.kids.length vc)).toArray 57)) (.cells #[.slice none 0 0] 113);rw[wrW];rw[Lib.alloc_old _ _ _ (by simp),Lib.alloc_old _ _ _ (by simp)];simpa using this
 have n1:(wrW t (.slice q0 t.kids.length vc) w).1[w.1.size+1+1]? = some (.cells #[.int .i64 0] 24):=by
  have:=vL ((w.alloc (.cells (qS t (.slice q0 t.kids.length vc)).toArray 57)).alloc (.cells #[.slice none 0 0] 113)) (.cells #[.int .i64 0] 24);rw[wrW];rw[Lib.alloc_old _ _ _ (by simp)];simpa using this
 have HN0:=hI n0;have HN1:=hI n1;clear h4 hL hF he hb n0 n1;simp only[wrW,qS,qZ]at *;go_enter_defers func61,ntmps61
 go_wp2_with fail
 refine(HC.o).mono ?_;rintro e w1 ⟨rfl,hW1,hK1⟩;obtain⟨v1,hbk,hown⟩:=hW1.row;have m0:=(hK1.below.block (w.1.size+1) (by omega)).trans HN0.o;have m1:=(hK1.below.block (w.1.size+1+1) (by omega)).trans HN1.o;have c0:w1.cell? ⟨w.1.size+1,0,none⟩=some (.slice none 0 0):=by rw[Lib.cell_of_heap m0];rfl
 have f0:w1.frozen? ⟨w.1.size+1,0,none⟩=false:=Lib.frozen_of_heap m0 0;have c1:w1.cell? ⟨w.1.size+1+1,0,none⟩=some (.int .i64 0):=by rw[Lib.cell_of_heap m1];rfl
 have f1:w1.frozen? ⟨w.1.size+1+1,0,none⟩=false:=Lib.frozen_of_heap m1 0;have c2:w1.cell? ⟨w.1.size+1+1+1,0,none⟩=some v1:=by rw[Lib.cell_of_heap hbk];rfl
 have hlt:=hW1.lt;have HG:=hI (HB.o.trans (hK1.below.mono (by omega)));have HO:=hI hown;obtain⟨ao,n',cap,rfl⟩:∃ ao n' cap,v1=.slice ao n' cap:=by
  rcases hown.2 with⟨hv,_⟩ | ⟨g,cap,cur,hv,_⟩
  ·exact⟨_,_,_,hv⟩
  ·exact⟨_,_,_,hv⟩
 clear hW1 hK1 hbk hown m0 m1 HC HB HN0 HN1;go_wp2
 refine leaves_cons (f:=75) (args:=#[.pointer (some ⟨w.1.size+1,0,none⟩), .pointer (some ⟨w.1.size+1+1,0,none⟩)]) (by simp) (by simp[go_sem]) ?_;refine(qLk ⟨w.1.size+1,0,none⟩ ⟨w.1.size+1+1,0,none⟩ _).mono ?_;rintro e u' w2 ⟨rfl,rfl,rfl⟩;refine⟨.tuple #[.slice ao n' cap, .int .i64 0],by simp[results,results61,go_sem, *],?_⟩;have hle:w.1.size<=w.1.size+1:=by omega
 have hle2:w.1.size<=w.1.size+1+1:=by omega
 refine⟨_,rfl,?_,qQb (xR (xR (zV HG.o none) hle _ _) hle2 _ _)⟩;have hlo:=HO.o.lt;exact(qW2 (b':=w.1.size) HO.o (fun g hg=>by have:=(hlo g hg).1;omega)).kept (jM _ _ _ _) (by cases hv:(Value.slice ao n' cap).ownBlock with | none=>exact .inl rfl | some g=>exact .inr (fun e=>by injection e with e;have:=(hlo g hv).1;omega)) |>.kept (jM _ _ _ _) (by cases hv:(Value.slice ao n' cap).ownBlock with | none=>exact .inl rfl | some g=>exact .inr (fun e=>by injection e with e;have:=(hlo g hv).1;omega))
def qUv(ws:List (List UInt8)):List UInt8:=Lib.join ws [32]
theorem qWI(ws:List (List UInt8)):(ws.map fun x=>(⟨x.toArray⟩:ByteArray)).map (fun b=>b.data.toList)=ws:=by
 induction ws with
 | nil=>rfl
 | cons x r ih=>simp only[List.map_cons,ih]
theorem join_any{v:Value}{B:Nat}{ws:List (List UInt8)}{w:World}(h:w.ownsRow B 9 1 v ws.length (jT ws))(hn:ws.length<=1000000000)(hl:(qUv ws).length<=140737488355328) :
 ∃ ao n cap,v=.slice ao n cap/\Calls prog 62 #[v, .string ⟨#[32]⟩] w fun e w'=>e=.returned (.string ⟨(qUv ws).toArray⟩)/\Below w.1.size w w':=by
 rcases h.2 with⟨rfl,h0⟩ | ⟨g,cap,cur,rfl,_,hg,hc,_⟩
 ·obtain rfl:=List.length_eq_zero_iff.1 h0;exact⟨_,_,_,rfl,(Tryz.strings_Join_none none 0 ⟨#[32]⟩ w).mono fun e w' hq=>⟨hq.1,by rw[hq.2];exact Below.refl _ _⟩⟩
 ·refine⟨_,_,_,rfl,?_⟩;have hcells:=h.cells (g:=g) rfl;have hj:=Tryz.strings_Join g 0 cap (ws.map fun x=>⟨x.toArray⟩) ⟨#[32]⟩ w (fun j x hx=>by
   rw[List.getElem?_map]at hx;obtain⟨y,hy,rfl⟩:=Option.map_eq_some_iff.1 hx;have:=hcells j (.string ⟨y.toArray⟩) (by rw[jT,List.getElem?_map,hy];rfl);rw[Lib.add_plain]at this;exact this) (qJ8 hg) (by rw[List.length_map];omega) (by rw[List.length_map];exact hc) (by rw[qWI];exact hl)
  rw[List.length_map,qWI]at hj;exact hj
def ShowPost(w:World)(ws:List (List UInt8))(e:Ending)(w':World):Prop :=
 e=.returned (.tuple #[.string ⟨(qUv ws).toArray⟩, .int .i64 0])/\Below w.1.size w w'
theorem qWB.below{w w':World}(h:qWB w)(hb:Below w.1.size w w'):qWB w':=⟨h.1.below hb,h.2.under hb h.2.lt⟩
theorem show_any(n:Nat)(t:qQ)(v:Value)(w:World)(ws:List (List UInt8))(h4:qWB w)(hL:xZ w (· < w.1.size) t v)(hF:qZl t)(he:qQO n t=some ws)(hlen:ws.length<=1000000000)(hl:(qUv ws).length<=140737488355328) :
 Calls prog 44 #[qZ t v] w (ShowPost w ws):=by
 obtain⟨q0,vc,rfl,_,_⟩:=hL.shape;have ha:=(Below.refl w.1.size w).alloc (Nat.le_refl _) (.cells (qS t (.slice q0 t.kids.length vc)).toArray 57);have HC:=hI (qLm n t _ (w.alloc (.cells (qS t (.slice q0 t.kids.length vc)).toArray 57)) ws (h4.below ha) (xZ.move (fun g hg hok=>⟨(by simp;omega:g < _),ha.block g hg⟩) t _ hL) hF he hlen);have HA:=hI ha;clear h4 hL hF he ha;simp only[qS,qZ]at *;go_enter func44,ntmps44
 go_wp2_with fail
 refine(HC.o).mono ?_;rintro e w1 ⟨v1,rfl,hown,hb1⟩;obtain⟨ao,n1,cap,rfl,hj⟩:=join_any hown hlen hl;have HJ:=hI hj;have HB:=hI (HA.o.trans (hb1.mono HA.o.size));clear hj hown hb1 HC HA;go_wp2_with fail
 refine(HJ.o).mono ?_;rintro e w2 ⟨rfl,hb2⟩;have HB2:=hI (HB.o.trans (hb2.mono HB.o.size));clear hb2 HJ HB;go_wp2
 go_ret2
 exact⟨rfl,HB2.o⟩
mutual
def kO:qQ->qQ->Bool
 | .mk k x n _ _ ks,b=>k == b.kind && (x == b.text && (n == b.num && xC ks b.kids))
def xC:List qQ->List qQ->Bool
 | [],us=>us.isEmpty
 | t :: ts,us=>match us with
  | []=>false
  | u :: us=>kO t u && xC ts us
end
mutual
def vZ:qQ->Nat
 | .mk _ _ _ _ _ ks=>qKn 0 ks+1
def qKn:Nat->List qQ->Nat
 | m,[]=>m
 | m,t :: ts=>qKn (max m (vZ t)) ts
end
theorem qX3:∀ (ts us:List qQ),xC ts us=true->ts.length=us.length
 | [],us,h=>by cases us with | nil=>rfl | cons u r=>simp[xC]at h
 | t :: ts,us,h=>by
  cases us with
  | nil=>simp[xC]at h
  | cons u r =>
   simp only[xC,bE]at h;simp[qX3 ts r h.2]
theorem qPt:∀ (ts:List qQ) (m:Nat),m<=qKn m ts
 | [],m=>by rw[qKn];exact Nat.le_refl _
 | t :: ts,m=>by
  rw[qKn];exact Nat.le_trans (Nat.le_max_left _ _) (qPt ts _)
theorem qPu:∀ {ts:List qQ} {t:qQ} (_:t∈ts) (m:Nat),vZ t<=qKn m ts
 | u :: ts,t,h,m=>by
  rw[qKn];rcases List.mem_cons.1 h with rfl | h
  ·exact Nat.le_trans (Nat.le_max_right _ _) (qPt ts _)
  ·exact qPu h _
 | [],_,h,_=>by simp at h
open Go
structure qWi where
 kind:Int
 text:List UInt8
 num:Int
def Tok.bare(t:Tok):qWi:=⟨t.kind,t.text,t.num⟩
def Res.bare:Res->Option (List qWi)
 | .bad _ _ _=>none
 | .ok l=>some (l.map Tok.bare)
theorem qWd(n:Nat)(l:List UInt8)(ln c ln' c':Int):(qQp n l ln c).1=(qQp n l ln' c').1:=by
 induction n generalizing l ln c ln' c' with
 | zero=>rfl
 | succ n ih =>
  rw[qQp,qQp];by_cases h:qQC l=0
  ·rw[if_pos h,if_pos h]
  ·rw[if_neg h,if_neg h];exact ih _ _ _ _ _
def strip(l:List UInt8):List UInt8:=(vO l 1 1).1
theorem skip_strip(l:List UInt8)(ln c:Int):(vO l ln c).1=strip l:=qWd _ _ _ _ _ _
theorem qVu(t:Tok)(x:Res):(x.cons t).bare=x.bare.map (t.bare :: ·):=by
 cases x <;> simp[Res.cons,Res.bare]
def qYO(l:List UInt8):qWi:=⟨vA l,l.take (zZ l),if vA l=1 then(qJg (l.take (zZ l))).getD 0 else 0⟩
theorem lexF_place(n:Nat)(l:List UInt8)(ln c ln' c':Int):(qJt n l ln c).bare=(qJt n l ln' c').bare:=by
 induction n generalizing l ln c ln' c' with
 | zero=>rfl
 | succ n ih =>
  rw[qJt,qJt];have e:=qWd l.length l ln c ln' c';generalize qQp l.length l ln c=s at *;generalize qQp l.length l ln' c'=s' at *;obtain⟨s1,s2,s3⟩:=s;obtain⟨t1,t2,t3⟩:=s';simp only at e;subst e;by_cases h1:s1=[]
  ·simp[h1,Res.bare,Tok.bare]
  ·by_cases h2:wK s1=0
   ·simp only[if_neg h1,if_pos h2];rw[qVu,qVu,ih];rfl
   ·simp[h1,h2,Res.bare]
def qZp(l:List UInt8):Option (List qWi):=(qQD l 1 1).bare
theorem qLP(l:List UInt8)(ln c:Int):(qQD l ln c).bare=qZp l:=lexF_place _ _ _ _ _ _
theorem qKW(l:List UInt8):qZp l=if strip l=[]then some [⟨3,[],0⟩]else if wK (strip l)=0 then(qZp ((strip l).drop (zZ (strip l)))).map (qYO (strip l) :: ·)else none:=by
 conv=>lhs;unfold qZp;rw[qJe]
 rw[show(vO l 1 1).1=strip l from rfl];by_cases h1:strip l=[]
 ·rw[if_pos h1,if_pos h1];rfl
 ·by_cases h2:wK (strip l)=0
  ·rw[if_neg h1,if_neg h1,if_pos h2,if_pos h2,qVu,qLP];rfl
  ·rw[if_neg h1,if_neg h1,if_neg h2,if_neg h2];rfl
theorem qYr{l:List UInt8}(h:qQC l=0):strip l=l:=by unfold strip;rw[qUw h]
theorem qYq{l:List UInt8}(h:¬qQC l=0):strip l=strip (l.drop (qQC l)):=by
 conv=>lhs;unfold strip;rw[skip_go h]
 exact skip_strip _ _ _
theorem qYX{b:UInt8}{l:List UInt8}(h:yK (b.toNat:Int)=true):Lib.hasPrefix (b :: l) cmt=false:=by
 unfold Lib.hasPrefix cmt;rw[List.isPrefixOf];have:((47:UInt8) == b)=false:=by
  rw[beq_eq_false_iff_ne];intro e;subst e;exact absurd h (by decide)
 rw[this];rfl
theorem qLe{b:UInt8}{l:List UInt8}(h:yK (b.toNat:Int)=true):strip (b :: l)=strip l:=by
 have hg:qQC (b :: l)=xQ yK l+1:=by
  unfold qQC;rw[qYX h,if_neg (by decide),xQ,if_pos h]
 rw[qYq (by omega),hg,List.drop_succ_cons];by_cases h0:xQ yK l=0
 ·rw[h0,List.drop_zero]
 ·cases l with
  | nil=>exact absurd rfl h0
  | cons a r =>
   have ha:yK (a.toNat:Int)=true:=by
    cases hb:yK (a.toNat:Int)with
    | true=>rfl
    | false=>rw[xQ,hb]at h0;exact absurd rfl h0
   have hg2:qQC (a :: r)=xQ yK (a :: r):=by
    unfold qQC;rw[qYX ha,if_neg (by decide)]
   rw[qYq (l:=a :: r) (by omega),hg2]
theorem qLQ{l l':List UInt8}(h:strip l=strip l'):qZp l=qZp l':=by rw[qKW,qKW l',h]
theorem qLO{b:UInt8}{l:List UInt8}(h:yK (b.toNat:Int)=true):qZp (b :: l)=qZp l:=qLQ (qLe h)
theorem gap_ink{b:UInt8}{l:List UInt8}(h:yK (b.toNat:Int)=false)(hc:Lib.hasPrefix (b :: l) cmt=false):qQC (b :: l)=0:=by
 unfold qQC;rw[hc,if_neg (by decide),xQ,h];rfl
theorem bare_tok{b:UInt8}{l:List UInt8}(h:yK (b.toNat:Int)=false)(hc:Lib.hasPrefix (b :: l) cmt=false) :
 qZp (b :: l)=if wK (b :: l)=0 then(qZp ((b :: l).drop (zZ (b :: l)))).map (qYO (b :: l) :: ·)else none:=by
 rw[qKW,qYr (gap_ink h hc),if_neg (by simp)]
theorem qYK{b:UInt8}{z:List UInt8}(g s:List UInt8)(hg:b∉g):Lib.hasPrefix (s++b :: z) g=Lib.hasPrefix s g:=by
 unfold Lib.hasPrefix;induction g generalizing s with
 | nil=>simp
 | cons a r ih =>
  cases s with
  | nil =>
   have:(a == b)=false:=by
    rw[beq_eq_false_iff_ne];intro e;subst e;exact hg (by simp)
   show((a == b) && r.isPrefixOf z)=false
   rw[this];rfl
  | cons c t =>
   rw[lC,List.isPrefixOf,List.isPrefixOf,ih t (fun h=>hg (by simp[h]))]
theorem qVW{b:UInt8}(h:yK (b.toNat:Int)=true):b=32\/b=9\/b=13\/b=10:=by
 unfold yK at h;have h:=of_decide_eq_true h;have e:∀ n:Nat,n < 256->(b.toNat:Int)=(n:Int)->b=UInt8.ofNat n:=fun n hn he=>by
  apply UInt8.toNat_inj.mp;rw[UInt8.toNat_ofNat'];omega
 rcases h with h | h | h | h
 ·exact .inl (e 32 (by decide) h)
 ·exact .inr (.inl (e 9 (by decide) h))
 ·exact .inr (.inr (.inl (e 13 (by decide) h)))
 ·exact .inr (.inr (.inr (e 10 (by decide) h)))
theorem qLc{b:UInt8}(h:yK (b.toNat:Int)=true):∀ g∈qQv,b∉g:=by
 rcases qVW h with rfl | rfl | rfl | rfl <;> decide
theorem qLS{b:UInt8}{z:List UInt8}(h:yK (b.toNat:Int)=true):xQ qQZ (b :: z)=0:=by
 rcases qVW h with rfl | rfl | rfl | rfl <;> rfl
theorem qLA{ks:List qQ}(h:∀ t∈ks,kO t t=true):xC ks ks=true:=by
 induction ks with
 | nil=>simp[xC]
 | cons t r ih=>simp[xC,h t (by simp),ih (fun u hu=>h u (by simp[hu]))]
theorem zR{k x k' x':List UInt8}{n l c n' l' c':Int}{ks ks':List qQ}(h1:k=k')(h2:x=x')(h3:n=n')(h4:xC ks ks'=true):kO (.mk k x n l c ks) (.mk k' x' n' l' c' ks')=true:=by
 subst h1 h2 h3;simp[kO,qQ.kind,qQ.text,qQ.num,qQ.kids,h4]
theorem jN{a b:qQ}(h:kO a b=true):a.kind=b.kind/\a.text=b.text/\a.num=b.num/\xC a.kids b.kids=true:=by
 cases a;simp only[kO,bE,beq_iff_eq]at h;exact⟨h.1,h.2.1,h.2.2.1,h.2.2.2⟩
theorem yL:xC [] []=true:=by simp[xC]
theorem jC{t u:qQ}(h:kO t u=true):xC [t] [u]=true:=by simp[xC,h]
theorem qZi{t u t' u':qQ}(h:kO t u=true)(h':kO t' u'=true):xC [t,t'] [u,u']=true:=by simp[xC,h,h']
theorem wA:∀ {a b a' b':List qQ},xC a b=true->xC a' b'=true->xC (a++a') (b++b')=true
 | [],b,a',b',h,h'=>by
  cases b with
  | nil=>exact h'
  | cons u r=>simp[xC]at h
 | t :: r,b,a',b',h,h'=>by
  cases b with
  | nil=>simp[xC]at h
  | cons u s =>
   simp only[xC,bE,lC]at h ⊢;exact⟨h.1,wA h.2 h'⟩
def Al(l l':List Tok):Prop:=l.map Tok.bare=l'.map Tok.bare
def qKy(t t':Tok):Prop:=t.bare=t'.bare
def xN(a b:qQ):Prop:=kO a b=true
def qYQ(a b:List qQ):Prop:=xC a b=true
theorem qKy.kind{t t':Tok}(h:qKy t t'):t.kind=t'.kind:=congrArg qWi.kind h
theorem qKy.text{t t':Tok}(h:qKy t t'):t.text=t'.text:=congrArg qWi.text h
theorem qKy.num{t t':Tok}(h:qKy t t'):t.num=t'.num:=congrArg qWi.num h
theorem Al.hd{l l':List Tok}(h:Al l l'):qKy (hdT l) (hdT l'):=by
 unfold Al at h;cases l with
 | nil =>
  cases l' with
  | nil=>rfl
  | cons t r=>simp at h
 | cons t r =>
  cases l' with
  | nil=>simp at h
  | cons t' r' =>
   simp only[List.map_cons,List.cons.injEq]at h;exact h.1
def zJ{α:Type}(S:α->α->Prop):PR α->PR α->Prop
 | .ok a l, .ok b l'=>S a b/\Al l l'
 | .bad _ _ c, .bad _ _ c'=>c=c'
 | .out, .out=>True
 | _,_=>False
section
variable {α β:Type} {S:α->α->Prop} {T:β->β->Prop}
theorem zJ.ok{a b:α}{l l':List Tok}(h:S a b)(h':Al l l'):zJ S (.ok a l) (.ok b l'):=⟨h,h'⟩
theorem zJ.bind{p p':PR α}{f f':α->List Tok->PR β}(h:zJ S p p')(hf:∀ a b l l',S a b->Al l l'->zJ T (f a l) (f' b l')):zJ T (p.bind f) (p'.bind f'):=by
 cases p with
 | ok a l =>
  cases p' with
  | ok b l'=>exact hf a b l l' h.1 h.2
  | bad _ _ _=>exact h.elim
  | out=>exact h.elim
 | bad x y c =>
  cases p' with
  | ok b l'=>exact h.elim
  | bad _ _ _=>exact h
  | out=>exact h.elim
 | out =>
  cases p' with
  | ok b l'=>exact h.elim
  | bad _ _ _=>exact h.elim
  | out=>trivial
theorem zJ.ite{b b':Bool}{p q p' q':PR α}(hb:b=b')(h1:zJ S p p')(h2:zJ S q q'):zJ S (if b=true then p else q) (if b'=true then p' else q'):=by
 subst hb;cases b
 ·exact h2
 ·exact h1
end
theorem qW6(code:Int)(l l':List Tok):zJ xN (qWQ code l) (qWQ code l'):=rfl
theorem xS{may may':Bool}{l l':List Tok}(hm:may=may')(h:Al l l'):zJ qKy (jV may l) (jV may' l'):=by
 subst hm;unfold Al at h;cases l with
 | nil =>
  cases l' with
  | nil=>rfl
  | cons t r=>simp at h
 | cons t r =>
  cases l' with
  | nil=>simp at h
  | cons t' r' =>
   simp only[List.map_cons,List.cons.injEq]at h;cases may
   ·rfl
   ·exact⟨h.1,h.2⟩
def UnitE(_ _:Unit):Prop:=True
theorem Al.text{l l':List Tok}(h:Al l l')(x:List UInt8):((hdT l).text == x)=((hdT l').text == x):=by rw[h.hd.text]
theorem Al.kind{l l':List Tok}(h:Al l l')(x:Int):((hdT l).kind == x)=((hdT l').kind == x):=by rw[h.hd.kind]
theorem Al.name{l l':List Tok}(h:Al l l'):kR (hdT l)=kR (hdT l'):=by unfold kR;rw[h.hd.kind,h.hd.text]
theorem Al.type{l l':List Tok}(h:Al l l'):yG (hdT l).text=yG (hdT l').text:=by rw[h.hd.text]
theorem zQ:∀ (xs:List (List UInt8)) {l l':List Tok},Al l l'->zJ UnitE (jL xs l) (jL xs l')
 | [],_,_,h=>⟨trivial,h⟩
 | x :: xs,_,_,h=>(xS (h.text x) h).bind fun _ _ _ _ _ h'=>zQ xs h'
theorem vJ{d:Int}{p p':Int->List Tok->PR qQ}{l l':List Tok}(h:zJ xN (p (d+1) l) (p' (d+1) l')):zJ xN (xX d p l) (xX d p' l'):=by
 unfold xX;by_cases hd:d=60
 ·rw[if_pos hd,if_pos hd];exact qW6 _ _ _
 ·rw[if_neg hd,if_neg hd];exact h
theorem qZA{stop:Tok->Bool}{p p':List Tok->PR qQ}(hs:∀ {t t'},qKy t t'->stop t=stop t')(hp:∀ {l l'},Al l l'->zJ xN (p l) (p' l')):∀ (n:Nat) {acc acc':List qQ} {l l':List Tok},qYQ acc acc'->Al l l'->zJ qYQ (vI stop p n acc l) (vI stop p' n acc' l')
 | 0,_,_,_,_,_,_=>trivial
 | n+1,acc,acc',l,l',ha,h=>by
  rw[vI,vI];exact zJ.ite (hs h.hd) (zJ.ok ha h) ((hp h).bind fun _ _ _ _ ht h'=>qZA hs hp n (wA ha (jC ht)) h')
theorem qQc{kind:List UInt8}{void void':Bool}(hv:void=void'){l l':List Tok}(h:Al l l'):zJ xN (zG kind void l) (zG kind void' l') :=
 (xS (by rw[hv,h.type]) h).bind fun _ _ _ _ ht h1=>(xS h1.name h1).bind fun _ _ _ _ hu h2=>zJ.ok (zR rfl hu.text rfl (jC (zR rfl ht.text rfl yL))) h2
theorem qXv{l l':List Tok}(h:Al l l'):zJ xN (wQ l) (wQ l'):=(xS (h.kind 1) h).bind fun _ _ _ _ ht h1=>zJ.ok (zR rfl rfl ht.num yL) h1
theorem qXu{n:Nat}{p p':List Tok->PR qQ}(hp:∀ {l l'},Al l l'->zJ xN (p l) (p' l')){l l':List Tok}(h:Al l l'):zJ qYQ (xT n p l) (xT n p' l'):=by
 unfold xT;refine(zQ [[40]] h).bind fun _ _ l1 l1' _ h1=>?_
 refine zJ.ite (h1.text [41]) ((zQ [[41]] h1).bind fun _ _ _ _ _ h2=>zJ.ok yL h2) ?_;refine(hp h1).bind fun _ _ _ _ ht h2=>?_
 refine(qZA (fun ht=>by rw[ht.text]) (fun hl=>(zQ [[44]] hl).bind fun _ _ _ _ _ h3=>hp h3) n (jC ht) h2).bind fun _ _ _ _ hts h3=>?_
 exact(zQ [[41]] h3).bind fun _ _ _ _ _ h4=>zJ.ok hts h4
section
variable {rec:NT->Int->List Tok->PR qQ} {n:Nat}
def qZa(rec:NT->Int->List Tok->PR qQ):Prop:=∀ x d {l l':List Tok},Al l l'->zJ xN (rec x d l) (rec x d l')
theorem qXw(H:qZa rec)(d:Int){l l':List Tok}(h:Al l l'):zJ xN (xF rec d l) (xF rec d l'):=by
 unfold xF;refine(xS h.name h).bind fun _ _ _ _ ht h1=>?_
 refine zJ.ite (h1.text [91]) ((zQ [[91]] h1).bind fun _ _ _ _ _ h2=>(vJ (H (.binary 0) (d+1) h2)).bind fun _ _ _ _ he h3=>(zQ [[93]] h3).bind fun _ _ _ _ _ h4=>zJ.ok (zR rfl ht.text rfl (jC he)) h4) ?_;exact zJ.ok (zR rfl ht.text rfl yL) h1
theorem qVL(H:qZa rec)(d:Int){l l':List Tok}(h:Al l l'):zJ xN (yJ rec d l) (yJ rec d l'):=by
 unfold yJ;refine(xS (h.text [40]) h).bind fun _ _ _ _ ht h1=>?_
 refine zJ.ite h1.type ((xS rfl h1).bind fun _ _ _ _ hu h2=>(zQ [[41]] h2).bind fun _ _ _ _ _ h3=>(vJ (H .operand (d+1) h3)).bind fun _ _ _ _ he h4=>zJ.ok (zR rfl hu.text rfl (jC he)) h4) ?_;exact(vJ (H (.binary 0) (d+1) h1)).bind fun _ _ _ _ he h2=>(zQ [[41]] h2).bind fun _ _ _ _ _ h3=>zJ.ok he h3
theorem qJR(H:qZa rec)(d:Int){l l':List Tok}(h:Al l l'):zJ xN (jU rec d l) (jU rec d l'):=by
 unfold jU;refine zJ.ite (h.kind 1) (qXv h) ?_;refine zJ.ite (by rw[h.hd.text]) ((xS rfl h).bind fun _ _ _ _ hu h1=>zJ.ok (zR hu.text rfl rfl yL) h1) ?_;refine zJ.ite (by rw[h.hd.text]) ((xS rfl h).bind fun _ _ _ _ hu h1=>(vJ (H .operand (d+1) h1)).bind fun _ _ _ _ he h2=>zJ.ok (zR rfl hu.text rfl (jC he)) h2) ?_;exact zJ.ite (h.text [40]) (qVL H d h) (qXw H d h)
theorem qZR(H:qZa rec)(k d:Int):∀ (m:Nat) {left left':qQ} {l l':List Tok},xN left left'->Al l l'->zJ xN (kX rec k d m left l) (kX rec k d m left' l')
 | 0,_,_,_,_,_,_=>trivial
 | m+1,left,left',l,l',hl,h=>by
  rw[kX,kX,h.hd.text];by_cases hk:xL (hdT l').text < k
  ·rw[if_pos hk,if_pos hk];exact zJ.ok hl h
  ·rw[if_neg hk,if_neg hk];exact(xS rfl h).bind fun _ _ _ _ ht h1=>(H _ d h1).bind fun _ _ _ _ hr h2=>qZR H k d m (zR rfl ht.text rfl (qZi hl hr)) h2
theorem qKL(H:qZa rec)(k d:Int){l l':List Tok}(h:Al l l'):zJ xN (qQy rec n k d l) (qQy rec n k d l'):=by
 unfold qQy;exact(H .operand d h).bind fun _ _ _ _ he h1=>qZR H k d n he h1
theorem qZz(H:qZa rec)(d:Int){l l':List Tok}(h:Al l l'):zJ xN (qQh rec d l) (qQh rec d l'):=H (.binary 0) d h
theorem qJQ(H:qZa rec)(d:Int){l l':List Tok}(h:Al l l'):zJ xN (qQz rec n d l) (qQz rec n d l'):=by
 unfold qQz;exact(xS h.name h).bind fun _ _ _ _ ht h1=>(qXu (fun hl=>vJ (H (.binary 0) (d+1) hl)) h1).bind fun _ _ _ _ hts h2=>zJ.ok (zR rfl ht.text rfl hts) h2
theorem Al.call{l l':List Tok}(h:Al l l'):qQR l=qQR l':=by
 unfold Al at h;match l,l',h with
 | [],[],_=>rfl
 | [],_ :: _,h=>simp at h
 | _ :: _,[],h=>simp at h
 | [t],[t'],_=>rfl
 | [t],_ :: _ :: _,h=>simp at h
 | _ :: _ :: _,[t],h=>simp at h
 | t :: u :: r,t' :: u' :: r',h =>
  simp only[List.map_cons,List.cons.injEq]at h;have h1:qKy t t':=h.1;have h2:qKy u u':=h.2.1;show(kR t && u.text == [40])=(kR t' && u'.text == [40])
  unfold kR;rw[h1.kind,h1.text,h2.text]
theorem qKK(H:qZa rec)(d:Int){l l':List Tok}(h:Al l l'):zJ xN (jJ rec n d l) (jJ rec n d l'):=by
 unfold jJ;refine zJ.ite h.call ((qJQ H d h).bind fun _ _ _ _ ht h1=>(zQ [[59]] h1).bind fun _ _ _ _ _ h2=>zJ.ok ht h2) ?_;refine(qXw H d h).bind fun _ _ _ _ hx h1=>(zQ [[61]] h1).bind fun _ _ _ _ _ h2=>?_
 refine zJ.ite (h2.text qW) ((zQ [qW,[40],[41]] h2).bind fun _ _ _ _ _ h3=>(zQ [[59]] h3).bind fun _ _ _ _ _ h4=>zJ.ok (zR rfl rfl rfl (jC hx)) h4) ?_;refine zJ.ite h2.call ((qJQ H d h2).bind fun _ _ _ _ hy h3=>(zQ [[59]] h3).bind fun _ _ _ _ _ h4=>zJ.ok (zR rfl rfl rfl (qZi hx hy)) h4) ?_;exact(qZz H d h2).bind fun _ _ _ _ hy h3=>(zQ [[59]] h3).bind fun _ _ _ _ _ h4=>zJ.ok (zR rfl rfl rfl (qZi hx hy)) h4
theorem qVI(H:qZa rec)(d:Int){l l':List Tok}(h:Al l l'):zJ xN (kL rec d l) (kL rec d l'):=by
 unfold kL;exact(xS rfl h).bind fun _ _ _ _ ht h1=>(zQ [[40]] h1).bind fun _ _ _ _ _ h2=>(qZz H d h2).bind fun _ _ _ _ he h3=>(zQ [[41],[59]] h3).bind fun _ _ _ _ _ h4=>zJ.ok (zR ht.text rfl rfl (jC he)) h4
theorem qVJ(H:qZa rec)(d:Int){l l':List Tok}(h:Al l l'):zJ xN (yC rec d l) (yC rec d l'):=by
 unfold yC;refine(zQ [qV] h).bind fun _ _ _ _ _ h1=>?_
 refine zJ.ite (h1.text [59]) ((zQ [[59]] h1).bind fun _ _ _ _ _ h2=>zJ.ok (zR rfl rfl rfl yL) h2) ?_;exact(qZz H d h1).bind fun _ _ _ _ he h2=>(zQ [[59]] h2).bind fun _ _ _ _ _ h3=>zJ.ok (zR rfl rfl rfl (jC he)) h3
theorem qZS(H:qZa rec)(word:List UInt8)(d:Int){l l':List Tok}(h:Al l l'):zJ xN (jK rec word d l) (jK rec word d l'):=by
 unfold jK;exact(zQ [word,[40]] h).bind fun _ _ _ _ _ h1=>(qZz H d h1).bind fun _ _ _ _ he h2=>(zQ [[41]] h2).bind fun _ _ _ _ _ h3=>(vJ (H .block (d+1) h3)).bind fun _ _ _ _ hb h4=>zJ.ok (zR rfl rfl rfl (qZi he hb)) h4
theorem qKM(H:qZa rec)(d:Int){l l':List Tok}(h:Al l l'):zJ xN (vF rec d l) (vF rec d l'):=by
 unfold vF;refine(qZS H kIf d h).bind fun t t' _ _ ht h1=>?_
 refine zJ.ite (h1.text zS) ((zQ [zS] h1).bind fun _ _ _ _ _ h2=>(vJ (H .block (d+1) h2)).bind fun _ _ _ _ hb h3=>zJ.ok ?_ h3) (zJ.ok ht h1);obtain⟨e1,e2,e3,e4⟩:=jN ht;exact zR e1 e2 e3 (wA e4 (jC hb))
theorem qVK{l l':List Tok}(h:Al l l'):zJ xN (qQM l) (qQM l'):=(qQc rfl h).bind fun _ _ _ _ ht h1=>(zQ [[59]] h1).bind fun _ _ _ _ _ h2=>zJ.ok ht h2
theorem qW8(H:qZa rec)(d:Int){l l':List Tok}(h:Al l l'):zJ xN (qQA rec n d l) (qQA rec n d l'):=by
 unfold qQA;refine zJ.ite (h.text kIf) (qKM H d h) ?_;refine zJ.ite (h.text qA) (qZS H qA d h) ?_;refine zJ.ite (h.text qV) (qVJ H d h) ?_;refine zJ.ite (by rw[h.hd.text]) (qVI H d h) ?_;exact zJ.ite h.type (qVK h) (qKK H d h)
theorem qVH(H:qZa rec)(d:Int){l l':List Tok}(h:Al l l'):zJ xN (qQK rec n d l) (qQK rec n d l'):=by
 unfold qQK;refine(zQ [[123]] h).bind fun _ _ _ _ _ h1=>?_
 exact(qZA (fun ht=>by rw[ht.text]) (fun hl=>qW8 H d hl) n yL h1).bind fun _ _ _ _ hts h2=>(zQ [[125]] h2).bind fun _ _ _ _ _ h3=>zJ.ok (zR rfl rfl rfl hts) h3
end
theorem qXb:∀ n,qZa (qQd n)
 | 0=>fun _ _ _ _ _=>trivial
 | n+1=>fun x d l l' h=>by
  cases x with
  | block=>exact qVH (qXb n) d h
  | binary k=>exact qKL (qXb n) k d h
  | operand=>exact qJR (qXb n) d h
theorem qW7(n:Nat){l l':List Tok}(h:Al l l'):zJ xN (qZe n l) (qZe n l'):=by
 unfold qZe;refine(qQc (h.text zA) h).bind fun t t' l1 l1' ht h1=>?_
 obtain⟨e1,e2,e3,e4⟩:=jN ht;refine zJ.ite (by rw[h.hd.text,h1.hd.text]) ((qXu (fun hl=>qQc rfl hl) h1).bind fun _ _ _ _ hps h2=>(vJ (qXb n .block (0+1) h2)).bind fun _ _ _ _ hb h3=>zJ.ok (zR rfl e2 e3 (wA (wA e4 hps) (jC hb))) h3) ?_;refine zJ.ite (h1.text [91]) ((zQ [[91]] h1).bind fun _ _ _ _ _ h2=>(qXv h2).bind fun _ _ _ _ hm h3=>(zQ [[93]] h3).bind fun _ _ _ _ _ h4=>(zQ [[59]] h4).bind fun _ _ _ _ _ h5=>zJ.ok (zR e1 e2 e3 (wA e4 (jC hm))) h5) ?_;exact(zQ [[59]] h1).bind fun _ _ _ _ _ h2=>zJ.ok ht h2
theorem rel_program(n:Nat){l l':List Tok}(h:Al l l'):zJ xN (xW n l) (xW n l'):=by
 unfold xW;exact(qZA (fun ht=>by rw[ht.kind]) (fun hl=>qW7 n hl) n yL h).bind fun _ _ _ _ hts h1=>zJ.ok (zR rfl rfl rfl hts) h1
def T(w:List UInt8):Tok:=⟨vA w,w,if vA w=1 then(qJg w).getD 0 else 0,0,0⟩
section
variable {α β:Type} {D:Prop} {S:α->Prop} {S':β->Prop} {l l':List Tok}
end
/-! ### Words -/
theorem name_parts{x:List UInt8}(h:jH x=true):∃ b r,x=b :: r/\qZx b.toNat=true/\qWm x=false:=by
 unfold jH at h;cases x with
 | nil=>simp at h
 | cons b r =>
  simp only[qQ0,bE,Bool.or_eq_true,Bool.not_eq_true',beq_iff_eq]at h;refine⟨b,r,rfl,?_,h.2.2⟩;rcases h.1.1 with h1 | h1
  ·exact h1
  ·simp at h1
theorem type_in{x:List UInt8}(h:yG x=true):x∈qQw:=by
 have:∀ (L:List (List UInt8)),kJ x L=true->x∈L:=by
  intro L;induction L with
  | nil=>intro h;simp[kJ]at h
  | cons g r ih =>
   intro h;rw[kJ]at h;by_cases he:g=x
   ·simp[he]
   ·rw[if_neg he]at h;simp[ih h]
 exact this _ h
theorem qKE(k:Nat)(h:k < 10):(UInt8.ofNat (48+k)).toNat=48+k:=by
 rw[UInt8.toNat_ofNat'];omega
theorem qUI(u:Nat):∀ b∈Lib.decDigits u,48<=b.toNat/\b.toNat<=57:=by
 induction u using Nat.strongRecOn with
 | _ u ih =>
  intro b hb;rw[Lib.decDigits]at hb;by_cases h:u < 10
  ·rw[dif_pos h]at hb;obtain rfl:b=UInt8.ofNat (48+u):=by simpa using hb
   rw[qKE u h];omega
  ·rw[dif_neg h]at hb;rcases List.mem_append.1 hb with hb | hb
   ·exact ih (u / 10) (by omega) b hb
   ·obtain rfl:b=UInt8.ofNat (48+u % 10):=by simpa using hb
    rw[qKE _ (by omega)];omega
theorem dec_ne(u:Nat):Lib.decDigits u≠[]:=by
 rw[Lib.decDigits];by_cases h:u < 10
 ·rw[dif_pos h];simp
 ·rw[dif_neg h];simp
theorem qPr(u:Nat):∃ b r,Lib.decDigits u=b :: r/\48<=b.toNat/\b.toNat<=57:=by
 cases h:Lib.decDigits u with
 | nil=>exact absurd h (dec_ne u)
 | cons b r=>exact⟨b,r,rfl,qUI u b (by rw[h];simp)⟩
theorem num_app:∀ (l:List UInt8) (acc:Int) (b:UInt8),xJ 10 acc (l++[b])=(xJ 10 acc l).bind fun a=>xJ 10 a [b]
 | [],acc,b=>by simp[xJ]
 | c :: r,acc,b=>by
  rw[lC,xJ,xJ];split
  ·rfl
  ·exact num_app r _ b
theorem dig_of(k:Nat)(h:k < 10):qQa ((UInt8.ofNat (48+k)).toNat:Int)=k:=by
 rw[qKE k h];unfold qQa;rw[if_pos (by omega)];omega
theorem num_one(k:Nat)(h:k < 10)(a:Int)(ha:a * 10+k<=18446744073709551615):xJ 10 a [UInt8.ofNat (48+k)]=some (a * 10+k):=by
 rw[xJ,dig_of k h,if_neg (by omega),xJ]
theorem dec_from(u:Nat)(hu:u<=18446744073709551615):xJ 10 0 (Lib.decDigits u)=some (u:Int):=by
 induction u using Nat.strongRecOn with
 | _ u ih =>
  rw[Lib.decDigits];by_cases h:u < 10
  ·rw[dif_pos h,num_one u h 0 (by omega)];simp
  ·rw[dif_neg h,num_app,ih (u / 10) (by omega) (by omega),Option.bind_some,num_one (u % 10) (by omega) _ (by omega)];congr 1
   omega
theorem dec_hex(u:Nat):Lib.hasPrefix (Lib.decDigits u) qWl=false:=by
 cases h:Lib.decDigits u with
 | nil=>rfl
 | cons b r =>
  cases r with
  | nil=>cases hh:Lib.hasPrefix [b] qWl with
   | false=>rfl
   | true=>simp[Lib.hasPrefix,qWl]at hh
  | cons c r =>
   have hc:=qUI u c (by rw[h];simp);cases hh:Lib.hasPrefix (b :: c :: r) qWl with
   | false=>rfl
   | true =>
    exfalso;simp[Lib.hasPrefix,qWl]at hh;obtain⟨h1,h2⟩:=hh;subst h2;revert hc
    decide
theorem dec_num(u:Nat)(hu:u<=18446744073709551615):qJg (Lib.decDigits u)=some (u:Int):=by
 rw[qJg,if_neg (by rw[dec_hex];simp),if_neg (dec_ne u),dec_from u hu]
theorem dec_kind(u:Nat):vA (Lib.decDigits u)=1:=by
 obtain⟨b,r,e,h1,h2⟩:=qPr u;rw[e,vA];have hl:qZx (b.toNat:Int)=false:=by unfold qZx;simp;omega
 have hd:qQa (b.toNat:Int) < 10:=by unfold qQa;rw[if_pos (by omega)];omega
 rw[hl,if_neg (by simp),if_pos hd]
structure HeadE(w:List UInt8):Prop where
 type:yG w=false
 paren:w≠[41]
 nondet:w≠qW
 semi:w≠[59]
theorem qLj{x:List UInt8}(h:qXD x=true):x=[33]\/x=[126]\/x=[45]:=by
 simp only[qXD,Bool.or_eq_true,beq_iff_eq]at h;rcases h with(h | h) | h <;> simp[h]
theorem head_lit{w:List UInt8}(h:(yG w || (w == [41] || (w == qW || w == [59])))=false):HeadE w:=by
 simp only[Bool.or_eq_false_iff,beq_eq_false_iff_ne]at h;exact⟨h.1,h.2.1,h.2.2.1,h.2.2.2⟩
theorem op_in{x:List UInt8}(h:0<=xL x):x∈[[124,124],[38,38],[124],[94],[38],[61,61],[33,61],[60],[60,61],[62],[62,61],[60,60],[62,62],[43],[45],[42],[47],[37]]:=by
 by_cases hc:([[124,124],[38,38],[124],[94],[38],[61,61],[33,61],[60],[60,61],[62],[62,61],[60,60],[62,62],[43],[45],[42],[47],[37]]:List (List UInt8)).contains x=true
 ·simpa using hc
 ·exfalso;simp only[Bool.not_eq_true,List.contains_cons,List.contains_nil,bP,Bool.or_eq_false_iff]at hc;obtain⟨h0,h1,h2,h3,h4,h5,h6,h7,h8,h9,h10,h11,h12,h13,h14,h15,h16,h17⟩:=hc;have:xL x=-1:=by simp only[xL,jG,xE,List.contains_cons,List.contains_nil,bP,h0,h1,h2,h3,h4,h5,h6,h7,h8,h9,h10,h11,h12,h13,h14,h15,h16,h17,bF,if_false,reduceIte,Bool.or_self]
  omega
/-! ### The writer at a node that is spelled out -/
section
variable (rec:WT->qQ->Ws) (k x:List UInt8) (m ln co:Int) (ks:List qQ)
theorem qWZ:qZy (.mk k x m ln co ks)=ifW (k == zD && (x == [] && ks.length == 0)) (some [Lib.decDigits m.toNat]):=rfl
theorem qKN:wU rec (.mk k x m ln co ks)=if k == qL then
 match ks with
 | [e]=>ifW (jH x && m == 0) (jD (some [x,[91]]) (jD (rec .expr e) (some [[93]])))
 | _=>none
 else ifW (k == zM && (jH x && m == 0) && ks.length == 0) (some [x]):=rfl
theorem qX0:qY7 rec (.mk k x m ln co ks)=if k == qM then
 match ks with
 | [a,b]=>ifW (decide (0<=xL x) && m == 0) (jD (wZ rec a) (jD (some [x]) (wZ rec b)))
 | _=>none
 else if k == qT then
  match ks with
  | [a]=>ifW (qXD x && m == 0) (jD (some [x]) (wZ rec a))
  | _=>none
 else if k == zK then
  match ks with
  | [a]=>ifW (yG x && m == 0) (jD (some [[40],x,[41]]) (wZ rec a))
  | _=>none
 else if k == zL || k == qH then ifW ((x == [] && m == 0) && ks.length == 0) (some [k])
 else if k == zD then qZy (.mk k x m ln co ks)
 else wU rec (.mk k x m ln co ks):=rfl
theorem qWJ:qKY rec (.mk k x m ln co ks)=ifW (k == zW && (jH x && m == 0)) (jD (some [x,[40]]) (jD (wO (rec .expr) ks) (some [[41]]))):=rfl
theorem qJH:qQi rec (.mk k x m ln co ks)=match ks with
 | e :: b :: _=>jD (some [k,[40]]) (jD (rec .expr e) (jD (some [[41]]) (rec .block b)))
 | _=>none:=rfl
theorem qJb:qK0 rec (.mk k x m ln co ks)=ifW (x == [] && m == 0) (match ks with
 | [_,_]=>qQi rec (.mk k x m ln co ks)
 | [_,_,c]=>jD (qQi rec (.mk k x m ln co ks)) (jD (some [zS]) (rec .block c))
 | _=>none):=rfl
theorem qK7:qPF rec (.mk k x m ln co ks)=ifW (x == [] && m == 0) (match ks with
 | [y]=>ifW (k == qW) (jD (wU rec y) (some [[61],qW,[40],[41]]))
 | [y,z]=>if k == qP then jD (wU rec y) (jD (some [[61]]) (rec .expr z))else ifW (k == qN) (jD (wU rec y) (jD (some [[61]]) (qKY rec z)))
 | _=>none):=rfl
theorem qUJ(void:Bool):vY void (.mk k x m ln co ks)=match ks with
 | u :: _=>ifW (u.kind == zB && (u.num == 0 && u.kids.length == 0) && (yG u.text || void && u.text == zA)) (some [u.text,x])
 | []=>none:=rfl
theorem paramW_mk:qZ1 (.mk k x m ln co ks)=ifW (k == qO && (jH x && m == 0) && ks.length == 1) (vY false (.mk k x m ln co ks)):=rfl
theorem wX:qJr rec (.mk k x m ln co ks)=if k == kIf then qK0 rec (.mk k x m ln co ks)
 else if k == qA then ifW ((x == [] && m == 0) && ks.length == 2) (qQi rec (.mk k x m ln co ks))
 else if k == qE then ifW ((jH x && m == 0) && ks.length == 1) (qQn (vY false (.mk k x m ln co ks)))
 else if k == zW then qQn (qKY rec (.mk k x m ln co ks))
 else if k == qV then ifW ((x == [] && m == 0) && decide (ks.length<=1)) (qQn (jD (some [qV]) (wO (rec .expr) ks)))
 else if k == qF || k == qD then
  match ks with
  | [e]=>ifW (x == [] && m == 0) (qQn (jD (some [k,[40]]) (jD (rec .expr e) (some [[41]]))))
  | _=>none
 else qQn (qPF rec (.mk k x m ln co ks)):=rfl
theorem qYY:qVv rec (.mk k x m ln co ks)=ifW (k == zX && (x == [] && m == 0)) (jD (some [[123]]) (jD (qZP (qJr rec) ks) (some [[125]]))):=rfl
theorem qK6:kA rec (.mk k x m ln co ks)=match ks with
 | _ :: v :: r=>ifW (jH x && m == 0) (jD (vY true (.mk k x m ln co ks)) (jD (some [[40]]) (jD (wO qZ1 ((v :: r).dropLast)) (jD (some [[41]]) (rec .block ((v :: r).getLast (List.cons_ne_nil v r)))))))
 | _=>none:=rfl
theorem qKF:qXa (.mk k x m ln co ks)=ifW (k == qG && (jH x && m == 0)) (match ks with
 | [_]=>qQn (vY false (.mk k x m ln co ks))
 | [_,n]=>qQn (jD (vY false (.mk k x m ln co ks)) (jD (some [[91]]) (jD (qZy n) (some [[93]]))))
 | _=>none):=rfl
theorem qV9(n:Nat):qQO n (.mk k x m ln co ks)=ifW (k == qY && (x == [] && m == 0)) (qZP (fun k=>if k.kind == qC then kA (qZB n) k else qXa k) ks):=rfl
end
end Go.Proofs.YtiajhekdhhhghaaGreatDoor
