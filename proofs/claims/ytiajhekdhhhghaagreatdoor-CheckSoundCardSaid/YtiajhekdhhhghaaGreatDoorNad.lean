/- Walks. -/
import Derived.Test.YtiajhekdhhhghaaGreatDoorNac
set_option linter.all false
set_option maxHeartbeats 8000000
set_option maxRecDepth 100000
namespace Go.Proofs.YtiajhekdhhhghaaGreatDoor
open Tryz
open Go Go.RowKit
def xH(w:World)(ok:Nat->Prop)(ts:List qQ)(v:Value):Prop :=
 ∃ vs,w.ownsRow 0 57 6 v ts.length (qZK ts vs)/\(∀ g,v.ownBlock=some g->ok g)/\vV w (fun g=>ok g/\some g≠v.ownBlock) ts vs
theorem xH.move{w w':World}{ok ok':Nat->Prop}{ts:List qQ}{v:Value}(h:xH w ok ts v)(hm:∀ g,g < w.1.size->ok g->ok' g/\w'.1[g]? = w.1[g]?):xH w' ok' ts v:=by
 obtain⟨z,s,h2,h3⟩:=h;refine⟨z,⟨s.1,?_⟩,fun g hg=>(hm g (s.lt g hg).2 (h2 g hg)).1,vV.move (fun g hg hok=>⟨⟨(hm g hg hok.1).1,hok.2⟩,(hm g hg hok.1).2⟩) ts z h3⟩;rcases s.2 with h | ⟨g,o,y,rfl,hb,j,rest⟩
 ·exact .inl h
 ·exact .inr ⟨g,o,y,rfl,hb,((hm g (Array.getElem?_eq_some_iff.1 j).1 (h2 g rfl)).2).trans j,rest⟩
theorem xH.of{w:World}{lo:Nat}{ts:List qQ}{v:Value}(h:zC w lo ts v):xH w (fun g=>lo<=g) ts v:=by
 obtain⟨o,j,h2⟩:=h;exact⟨o,qKa j (Nat.zero_le _),fun g hg=>(j.lt g hg).1,h2⟩
theorem xH.build{w:World}{ok:Nat->Prop}{lo:Nat}{ts:List qQ}{v:Value}(h:xH w ok ts v)(hl:∀ g,ok g->lo<=g):zC w lo ts v:=by
 obtain⟨j,o,h2,h3⟩:=h;exact⟨j,qW2 o (fun g hg=>hl g (h2 g hg)),vV.move (fun g _ hok=>⟨⟨hl g hok.1,hok.2⟩,rfl⟩) ts j h3⟩
theorem xH.lies{w:World}{ok:Nat->Prop}{t:qQ}{v:Value}(h:xH w ok t.kids v):xZ w ok t v:=by
 obtain⟨j,o,h2,h3⟩:=h;cases t with
 | mk k x n l c ks=>exact⟨j,h2,o,vV.move (fun g _ hg=>⟨hg.1,rfl⟩) _ j h3⟩
theorem xH.grown{w w':World}{ok:Nat->Prop}{ts:List qQ}{v:Value}{r:Option Nat}(h:xH w ok ts v)(hg:w.grownBy w' r)(hr:∀ k,r=some k->¬ok k\/w.1.size<=k):xH w' ok ts v :=
 h.move fun g hlt hok=>⟨hok,hg.block g hlt (fun e=>by rcases hr g e.symm with h | h;exact h hok;omega)⟩
theorem xH.below{w w':World}{ok:Nat->Prop}{ts:List qQ}{v:Value}(h:xH w ok ts v)(hb:Below w.1.size w w'):xH w' ok ts v:=h.grown (zV hb none) (fun _ e=>by cases e)
theorem xH.shape{w:World}{ok:Nat->Prop}{ts:List qQ}{v:Value}(h:xH w ok ts v):∃ p n c,v=.slice p n c:=by
 obtain⟨y,o,_⟩:=h;rcases o.2 with⟨rfl,_⟩ | ⟨g,j,s,rfl,_⟩
 ·exact⟨_,_,_,rfl⟩
 ·exact⟨_,_,_,rfl⟩
theorem xH.lit2{w:World}{ok:Nat->Prop}{t s:qQ}{u v:Value}(h:xH w ok t.kids u)(o:xH w ok s.kids v)(j:ok w.1.size) :
 xH (w.alloc (.cells (qS t u++qS s v).toArray 57)) ok [t,s] (.slice (some ⟨w.1.size,0,none⟩) 2 2):=by
 refine⟨[u,v],?_,fun g hg=>by simp[Value.ownBlock]at hg;subst hg;exact j,?_,?_,trivial⟩
 ·simpa[qZK]using World.ownsRow_lit (base:=0) (e:=57) (size:=6) w (qS t u++qS s v).toArray 2 (by omega) (by decide) (by simp[qS])
 ·exact xZ.move (fun g hg hok=>⟨⟨hok,by simp[Value.ownBlock];omega⟩,heap_alloc_old w _ hg⟩) t u h.lies
 ·exact xZ.move (fun g hg hok=>⟨⟨hok,by simp[Value.ownBlock];omega⟩,heap_alloc_old w _ hg⟩) s v o.lies
theorem qVc(x:List UInt8):∀ (L:List (List (List UInt8))) (i:Int),0<=i->-1<=xE x i L/\xE x i L<=i+L.length
 | [],i,h=>by simp[xE];omega
 | g :: gs,i,h=>by
  rw[xE];split
  ·simp;omega
  ·have:=qVc x gs (i+1) (by omega);simp at *;omega
theorem levelI_bd(x:List UInt8):-1<=xL x/\xL x<=9:=by
 have h:=qVc x jG 0 (by omega);have j:∀ (L:List (List (List UInt8))) (i:Int),xE x i L < i+L.length\/xE x i L=-1:=by
  intro L;induction L with
  | nil=>intro i;exact .inr rfl
  | cons g gs ih =>
   intro i;rw[xE];split
   ·left;simp;omega
   ·rcases ih (i+1)with h | h
    ·left;simp at *;omega
    ·right;exact h
 have h2:=j jG 0;have h3:(jG.length:Int)=10:=rfl;unfold xL;omega
def BinRel(rec:NT->Int->List Tok->PR qQ)(k d:Int)(R:PR qQ)(w:World)(B Lb:Nat)(m:Nat)(wr:World):Prop :=
 ∃ left l v,St w B l d wr/\zI Lb left.kind left.text left.num left.line left.col v wr/\xH wr (fun g=>w.1.size+1<=g/\g≠Lb) left.kids v/\kX rec k d m left l=R
theorem qPi(rec:NT->Int->List Tok->PR qQ)(n:Nat)(k d:Int)(s1:0<=k)(hk:k<=10)(d8:vM 181 (fun p=>#[p]) d (rec .operand d))(f9:∀ j,0<=j->j<=10->vM 172 (fun p=>#[p, .int .i64 j]) d (rec (.binary j) d)) :
 vM 172 (fun p=>#[p, .int .i64 k]) d (qQy rec n k d):=by
 intro B l w h d4;have S0:=St.start h;have p5:=S0.hB;have R:rec .operand d l≠.out:=qWG d4;have HC:=hI (d8 B l _ S0.ps R);have d5:=hI d4;have m6:=hI R;have n4:=hI f9;have HS:=hI S0;have p7:=vS;clear h S0 d4 R d8 f9;unfold jY at *;go_enter func172,ntmps172
 go_wp2_with fail
 refine(HC.o).mono ?_;intro e G hq;rcases hq.cases m6.o with⟨A,l1,q1,n1,c1,he1,rfl,m5,hP1,hg1⟩ | ⟨ln,c,code,he1,rfl,hg1⟩;rotate_left
 ·refine⟨rfl,?_⟩;rw[show qQy rec n k d l=.bad ln c code from qXl he1];exact HS.o.pan ⟨rfl,hg1⟩
 have Y:qQy rec n k d l=kX rec k d n A l1:=bind_ok he1;have HR:=hI Y;have S1:=HS.o.call hP1 hg1;have n3:w.1.size < G.1.size:=S1.lt;have f5:=hI (S1.alloc (wD A.kind A.text A.num A.line A.col (.slice q1 n1 c1)));have f3:=hI (zI.new A.kind A.text A.num A.line A.col (.slice q1 n1 c1) G);have g9:xH (G.alloc (wD A.kind A.text A.num A.line A.col (.slice q1 n1 c1))) (fun g=>w.1.size+1<=g/\g≠G.1.size) A.kids (.slice q1 n1 c1) :=
  (xH.of (m5.mono (lo':=w.1.size+1) HS.o.lt)).move fun g hg hok=>⟨⟨hok,by omega⟩,heap_alloc_old G _ hg⟩
 have g6:=hI g9;clear Y S1 hP1 hg1 m5 he1 hq HC HS g9;unfold wD qZ at *;go_wp2_with fail
 go_loopg [] n (fun m wr=>BinRel rec k d (kX rec k d n A l1) w B G.1.size m wr)
 case atStart=>exact⟨A,l1,_,f5.o,f3.o,g6.o,rfl⟩
 case round =>
  obtain⟨left,l2,v,S,L,Bp,hm⟩:=hrel;obtain⟨t,r,rfl⟩:=S.ps.ends.ne;obtain⟨q,vn,vc,rfl⟩:=Bp.shape;have HM:=hI hm;cases gk with
  | zero =>
   exact absurd (HR.o.trans HM.o.symm) d5.o
  | succ m =>
  have H:=hI (kY B t r d _ S.ps);have HS:=hI S;have HL:=hI L;have HB:=hI Bp;clear S L Bp hm f5 f3 g6;go_wp2_with fail
  refine(H.o).mono ?_;rintro e w3 ⟨rfl,hb3⟩;have HV:=hI (qUf t.text);have f8:=hI (HS.o.below hb3);have f4:=hI (HL.o.below hb3);have d9:=hI (HB.o.below hb3);clear H HS HL HB hb3;unfold vT xA;go_wp2_with fail
  refine(HV.o _).mono ?_;rintro e w4 ⟨rfl,hb4⟩;have C:=hI (f8.o.below hb4);have I:=hI (f4.o.below hb4);have d3:=hI (d9.o.below hb4);have r9:=levelI_bd t.text;clear f8 f4 d9 hb4 HV;have z:kX rec k d (m+1) left (t :: r)=if xL t.text < k then .ok left (t :: r)else(rec (.binary (xL t.text+1)) d r).bind fun s l'=>kX rec k d m (.mk qM t.text 0 t.line t.col [left,s]) l':=by
   rw[kX,qX];simp only[jV,PR.bind,if_true]
  by_cases V:xL t.text < k
  ·rw[if_pos V]at z;have O:=hI (HR.o.trans (HM.o.symm.trans z));have n5:decide (xL t.text < k)=true:=by simpa using V
   have n9:=C.o.lt;have hs2:=I.o.lt;have hr:=C.o.res;have⟨r0,r1,r2,r3,r4,r5,_⟩:=hr.a;have⟨g0,g1,g2,g3,g4,g5,_⟩:=hr.b;clear hr;have hq:=I.o;have⟨r6,p8,s2,r8,p2,s0,_⟩:=hq.a;clear hq z I;generalize hA:xL t.text=lv at *;go_wp2
   refine bodyPost_ret (v:=qZ left (.slice q vn vc)) (by simp[results,results172,go_sem,qZ, *]) rfl ?_;rw[O.o];exact C.o.fin (d3.o.build fun g hg=>hg.1) _ _ _ _ _ _
  ·rw[if_neg V]at z;have n5:decide (xL t.text < k)=false:=by simpa using V
   have O:=hI (HM.o.symm.trans z);have n2:t.text≠[]:=fun e=>V (by rw[e];exact(show xL [] < k from by have:xL []=-1:=rfl;omega))
   have H:=hI (vB B t r d _ C.o.ps n2);have m7:=hI (jI t ⟨qM.toArray⟩ ⟨t.text.toArray⟩);have d2:rec (.binary (xL t.text+1)) d r≠.out:=fun e=>d5.o (HR.o.trans (O.o.trans (by rw[e];rfl)))
   have Z:=hI d2;have HC:=hI (n4.o (xL t.text+1) (by omega) (by omega));have p1:IntKind.i64.wrap (xL t.text+1)=xL t.text+1:=by rw[IntKind.wrap_i64];omega
   have n6:wrap64 (xL t.text+1)=xL t.text+1:=by unfold wrap64;omega
   clear z d2;generalize hA:xL t.text=lv at *;go_wp2_with fail
   refine(H.o).mono ?_;rintro e w5 ⟨rfl,hP5,hg5⟩;have m4:=hI ((C.o.call hP5 hg5).alloc (qXT t));have f6:=hI ((I.o.grown hg5 (by simp;omega)).alloc (qXT t));have f7:=hI ((d3.o.grown hg5 (fun j e=>by cases e;exact .inl (fun h=>by omega))).below ((Below.refl _ _).alloc (Nat.le_refl _) (qXT t)));have m2:=hI (wH.newO t w5);have p0:w.1.size < w5.1.size:=(C.o.call hP5 hg5).lt;have p3:G.1.size < w5.1.size:=(I.o.grown hg5 (by simp;omega)).lt;clear H C I d3 hP5 hg5;unfold qXT vT xA at *;have⟨k0,k1,k2,k3,k4,_⟩:=m2.o.a;go_wp2_with fail
   refine(m7.o _).mono ?_;rintro e X ⟨rfl,U⟩;have m0:=hI ((m4.o.below U).alloc (wD qM t.text 0 t.line t.col (.slice none 0 0)));have g8:=hI ((f6.o.below U).alloc (wD qM t.text 0 t.line t.col (.slice none 0 0)));have d6:xH (X.alloc (wD qM t.text 0 t.line t.col (.slice none 0 0))) (fun g=>(w.1.size+1<=g/\g≠G.1.size)/\g≠X.1.size) left.kids (.slice q vn vc):=(f7.o.below U).move fun g hg hok=>⟨⟨hok,by omega⟩,heap_alloc_old X _ hg⟩
   have m3:=hI d6;clear d6;have d7:=hI (zI.new qM t.text 0 t.line t.col (.slice none 0 0) X);have r7:w5.1.size < X.1.size:=by have:=U.size;simp at this;omega
   clear m7 m4 f6 f7 m2 U k0 k1 k2 k3 k4;unfold wD at *;go_wp2_with fail
   refine wRg (S:=fun w'=>zI G.1.size left.kind left.text left.num left.line left.col (.slice q vn vc) w') 5 ?_;have SS:=hI m0.o.drew;have LL:=hI (g8.o.below (Below.refl _ _).drew);have BB:=hI (m3.o.below (Below.refl _ _).drew);have NN:=hI (d7.o.below (Below.refl _ _).drew);clear m0 g8 m3 d7;generalize World.drew _=wd at *;refine wTk 0 25 (.agg #[.string ⟨left.kind.toArray⟩, .string ⟨left.text.toArray⟩, .int .u64 left.num, .int .i64 left.line, .int .i64 left.col, .slice q vn vc]) ?_ LL.o ?_
   ·intro _ y;have⟨h0,h1,h2,h3,h4,h5,_⟩:=y.a;go_simp
   refine wTk 1 26 (.pointer (some ⟨B,0,none⟩)) ?_ LL.o ?_
   ·intro _ y;go_simp
   refine wTk 2 27 (.int .i64 lv) ?_ LL.o ?_
   ·intro _ y;go_simp
   refine wTk 3 28 (.int .i64 (lv+1)) ?_ LL.o ?_
   ·intro _ y;go_simp
   refine wOn 4 fun K hK=>?_
   go_simp;refine(HC.o B r _ SS.o.ps Z.o).mono ?_;intro e J hq;rcases hq.cases Z.o with⟨s7,l7,q7,n7,c7,he7,rfl,m1,hP7,hg7⟩ | ⟨ln,c,code,he7,rfl,hg7⟩;rotate_left
   ·refine⟨rfl,?_⟩;rw[HR.o,O.o,he7];exact SS.o.pan ⟨rfl,hg7⟩
   have p9:=NN.o.lt;have S7:=hI (SS.o.call hP7 hg7);have L7:=hI (LL.o.grown hg7 (by simp;omega));have B7:=hI (BB.o.grown hg7 (fun j e=>by cases e;exact .inl (fun h=>by omega)));have N7:=hI (NN.o.grown hg7 (by simp;omega));have p6:wd.1.size<=J.1.size:=hg7.size;have K7:xH J (fun g=>(w.1.size+1<=g/\g≠G.1.size)/\g≠X.1.size) s7.kids (.slice q7 n7 c7):=(xH.of m1).move fun g hg hok=>⟨⟨⟨by omega,by omega⟩,by omega⟩,rfl⟩
   have n0:=hI K7;have m9:=hI he7;have s3:=N7.o.f 5 nL;have n8:=N7.o.c5;have p4:=N7.o.lt;clear hP7 hg7 m1 K7 he7 hq SS LL BB NN HC;unfold qZ;refine kK hK L7.o ?_;clear hK K;refine wOn 5 fun K hK=>?_
   go_simp;refine kD hK ?_;clear hK K;refine wOn 6 fun K hK=>?_
   go_simp;refine kD hK ?_;clear hK K;refine wOn 7 fun K hK=>?_
   go_simp;refine kD hK ?_;clear hK K;refine wDn ?_ _;have⟨x0,x1,x2,x3,x4,_⟩:=N7.o.a;have⟨z0,z1,z2,z3,z4,z5,_⟩:=L7.o.a;have⟨y0,y1,y2,y3,y4,y5,_⟩:=L7.o.b;have s4:=L7.o.lt;unfold qM at x0;go_wp2
   go_roundg m
   case measure=>omega
   case rel =>
    have h1:=(B7.o.grown (jM J X.1.size 5 (.slice (some ⟨J.1.size,0,none⟩) 2 2)) (fun j e=>by cases e;exact .inl (fun h=>h.2 rfl))).grown (vQ _ G.1.size (.string ⟨qM.toArray⟩) (.string ⟨t.text.toArray⟩) (.int .u64 0) (.int .i64 t.line) (.int .i64 t.col) (.slice (some ⟨J.1.size,0,none⟩) 2 2)) (fun j e=>by cases e;exact .inl (fun h=>h.1.2 rfl));have h2:=(n0.o.grown (jM J X.1.size 5 (.slice (some ⟨J.1.size,0,none⟩) 2 2)) (fun j e=>by cases e;exact .inl (fun h=>h.2 rfl))).grown (vQ _ G.1.size (.string ⟨qM.toArray⟩) (.string ⟨t.text.toArray⟩) (.int .u64 0) (.int .i64 t.line) (.int .i64 t.col) (.slice (some ⟨J.1.size,0,none⟩) 2 2)) (fun j e=>by cases e;exact .inl (fun h=>h.1.2 rfl));have g7:(six (J.setCell ⟨X.1.size,5,none⟩ (.slice (some ⟨J.1.size,0,none⟩) 2 2)) G.1.size (.string ⟨qM.toArray⟩) (.string ⟨t.text.toArray⟩) (.int .u64 0) (.int .i64 t.line) (.int .i64 t.col) (.slice (some ⟨J.1.size,0,none⟩) 2 2)).1.size=J.1.size:=by simp[six]
    have h3:=(h1.lit2 h2 (by rw[g7];exact⟨⟨by omega,by omega⟩,by omega⟩)).move (ok':=fun g=>w.1.size+1<=g/\g≠G.1.size) fun g _ hok=>⟨hok.1,rfl⟩
    rw[g7]at h3;refine⟨.mk qM t.text 0 t.line t.col [left,s7],l7,_,((S7.o.setN (by omega) _ _).six n3 _ _ _ _ _ _).alloc _,((L7.o.grown (jM _ _ _ _) (by simp;omega)).six qM t.text 0 t.line t.col _).alloc _,h3,?_⟩;rw[O.o,m9.o];rfl
theorem qUK(rec:WT->qQ->Ws)(g1:kZ 150 (fun p n=>#[p,n]) (rec .expr)):kZ 150 (fun p n=>#[p,n]) (qY7 rec):=by
 intro lo B acc t v w ws Y hL hF A z;obtain⟨k,x,m,ln,co,ks⟩:=t;obtain⟨d3,J,n9,n8,O,R⟩:=id hF;simp only[qY7,qY,qG,qC,qO,zB,zD,zX,qE,kIf,zS,qA,qV,qF,qD,qP,qW,qN,zW,zM,qL,qM,qT,zK,zL,qH,zA,qQ.kind,qQ.text,qQ.num,qQ.line,qQ.col,qQ.kids]at A;cases g6:(k == [98,105,110,97,114,121]);case true =>
  simp only[g6,bU,bV,bT,if_true,reduceIte]at A;obtain rfl:k=[98,105,110,97,114,121]:=by simpa using g6
  clear g6;rcases ks with _ | ⟨a0,_ | ⟨a1,_ | ⟨b,r⟩⟩⟩
  ·simp at A
  ·simp at A
  rotate_left
  ·simp at A
  simp only at A;obtain⟨hb,he1⟩:=zN A;clear A;simp only[bE,decide_eq_true_eq]at hb;obtain⟨n5,g2⟩:=hb;have p0:(0:Int)<=xL x:=of_decide_eq_true n5;have p1:¬xL x < 0:=by omega
  obtain⟨g7,m0,d2,d7,f6⟩:=qK he1;subst f6;clear he1;obtain⟨p2,n7,m4,n6,n4⟩:=qK d7;subst n4;clear d7;injection m4 with m4;subst m4;obtain⟨g0,vc,hv,hR⟩:=hL.row (by simp[qQ.kids]);have HR:=hI hR;clear hR;simp only[qQ.kind,qQ.text,qQ.num,qQ.line,qQ.col,qQ.kids,List.length]at hv;subst hv;have y:=hI (Sw.start Y hL);have HF:=hI hF;have X:=hI R;have s:=hI z;have d6:=Y.lt;have d5:=hI J;have C:=hI O;clear Y hF hL R z d3 J O;try simp only[qZ,qS,qQ.kind,qQ.text,qQ.num,qQ.line,qQ.col,qQ.kids]at *
  go_enter func150,ntmps150
  obtain⟨c0,c1,c2,c3,c4,c5⟩:=y.o.cells;have j:=y.o.lt;go_wp2_with fail
  try clear c0 c1 c2 c3 c4 c5
  try clear j
  refine(qUf x _).mono ?_;rintro e w3 ⟨rfl,hb3⟩;have S3:=hI (y.o.below hb3);clear y hb3;obtain⟨c0,c1,c2,c3,c4,c5⟩:=S3.o.cells;have j:=S3.o.lt;go_wp2_with fail
  try clear c0 c1 c2 c3 c4 c5
  try clear j
  have HQ:=qXA (t:=(.mk [98,105,110,97,114,121] x m ln co [a0,a1])) (v:=.slice (some ⟨g0,0,none⟩) 2 vc) (lo:=2) (hi:=2) _ S3.o.wr.tab rfl (by simpa[qQ.num]using g2) (by first | simp | omega | (have:=C.o;(try simp only[List.length]at this ⊢);omega)) (by first | simp | omega | (have:=C.o;(try simp only[List.length]at this ⊢);omega));simp only[qZ,qQ.kind,qQ.text,qQ.num,qQ.line,qQ.col,qQ.kids]at HQ;refine HQ.mono ?_;clear HQ;rintro e w4 ⟨rfl,hb4⟩;have S4:=hI (S3.o.below hb4);clear S3 hb4;obtain⟨c0,c1,c2,c3,c4,c5⟩:=S4.o.cells;have j:=S4.o.lt;go_wp2_with fail
  refine(jF _).mono ?_;rintro e w' ⟨rfl,rfl⟩;try clear c0 c1 c2 c3 c4 c5 j
  obtain⟨qa,na,ca,G,I⟩:=(HR.o.keep S4.o.kp.below).2 0 (by simp);simp only[Nat.zero_add,Nat.zero_mul,Nat.one_mul,Nat.reduceAdd,Nat.reduceMul,List.getElem_cons_zero,List.getElem_cons_succ]at G I;have⟨k0,k1,k2,k3,k4,k5,_⟩:=I.a;simp only[Nat.zero_add,Nat.zero_mul,Nat.one_mul,Nat.reduceAdd,Nat.reduceMul,List.getElem_cons_zero,List.getElem_cons_succ]at k0 k1 k2 k3 k4 k5;have U:=hI ((qJ9 rec g1) lo B acc a0 (.slice qa na ca) _ g7 S4.o.wr G (X.o.mem _ (by simp)) d2 (by have:=s.o;(try simp only[lL,lO,lZ]at this ⊢);omega));clear I G;try simp only[qZ]at U
  obtain⟨c0,c1,c2,c3,c4,c5⟩:=S4.o.cells;have j:=S4.o.lt;go_wp2_with fail
  try clear c0 c1 c2 c3 c4 c5
  try clear j
  try clear k0 k1 k2 k3 k4 k5
  refine(U.o).mono ?_;rintro e w5 ⟨rfl,m7,n3⟩;have S5:=hI (S4.o.call m7 n3);clear S4 m7 n3 U;obtain⟨c0,c1,c2,c3,c4,c5⟩:=S5.o.cells;have j:=S5.o.lt;go_wp2_with fail
  try clear c0 c1 c2 c3 c4 c5
  try clear j
  have H:=jZ (S:=w5.1.size) [x] S5.o.wr (by simp) (by simp) (by have:=s.o;(try simp only[lL,lO,lZ]at this ⊢);omega);simp only[jT,List.map,List.length]at H;refine H.mono ?_;clear H;rintro e w6 ⟨rfl,m6,n2⟩;have S6:=hI (S5.o.call m6 n2);clear S5 m6 n2;obtain⟨qa,na,ca,G,I⟩:=(HR.o.keep S6.o.kp.below).2 1 (by simp);simp only[Nat.zero_add,Nat.zero_mul,Nat.one_mul,Nat.reduceAdd,Nat.reduceMul,List.getElem_cons_zero,List.getElem_cons_succ]at G I;have⟨k0,k1,k2,k3,k4,k5,_⟩:=I.a;simp only[Nat.zero_add,Nat.zero_mul,Nat.one_mul,Nat.reduceAdd,Nat.reduceMul,List.getElem_cons_zero,List.getElem_cons_succ]at k0 k1 k2 k3 k4 k5;have U:=hI ((qJ9 rec g1) lo B ((acc++g7)++[x]) a1 (.slice qa na ca) _ n7 S6.o.wr G (X.o.mem _ (by simp)) n6 (by have:=s.o;(try simp only[lL,lO,lZ]at this ⊢);omega));clear I G;try simp only[qZ]at U
  obtain⟨c0,c1,c2,c3,c4,c5⟩:=S6.o.cells;have j:=S6.o.lt;go_wp2_with fail
  try clear c0 c1 c2 c3 c4 c5
  try clear j
  try clear k0 k1 k2 k3 k4 k5
  refine(U.o).mono ?_;rintro e w7 ⟨rfl,n0,n1⟩;have S7:=hI (S6.o.call n0 n1);clear S6 n0 n1 U;go_wp2
  first | go_end0 | refine bodyPost_ret (v:=.tuple #[]) (by simp[results,results150,go_sem]) rfl ?_
  exact⟨rfl,by simpa[List.append_assoc,qY,qG,qC,qO,zB,zD,zX,qE,kIf,zS,qA,qV,qF,qD,qP,qW,qN,zW,zM,qL,qM,qT,zK,zL,qH,zA]using S7.o.wr,S7.o.kp⟩
 case false =>
 simp only[g6,bO,bP,bF,if_false,reduceIte]at A;cases m3:(k == [117,110,97,114,121]);case true =>
  simp only[m3,bU,bV,bT,if_true,reduceIte]at A;obtain rfl:k=[117,110,97,114,121]:=by simpa using m3
  clear m3;rcases ks with _ | ⟨a0,_ | ⟨b,r⟩⟩
  ·simp at A
  rotate_left
  ·simp at A
  simp only at A;obtain⟨hb,he1⟩:=zN A;clear A;simp only[bE,decide_eq_true_eq]at hb;obtain⟨hu,g2⟩:=hb;obtain⟨g7,m0,d2,d7,f6⟩:=qK he1;subst f6;clear he1;injection d2 with d2;subst d2;obtain⟨g0,vc,hv,hR⟩:=hL.row (by simp[qQ.kids]);have HR:=hI hR;clear hR;simp only[qQ.kind,qQ.text,qQ.num,qQ.line,qQ.col,qQ.kids,List.length]at hv;subst hv;have y:=hI (Sw.start Y hL);have HF:=hI hF;have X:=hI R;have s:=hI z;have d6:=Y.lt;have d5:=hI J;have C:=hI O;clear Y hF hL R z d3 J O;try simp only[qZ,qS,qQ.kind,qQ.text,qQ.num,qQ.line,qQ.col,qQ.kids]at *
  go_enter func150,ntmps150
  have d9:=hI (qVR x);rw[hu]at d9;obtain⟨c0,c1,c2,c3,c4,c5⟩:=y.o.cells;have j:=y.o.lt;go_wp2_with fail
  try clear c0 c1 c2 c3 c4 c5
  try clear j
  refine(d9.o _).mono ?_;rintro e w' ⟨rfl,rfl⟩;obtain⟨c0,c1,c2,c3,c4,c5⟩:=y.o.cells;have j:=y.o.lt;go_wp2_with fail
  try clear c0 c1 c2 c3 c4 c5
  try clear j
  have HQ:=qXA (t:=(.mk [117,110,97,114,121] x m ln co [a0])) (v:=.slice (some ⟨g0,0,none⟩) 1 vc) (lo:=1) (hi:=1) _ y.o.wr.tab rfl (by simpa[qQ.num]using g2) (by first | simp | omega | (have:=C.o;(try simp only[List.length]at this ⊢);omega)) (by first | simp | omega | (have:=C.o;(try simp only[List.length]at this ⊢);omega));simp only[qZ,qQ.kind,qQ.text,qQ.num,qQ.line,qQ.col,qQ.kids]at HQ;refine HQ.mono ?_;clear HQ;rintro e w2 ⟨rfl,g4⟩;have V:=hI (y.o.below g4);clear y g4;obtain⟨c0,c1,c2,c3,c4,c5⟩:=V.o.cells;have j:=V.o.lt;go_wp2_with fail
  refine(jF _).mono ?_;rintro e w' ⟨rfl,rfl⟩;try clear c0 c1 c2 c3 c4 c5 j
  obtain⟨c0,c1,c2,c3,c4,c5⟩:=V.o.cells;have j:=V.o.lt;go_wp2_with fail
  try clear c0 c1 c2 c3 c4 c5
  try clear j
  have H:=jZ (S:=w2.1.size) [x] V.o.wr (by simp) (by simp) (by have:=s.o;(try simp only[lL,lO,lZ]at this ⊢);omega);simp only[jT,List.map,List.length]at H;refine H.mono ?_;clear H;rintro e w3 ⟨rfl,f3,f8⟩;have S3:=hI (V.o.call f3 f8);clear V f3 f8;obtain⟨qa,na,ca,G,I⟩:=(HR.o.keep S3.o.kp.below).2 0 (by simp);simp only[Nat.zero_add,Nat.zero_mul,Nat.one_mul,Nat.reduceAdd,Nat.reduceMul,List.getElem_cons_zero,List.getElem_cons_succ]at G I;have⟨k0,k1,k2,k3,k4,k5,_⟩:=I.a;simp only[Nat.zero_add,Nat.zero_mul,Nat.one_mul,Nat.reduceAdd,Nat.reduceMul,List.getElem_cons_zero,List.getElem_cons_succ]at k0 k1 k2 k3 k4 k5;have U:=hI ((qJ9 rec g1) lo B (acc++[x]) a0 (.slice qa na ca) _ m0 S3.o.wr G (X.o.mem _ (by simp)) d7 (by have:=s.o;(try simp only[lL,lO,lZ]at this ⊢);omega));clear I G;try simp only[qZ]at U
  obtain⟨c0,c1,c2,c3,c4,c5⟩:=S3.o.cells;have j:=S3.o.lt;go_wp2_with fail
  try clear c0 c1 c2 c3 c4 c5
  try clear j
  try clear k0 k1 k2 k3 k4 k5
  refine(U.o).mono ?_;rintro e w4 ⟨rfl,f9,d8⟩;have S4:=hI (S3.o.call f9 d8);clear S3 f9 d8 U;go_wp2
  first | go_end0 | refine bodyPost_ret (v:=.tuple #[]) (by simp[results,results150,go_sem]) rfl ?_
  exact⟨rfl,by simpa[List.append_assoc,qY,qG,qC,qO,zB,zD,zX,qE,kIf,zS,qA,qV,qF,qD,qP,qW,qN,zW,zM,qL,qM,qT,zK,zL,qH,zA]using S4.o.wr,S4.o.kp⟩
 case false =>
 simp only[m3,bO,bP,bF,if_false,reduceIte]at A;cases m1:(k == [99,97,115,116]);case true =>
  simp only[m1,bU,bV,bT,if_true,reduceIte]at A;obtain rfl:k=[99,97,115,116]:=by simpa using m1
  clear m1;rcases ks with _ | ⟨a0,_ | ⟨b,r⟩⟩
  ·simp at A
  rotate_left
  ·simp at A
  simp only at A;obtain⟨hb,he1⟩:=zN A;clear A;simp only[bE,decide_eq_true_eq]at hb;obtain⟨hu,g2⟩:=hb;obtain⟨g7,m0,d2,d7,f6⟩:=qK he1;subst f6;clear he1;injection d2 with d2;subst d2;obtain⟨g0,vc,hv,hR⟩:=hL.row (by simp[qQ.kids]);have HR:=hI hR;clear hR;simp only[qQ.kind,qQ.text,qQ.num,qQ.line,qQ.col,qQ.kids,List.length]at hv;subst hv;have y:=hI (Sw.start Y hL);have HF:=hI hF;have X:=hI R;have s:=hI z;have d6:=Y.lt;have d5:=hI J;have C:=hI O;clear Y hF hL R z d3 J O;try simp only[qZ,qS,qQ.kind,qQ.text,qQ.num,qQ.line,qQ.col,qQ.kids]at *
  go_enter func150,ntmps150
  have d9:=hI (qXC ⟨x.toArray⟩ _ y.o.wr.tab.types);have m9:(⟨x.toArray⟩:ByteArray).data.toList=x:=by simp
  rw[m9,hu]at d9;clear m9;obtain⟨c0,c1,c2,c3,c4,c5⟩:=y.o.cells;have j:=y.o.lt;go_wp2_with fail
  try clear c0 c1 c2 c3 c4 c5
  try clear j
  refine(d9.o).mono ?_;rintro e w' ⟨rfl,rfl⟩;obtain⟨c0,c1,c2,c3,c4,c5⟩:=y.o.cells;have j:=y.o.lt;go_wp2_with fail
  try clear c0 c1 c2 c3 c4 c5
  try clear j
  have HQ:=qXA (t:=(.mk [99,97,115,116] x m ln co [a0])) (v:=.slice (some ⟨g0,0,none⟩) 1 vc) (lo:=1) (hi:=1) _ y.o.wr.tab rfl (by simpa[qQ.num]using g2) (by first | simp | omega | (have:=C.o;(try simp only[List.length]at this ⊢);omega)) (by first | simp | omega | (have:=C.o;(try simp only[List.length]at this ⊢);omega));simp only[qZ,qQ.kind,qQ.text,qQ.num,qQ.line,qQ.col,qQ.kids]at HQ;refine HQ.mono ?_;clear HQ;rintro e w2 ⟨rfl,g4⟩;have V:=hI (y.o.below g4);clear y g4;obtain⟨c0,c1,c2,c3,c4,c5⟩:=V.o.cells;have j:=V.o.lt;go_wp2_with fail
  refine(jF _).mono ?_;rintro e w' ⟨rfl,rfl⟩;try clear c0 c1 c2 c3 c4 c5 j
  obtain⟨c0,c1,c2,c3,c4,c5⟩:=V.o.cells;have j:=V.o.lt;go_wp2_with fail
  try clear c0 c1 c2 c3 c4 c5
  try clear j
  have H:=jZ (S:=w2.1.size) [[40],x,[41]] V.o.wr (by simp) (by simp) (by have:=s.o;(try simp only[lL,lO,lZ]at this ⊢);omega);simp only[jT,List.map,List.length]at H;refine H.mono ?_;clear H;rintro e w3 ⟨rfl,f3,f8⟩;have S3:=hI (V.o.call f3 f8);clear V f3 f8;obtain⟨qa,na,ca,G,I⟩:=(HR.o.keep S3.o.kp.below).2 0 (by simp);simp only[Nat.zero_add,Nat.zero_mul,Nat.one_mul,Nat.reduceAdd,Nat.reduceMul,List.getElem_cons_zero,List.getElem_cons_succ]at G I;have⟨k0,k1,k2,k3,k4,k5,_⟩:=I.a;simp only[Nat.zero_add,Nat.zero_mul,Nat.one_mul,Nat.reduceAdd,Nat.reduceMul,List.getElem_cons_zero,List.getElem_cons_succ]at k0 k1 k2 k3 k4 k5;have U:=hI ((qJ9 rec g1) lo B (acc++[[40],x,[41]]) a0 (.slice qa na ca) _ m0 S3.o.wr G (X.o.mem _ (by simp)) d7 (by have:=s.o;(try simp only[lL,lO,lZ]at this ⊢);omega));clear I G;try simp only[qZ]at U
  obtain⟨c0,c1,c2,c3,c4,c5⟩:=S3.o.cells;have j:=S3.o.lt;go_wp2_with fail
  try clear c0 c1 c2 c3 c4 c5
  try clear j
  try clear k0 k1 k2 k3 k4 k5
  refine(U.o).mono ?_;rintro e w4 ⟨rfl,f9,d8⟩;have S4:=hI (S3.o.call f9 d8);clear S3 f9 d8 U;go_wp2
  first | go_end0 | refine bodyPost_ret (v:=.tuple #[]) (by simp[results,results150,go_sem]) rfl ?_
  exact⟨rfl,by simpa[List.append_assoc,qY,qG,qC,qO,zB,zD,zX,qE,kIf,zS,qA,qV,qF,qD,qP,qW,qN,zW,zM,qL,qM,qT,zK,zL,qH,zA]using S4.o.wr,S4.o.kp⟩
 case false =>
 simp only[m1,bO,bP,bF,if_false,reduceIte]at A;cases g9:(k == [116,114,117,101]);case true =>
  simp only[g9,bU,bV,bT,if_true,reduceIte]at A;obtain rfl:k=[116,114,117,101]:=by simpa using g9
  clear g9;obtain⟨hb,he1⟩:=zN A;clear A;simp only[bE,decide_eq_true_eq]at hb;obtain⟨d4,hl⟩:=hb;obtain rfl:ks=[]:=by simpa using hl
  injection he1 with he1;subst he1;clear hl;obtain⟨q0,vc,hv,hvc,m5⟩:=hL.shape;simp only[qQ.kind,qQ.text,qQ.num,qQ.line,qQ.col,qQ.kids,List.length]at hv;subst hv;have y:=hI (Sw.start Y hL);have HF:=hI hF;have X:=hI R;have s:=hI z;have d6:=Y.lt;have d5:=hI J;have C:=hI O;clear Y hF hL R z d3 J O;try simp only[qZ,qS,qQ.kind,qQ.text,qQ.num,qQ.line,qQ.col,qQ.kids]at *
  go_enter func150,ntmps150
  obtain⟨c0,c1,c2,c3,c4,c5⟩:=y.o.cells;have j:=y.o.lt;go_wp2_with fail
  try clear c0 c1 c2 c3 c4 c5
  try clear j
  have HQ:=wB (t:=(.mk [116,114,117,101] x m ln co [])) (v:=.slice q0 0 vc) (lo:=0) (hi:=0) _ y.o.wr.tab rfl d4 (by first | simp | omega | (have:=C.o;(try simp only[List.length]at this ⊢);omega)) (by first | simp | omega | (have:=C.o;(try simp only[List.length]at this ⊢);omega));simp only[qZ,qQ.kind,qQ.text,qQ.num,qQ.line,qQ.col,qQ.kids]at HQ;refine HQ.mono ?_;clear HQ;rintro e w1 ⟨rfl,g5⟩;have Z:=hI (y.o.below g5);clear y g5;obtain⟨c0,c1,c2,c3,c4,c5⟩:=Z.o.cells;have j:=Z.o.lt;go_wp2_with fail
  refine(jF _).mono ?_;rintro e w' ⟨rfl,rfl⟩;try clear c0 c1 c2 c3 c4 c5 j
  obtain⟨c0,c1,c2,c3,c4,c5⟩:=Z.o.cells;have j:=Z.o.lt;go_wp2_with fail
  try clear c0 c1 c2 c3 c4 c5
  try clear j
  have H:=jZ (S:=w1.1.size) [[116,114,117,101]] Z.o.wr (by simp) (by simp) (by have:=s.o;(try simp only[lL,lO,lZ]at this ⊢);omega);simp only[jT,List.map,List.length]at H;refine H.mono ?_;clear H;rintro e w2 ⟨rfl,g3,f7⟩;have V:=hI (Z.o.call g3 f7);clear Z g3 f7;go_wp2
  first | go_end0 | refine bodyPost_ret (v:=.tuple #[]) (by simp[results,results150,go_sem]) rfl ?_
  exact⟨rfl,by simpa[List.append_assoc,qY,qG,qC,qO,zB,zD,zX,qE,kIf,zS,qA,qV,qF,qD,qP,qW,qN,zW,zM,qL,qM,qT,zK,zL,qH,zA]using V.o.wr,V.o.kp⟩
 case false =>
 simp only[g9,bO,bP,bF,if_false,reduceIte]at A;cases m2:(k == [102,97,108,115,101]);case true =>
  simp only[m2,bU,bV,bT,if_true,reduceIte]at A;obtain rfl:k=[102,97,108,115,101]:=by simpa using m2
  clear m2;obtain⟨hb,he1⟩:=zN A;clear A;simp only[bE,decide_eq_true_eq]at hb;obtain⟨d4,hl⟩:=hb;obtain rfl:ks=[]:=by simpa using hl
  injection he1 with he1;subst he1;clear hl;obtain⟨q0,vc,hv,hvc,m5⟩:=hL.shape;simp only[qQ.kind,qQ.text,qQ.num,qQ.line,qQ.col,qQ.kids,List.length]at hv;subst hv;have y:=hI (Sw.start Y hL);have HF:=hI hF;have X:=hI R;have s:=hI z;have d6:=Y.lt;have d5:=hI J;have C:=hI O;clear Y hF hL R z d3 J O;try simp only[qZ,qS,qQ.kind,qQ.text,qQ.num,qQ.line,qQ.col,qQ.kids]at *
  go_enter func150,ntmps150
  obtain⟨c0,c1,c2,c3,c4,c5⟩:=y.o.cells;have j:=y.o.lt;go_wp2_with fail
  try clear c0 c1 c2 c3 c4 c5
  try clear j
  have HQ:=wB (t:=(.mk [102,97,108,115,101] x m ln co [])) (v:=.slice q0 0 vc) (lo:=0) (hi:=0) _ y.o.wr.tab rfl d4 (by first | simp | omega | (have:=C.o;(try simp only[List.length]at this ⊢);omega)) (by first | simp | omega | (have:=C.o;(try simp only[List.length]at this ⊢);omega));simp only[qZ,qQ.kind,qQ.text,qQ.num,qQ.line,qQ.col,qQ.kids]at HQ;refine HQ.mono ?_;clear HQ;rintro e w1 ⟨rfl,g5⟩;have Z:=hI (y.o.below g5);clear y g5;obtain⟨c0,c1,c2,c3,c4,c5⟩:=Z.o.cells;have j:=Z.o.lt;go_wp2_with fail
  refine(jF _).mono ?_;rintro e w' ⟨rfl,rfl⟩;try clear c0 c1 c2 c3 c4 c5 j
  obtain⟨c0,c1,c2,c3,c4,c5⟩:=Z.o.cells;have j:=Z.o.lt;go_wp2_with fail
  try clear c0 c1 c2 c3 c4 c5
  try clear j
  have H:=jZ (S:=w1.1.size) [[102,97,108,115,101]] Z.o.wr (by simp) (by simp) (by have:=s.o;(try simp only[lL,lO,lZ]at this ⊢);omega);simp only[jT,List.map,List.length]at H;refine H.mono ?_;clear H;rintro e w2 ⟨rfl,g3,f7⟩;have V:=hI (Z.o.call g3 f7);clear Z g3 f7;go_wp2
  first | go_end0 | refine bodyPost_ret (v:=.tuple #[]) (by simp[results,results150,go_sem]) rfl ?_
  exact⟨rfl,by simpa[List.append_assoc,qY,qG,qC,qO,zB,zD,zX,qE,kIf,zS,qA,qV,qF,qD,qP,qW,qN,zW,zM,qL,qM,qT,zK,zL,qH,zA]using V.o.wr,V.o.kp⟩
 case false =>
 simp only[m2,bO,bP,bF,if_false,reduceIte]at A;cases g8:(k == [110,117,109]);case true =>
  simp only[g8,bU,bV,bT,if_true,reduceIte]at A;obtain rfl:k=[110,117,109]:=by simpa using g8
  clear g8;obtain⟨q0,vc,hv,hvc,m5⟩:=hL.shape;simp only[qQ.kind,qQ.text,qQ.num,qQ.line,qQ.col,qQ.kids,List.length]at hv;subst hv;have y:=hI (Sw.start Y hL);have HF:=hI hF;have X:=hI R;have s:=hI z;have d6:=Y.lt;have d5:=hI J;have C:=hI O;clear Y hF hL R z d3 J O;try simp only[qZ,qS,qQ.kind,qQ.text,qQ.num,qQ.line,qQ.col,qQ.kids]at *
  go_enter func150,ntmps150
  have U:=hI (qPT lo B acc (.mk [110,117,109] x m ln co ks) _ _ ws y.o.wr y.o.li HF.o A (by have:=s.o;(try simp only[lL,lO,lZ]at this ⊢);omega));try simp only[qZ,qQ.kind,qQ.text,qQ.num,qQ.line,qQ.col,qQ.kids]at U
  obtain⟨c0,c1,c2,c3,c4,c5⟩:=y.o.cells;have j:=y.o.lt;go_wp2_with fail
  try clear c0 c1 c2 c3 c4 c5
  try clear j
  refine(U.o).mono ?_;rintro e w1 ⟨rfl,f5,f4⟩;have Z:=hI (y.o.call f5 f4);clear y f5 f4 U;go_wp2
  first | go_end0 | refine bodyPost_ret (v:=.tuple #[]) (by simp[results,results150,go_sem]) rfl ?_
  exact⟨rfl,by simpa[List.append_assoc,qY,qG,qC,qO,zB,zD,zX,qE,kIf,zS,qA,qV,qF,qD,qP,qW,qN,zW,zM,qL,qM,qT,zK,zL,qH,zA]using Z.o.wr,Z.o.kp⟩
 case false =>
 simp only[g8,bO,bP,bF,if_false,reduceIte]at A;obtain⟨q0,vc,hv,hvc,m5⟩:=hL.shape;simp only[qQ.kind,qQ.text,qQ.num,qQ.line,qQ.col,qQ.kids,List.length]at hv;subst hv;have y:=hI (Sw.start Y hL);have HF:=hI hF;have X:=hI R;have s:=hI z;have d6:=Y.lt;have d5:=hI J;have C:=hI O;clear Y hF hL R z d3 J O;try simp only[qZ,qS,qQ.kind,qQ.text,qQ.num,qQ.line,qQ.col,qQ.kids]at *
 go_enter func150,ntmps150
 have U:=hI ((qVn rec g1) lo B acc (.mk k x m ln co ks) _ _ ws y.o.wr y.o.li HF.o A (by have:=s.o;(try simp only[lL,lO,lZ]at this ⊢);omega));try simp only[qZ,qQ.kind,qQ.text,qQ.num,qQ.line,qQ.col,qQ.kids]at U
 obtain⟨c0,c1,c2,c3,c4,c5⟩:=y.o.cells;have j:=y.o.lt;go_wp2_with fail
 try clear c0 c1 c2 c3 c4 c5
 try clear j
 refine(U.o).mono ?_;rintro e w1 ⟨rfl,f5,f4⟩;have Z:=hI (y.o.call f5 f4);clear y f5 f4 U;go_wp2
 first | go_end0 | refine bodyPost_ret (v:=.tuple #[]) (by simp[results,results150,go_sem]) rfl ?_
 exact⟨rfl,by simpa[List.append_assoc,qY,qG,qC,qO,zB,zD,zX,qE,kIf,zS,qA,qV,qF,qD,qP,qW,qN,zW,zM,qL,qM,qT,zK,zL,qH,zA]using Z.o.wr,Z.o.kp⟩
theorem qVD(rec:WT->qQ->Ws)(g4:kZ 150 (fun p n=>#[p,n]) (rec .expr))(f8:kZ 116 (fun p n=>#[p,n]) (rec .block)):kZ 148 (fun p n=>#[p,n]) (qQi rec):=by
 intro lo B acc t v w ws hW hL hF R A;obtain⟨k,x,m,ln,co,ks⟩:=t;obtain⟨g3,V,g6,g5,X,d6⟩:=id hF;simp only[qQi,qY,qG,qC,qO,zB,zD,zX,qE,kIf,zS,qA,qV,qF,qD,qP,qW,qN,zW,zM,qL,qM,qT,zK,zL,qH,zA,qQ.kind,qQ.text,qQ.num,qQ.line,qQ.col,qQ.kids]at R;rcases ks with _ | ⟨a0,_ | ⟨a1,r⟩⟩
 ·simp at R
 ·simp at R
 simp only at R;obtain⟨g9,m5,I,d8,f9⟩:=qK R;subst f9;clear R;injection I with I;subst I;obtain⟨f3,m3,f5,d4,f7⟩:=qK d8;subst f7;clear d8;obtain⟨g7,f6,C,g2,g1⟩:=qK d4;subst g1;clear d4;injection C with C;subst C;obtain⟨g0,vc,hv,hR⟩:=hL.row (by simp[qQ.kids]);have HR:=hI hR;clear hR;simp only[qQ.kind,qQ.text,qQ.num,qQ.line,qQ.col,qQ.kids,List.length]at hv;subst hv;have S0:=hI (Sw.start hW hL);have HF:=hI hF;have Z:=hI d6;have z:=hI A;have m2:=hW.lt;have m1:=hI V;have g8:=hI X;clear hW hF hL d6 A g3 V X;try simp only[qZ,qS,qQ.kind,qQ.text,qQ.num,qQ.line,qQ.col,qQ.kids]at *
 have m4:(0:Int) < (r.length:Int)+1+1:=by omega
 have m0:(1:Int) < (r.length:Int)+1+1:=by omega
 go_enter func148,ntmps148
 obtain⟨c0,c1,c2,c3,c4,c5⟩:=S0.o.cells;have j:=S0.o.lt;go_wp2_with fail
 try clear c0 c1 c2 c3 c4 c5
 try clear j
 have H:=jZ (S:=w.1.size+1) [k,[40]] S0.o.wr (by simp) (by simp) (by have:=z.o;(try simp only[lL,lO,lZ]at this ⊢);omega);simp only[jT,List.map,List.length]at H;refine H.mono ?_;clear H;rintro e w4 ⟨rfl,d7,U⟩;have O:=hI (S0.o.call d7 U);clear S0 d7 U;obtain⟨qa,na,ca,s,y⟩:=(HR.o.keep O.o.kp.below).2 0 (by simp);simp only[Nat.zero_add,Nat.zero_mul,Nat.one_mul,Nat.reduceAdd,Nat.reduceMul,List.getElem_cons_zero,List.getElem_cons_succ]at s y;have⟨k0,k1,k2,k3,k4,k5,_⟩:=y.a;simp only[Nat.zero_add,Nat.zero_mul,Nat.one_mul,Nat.reduceAdd,Nat.reduceMul,List.getElem_cons_zero,List.getElem_cons_succ]at k0 k1 k2 k3 k4 k5;have G:=hI (g4 lo B (acc++[k,[40]]) a0 (.slice qa na ca) _ f3 O.o.wr s (Z.o.mem _ (by simp)) f5 (by have:=z.o;(try simp only[lL,lO,lZ]at this ⊢);omega));clear y s;try simp only[qZ]at G
 obtain⟨c0,c1,c2,c3,c4,c5⟩:=O.o.cells;have j:=O.o.lt;go_wp2_with fail
 try clear c0 c1 c2 c3 c4 c5
 try clear j
 try clear k0 k1 k2 k3 k4 k5
 refine(G.o).mono ?_;rintro e w5 ⟨rfl,d2,f4⟩;have S5:=hI (O.o.call d2 f4);clear O d2 f4 G;obtain⟨c0,c1,c2,c3,c4,c5⟩:=S5.o.cells;have j:=S5.o.lt;go_wp2_with fail
 try clear c0 c1 c2 c3 c4 c5
 try clear j
 have H:=jZ (S:=w5.1.size) [[41]] S5.o.wr (by simp) (by simp) (by have:=z.o;(try simp only[lL,lO,lZ]at this ⊢);omega);simp only[jT,List.map,List.length]at H;refine H.mono ?_;clear H;rintro e w6 ⟨rfl,Y,d9⟩;have J:=hI (S5.o.call Y d9);clear S5 Y d9;obtain⟨qa,na,ca,s,y⟩:=(HR.o.keep J.o.kp.below).2 1 (by simp);simp only[Nat.zero_add,Nat.zero_mul,Nat.one_mul,Nat.reduceAdd,Nat.reduceMul,List.getElem_cons_zero,List.getElem_cons_succ]at s y;have⟨k0,k1,k2,k3,k4,k5,_⟩:=y.a;simp only[Nat.zero_add,Nat.zero_mul,Nat.one_mul,Nat.reduceAdd,Nat.reduceMul,List.getElem_cons_zero,List.getElem_cons_succ]at k0 k1 k2 k3 k4 k5;have G:=hI (f8 lo B (((acc++[k,[40]])++f3)++[[41]]) a1 (.slice qa na ca) _ f6 J.o.wr s (Z.o.mem _ (by simp)) g2 (by have:=z.o;(try simp only[lL,lO,lZ]at this ⊢);omega));clear y s;try simp only[qZ]at G
 obtain⟨c0,c1,c2,c3,c4,c5⟩:=J.o.cells;have j:=J.o.lt;go_wp2_with fail
 try clear c0 c1 c2 c3 c4 c5
 try clear j
 try clear k0 k1 k2 k3 k4 k5
 refine(G.o).mono ?_;rintro e w7 ⟨rfl,d3,d5⟩;have S7:=hI (J.o.call d3 d5);clear J d3 d5 G;go_wp2
 first | go_end0 | refine bodyPost_ret (v:=.tuple #[]) (by simp[results,results148,go_sem]) rfl ?_
 exact⟨rfl,by simpa[List.append_assoc,qY,qG,qC,qO,zB,zD,zX,qE,kIf,zS,qA,qV,qF,qD,qP,qW,qN,zW,zM,qL,qM,qT,zK,zL,qH,zA]using S7.o.wr,S7.o.kp⟩
theorem choice_w(rec:WT->qQ->Ws)(f3:kZ 150 (fun p n=>#[p,n]) (rec .expr))(X:kZ 116 (fun p n=>#[p,n]) (rec .block)):kZ 147 (fun p n=>#[p,n]) (qK0 rec):=by
 intro lo B acc t v w ws hW hL hF he y;obtain⟨k,x,m,ln,co,ks⟩:=t;obtain⟨f7,I,g9,g8,J,O⟩:=id hF;simp only[qK0,qY,qG,qC,qO,zB,zD,zX,qE,kIf,zS,qA,qV,qF,qD,qP,qW,qN,zW,zM,qL,qM,qT,zK,zL,qH,zA,qQ.kind,qQ.text,qQ.num,qQ.line,qQ.col,qQ.kids]at he;obtain⟨G,he1⟩:=zN he;clear he;rcases ks with _ | ⟨a0,_ | ⟨a1,_ | ⟨a2,_ | ⟨b,r⟩⟩⟩⟩
 ·simp at he1
 ·simp at he1
 rotate_right
 ·simp at he1
 ·simp only at he1;obtain⟨g0,vc,hv,hR⟩:=hL.row (by simp[qQ.kids]);have HR:=hI hR;clear hR;simp only[qQ.kind,qQ.text,qQ.num,qQ.line,qQ.col,qQ.kids,List.length]at hv;subst hv;have C:=hI (Sw.start hW hL);have HF:=hI hF;have d5:=hI O;have s:=hI y;have g3:=hW.lt;have g2:=hI I;have z:=hI J;clear hW hF hL O y f7 I J;try simp only[qZ,qS,qQ.kind,qQ.text,qQ.num,qQ.line,qQ.col,qQ.kids]at *
  go_enter func147,ntmps147
  obtain⟨c0,c1,c2,c3,c4,c5⟩:=C.o.cells;have j:=C.o.lt;go_wp2_with fail
  try clear c0 c1 c2 c3 c4 c5
  try clear j
  have Y:=wB (t:=(.mk k x m ln co [a0,a1])) (v:=.slice (some ⟨g0,0,none⟩) 2 vc) (lo:=2) (hi:=3) _ C.o.wr.tab rfl G (by first | simp | omega | (have:=z.o;(try simp only[List.length]at this ⊢);omega)) (by first | simp | omega | (have:=z.o;(try simp only[List.length]at this ⊢);omega));simp only[qZ,qQ.kind,qQ.text,qQ.num,qQ.line,qQ.col,qQ.kids]at Y;refine Y.mono ?_;clear Y;rintro e w1 ⟨rfl,f8⟩;have R:=hI (C.o.below f8);clear C f8;obtain⟨c0,c1,c2,c3,c4,c5⟩:=R.o.cells;have j:=R.o.lt;go_wp2_with fail
  refine(jF _).mono ?_;rintro e w' ⟨rfl,rfl⟩;try clear c0 c1 c2 c3 c4 c5 j
  have A:=hI ((qVD rec f3 X) lo B acc (.mk k x m ln co [a0,a1]) _ _ ws R.o.wr R.o.li HF.o he1 (by have:=s.o;(try simp only[lL,lO,lZ]at this ⊢);omega));try simp only[qZ,qQ.kind,qQ.text,qQ.num,qQ.line,qQ.col,qQ.kids]at A
  obtain⟨c0,c1,c2,c3,c4,c5⟩:=R.o.cells;have j:=R.o.lt;go_wp2_with fail
  try clear c0 c1 c2 c3 c4 c5
  try clear j
  refine(A.o).mono ?_;rintro e w2 ⟨rfl,f6,d8⟩;have S2:=hI (R.o.call f6 d8);clear R f6 d8 A;obtain⟨c0,c1,c2,c3,c4,c5⟩:=S2.o.cells;have j:=S2.o.lt;go_wp2
  first | go_end0 | refine bodyPost_ret (v:=.tuple #[]) (by simp[results,results147,go_sem]) rfl ?_
  exact⟨rfl,by simpa[List.append_assoc,qY,qG,qC,qO,zB,zD,zX,qE,kIf,zS,qA,qV,qF,qD,qP,qW,qN,zW,zM,qL,qM,qT,zK,zL,qH,zA]using S2.o.wr,S2.o.kp⟩
 ·simp only at he1;obtain⟨d7,m0,g7,f4,g6⟩:=qK he1;subst g6;clear he1;obtain⟨m1,g5,V,g4,g1⟩:=qK f4;subst g1;clear f4;injection V with V;subst V;obtain⟨g0,vc,hv,hR⟩:=hL.row (by simp[qQ.kids]);have HR:=hI hR;clear hR;simp only[qQ.kind,qQ.text,qQ.num,qQ.line,qQ.col,qQ.kids,List.length]at hv;subst hv;have C:=hI (Sw.start hW hL);have HF:=hI hF;have d5:=hI O;have s:=hI y;have g3:=hW.lt;have g2:=hI I;have z:=hI J;clear hW hF hL O y f7 I J;try simp only[qZ,qS,qQ.kind,qQ.text,qQ.num,qQ.line,qQ.col,qQ.kids]at *
  go_enter func147,ntmps147
  obtain⟨c0,c1,c2,c3,c4,c5⟩:=C.o.cells;have j:=C.o.lt;go_wp2_with fail
  try clear c0 c1 c2 c3 c4 c5
  try clear j
  have Y:=wB (t:=(.mk k x m ln co [a0,a1,a2])) (v:=.slice (some ⟨g0,0,none⟩) 3 vc) (lo:=2) (hi:=3) _ C.o.wr.tab rfl G (by first | simp | omega | (have:=z.o;(try simp only[List.length]at this ⊢);omega)) (by first | simp | omega | (have:=z.o;(try simp only[List.length]at this ⊢);omega));simp only[qZ,qQ.kind,qQ.text,qQ.num,qQ.line,qQ.col,qQ.kids]at Y;refine Y.mono ?_;clear Y;rintro e w3 ⟨rfl,hb3⟩;have U:=hI (C.o.below hb3);clear C hb3;obtain⟨c0,c1,c2,c3,c4,c5⟩:=U.o.cells;have j:=U.o.lt;go_wp2_with fail
  refine(jF _).mono ?_;rintro e w' ⟨rfl,rfl⟩;try clear c0 c1 c2 c3 c4 c5 j
  have A:=hI ((qVD rec f3 X) lo B acc (.mk k x m ln co [a0,a1,a2]) _ _ d7 U.o.wr U.o.li HF.o g7 (by have:=s.o;(try simp only[lL,lO,lZ]at this ⊢);omega));try simp only[qZ,qQ.kind,qQ.text,qQ.num,qQ.line,qQ.col,qQ.kids]at A
  obtain⟨c0,c1,c2,c3,c4,c5⟩:=U.o.cells;have j:=U.o.lt;go_wp2_with fail
  try clear c0 c1 c2 c3 c4 c5
  try clear j
  refine(A.o).mono ?_;rintro e w4 ⟨rfl,d9,d3⟩;have S4:=hI (U.o.call d9 d3);clear U d9 d3 A;obtain⟨c0,c1,c2,c3,c4,c5⟩:=S4.o.cells;have j:=S4.o.lt;go_wp2_with fail
  try clear c0 c1 c2 c3 c4 c5
  try clear j
  have H:=jZ (S:=w4.1.size) [[101,108,115,101]] S4.o.wr (by simp) (by simp) (by have:=s.o;(try simp only[lL,lO,lZ]at this ⊢);omega);simp only[jT,List.map,List.length]at H;refine H.mono ?_;clear H;rintro e w5 ⟨rfl,d6,f9⟩;have S5:=hI (S4.o.call d6 f9);clear S4 d6 f9;obtain⟨qa,na,ca,Z,d2⟩:=(HR.o.keep S5.o.kp.below).2 2 (by simp);simp only[Nat.zero_add,Nat.zero_mul,Nat.one_mul,Nat.reduceAdd,Nat.reduceMul,List.getElem_cons_zero,List.getElem_cons_succ]at Z d2;have⟨k0,k1,k2,k3,k4,k5,_⟩:=d2.a;simp only[Nat.zero_add,Nat.zero_mul,Nat.one_mul,Nat.reduceAdd,Nat.reduceMul,List.getElem_cons_zero,List.getElem_cons_succ]at k0 k1 k2 k3 k4 k5;have A:=hI (X lo B ((acc++d7)++[[101,108,115,101]]) a2 (.slice qa na ca) _ g5 S5.o.wr Z (d5.o.mem _ (by simp)) g4 (by have:=s.o;(try simp only[lL,lO,lZ]at this ⊢);omega));clear d2 Z;try simp only[qZ]at A
  obtain⟨c0,c1,c2,c3,c4,c5⟩:=S5.o.cells;have j:=S5.o.lt;go_wp2_with fail
  try clear c0 c1 c2 c3 c4 c5
  try clear j
  try clear k0 k1 k2 k3 k4 k5
  refine(A.o).mono ?_;rintro e w6 ⟨rfl,d4,f5⟩;have S6:=hI (S5.o.call d4 f5);clear S5 d4 f5 A;go_wp2
  first | go_end0 | refine bodyPost_ret (v:=.tuple #[]) (by simp[results,results147,go_sem]) rfl ?_
  exact⟨rfl,by simpa[List.append_assoc,qY,qG,qC,qO,zB,zD,zX,qE,kIf,zS,qA,qV,qF,qD,qP,qW,qN,zW,zM,qL,qM,qT,zK,zL,qH,zA]using S6.o.wr,S6.o.kp⟩
def qWe(p:qQ->Ws)(i:Nat)(ts:List qQ):Ws:=if i=0 then wO p ts else qKp p (ts.drop i)
theorem tailW_end(p:qQ->Ws)(ts:List qQ){i:Nat}(h:i<=ts.length)(o:¬i < ts.length):qWe p i ts=some []:=by
 unfold qWe;have:i=ts.length:=by omega
 subst this;split
 ·rename_i j;rw[List.length_eq_zero_iff]at j;rw[j];rfl
 ·rw[List.drop_length];rfl
theorem tailW_zero{p:qQ->Ws}{ts:List qQ}(h:0 < ts.length){ws:List (List UInt8)}(j:qWe p 0 ts=some ws):∃ a b,p ts[0]=some a/\qWe p 1 ts=some b/\ws=a++b:=by
 cases ts with
 | nil=>simp at h
 | cons t r=>exact qK (show jD (p t) (qKp p r)=some ws from j)
theorem tailW_more{p:qQ->Ws}{ts:List qQ}{i:Nat}(h:i < ts.length)(s:i≠0){ws:List (List UInt8)}(j:qWe p i ts=some ws):∃ a b,p ts[i]=some a/\qWe p (i+1) ts=some b/\ws=[[44]]++(a++b):=by
 unfold qWe at j ⊢;rw[if_neg s,List.drop_eq_getElem_cons h]at j;obtain⟨x,y,o,h2,rfl⟩:=qK (show jD (some [[44]]) (jD (p ts[i]) (qKp p (ts.drop (i+1))))=some ws from j);injection o with o;subst o;obtain⟨a,b,h3,h4,rfl⟩:=qK h2;exact⟨a,b,h3,by rw[if_neg (by omega)];exact h4,rfl⟩
def ComRel(lo B:Nat)(acc:List (List UInt8))(p:qQ->Ws)(ts:List qQ)(ws:List (List UInt8))(w:World)(i:Value)(wr:World):Prop :=
 ∃ (k:Nat) (pre post:List (List UInt8)),k<=ts.length/\i=.int .i64 k/\ws=pre++post/\qWe p k ts=some post/\WAt lo B (acc++pre) wr/\qZk B w wr
theorem qWO(f:Nat)(p:qQ->Ws)(g1:∀ (args:Array Value) (w:World),(callFunc f args).run prog w=.ok (.enter f args) w)(hp:kZ f (fun p n=>#[p,n]) p)(lo B:Nat)(acc:List (List UInt8))(ts:List qQ)(q:Option Addr)(c:Nat)(w:World)(ws:List (List UInt8))
 (hW:WAt lo B acc w) (hK:yD B w ts q) (hn:ts.length<=1000000) (hF:qZn ts) (he:wO p ts=some ws) (O:acc.length+ws.length<=1000000000) :
 Calls prog 114 #[.pointer (some ⟨B,0,none⟩), .slice q ts.length c, .func (.func f) #[.pointer (some ⟨B,0,none⟩)] #[]] w fun e w'=>e=.returned (.tuple #[])/\WAt lo B (acc++ws) w'/\qZk B w w':=by
 have HW:=hI hW;have HK:=hI hK;have HF:=hI hF;have HE:=hI he;have HP:=hI hp;have A:=hI O;have f8:=hW.lt;clear hW hK hF he hp O;go_enter func114,ntmps114
 go_wp2_with fail
 go_loopw [10] (fun i wr=>ComRel lo B acc p ts ws w i wr) (fun i _=>ts.length - (intOf i).toNat)
 case atStart=>exact⟨0,[],ws,Nat.zero_le _,rfl,rfl,HE.o,by simpa using HW.o,qZk.refl _ _⟩
 case round =>
  obtain⟨k,pre,post,hk,rfl,d2,G,d6,d7⟩:=hrel;have z:=hI d2;have V:=hI G;have Y:=hI d6;have U:=hI d7;clear d2 G d6 d7;by_cases y:k < ts.length
  ·have d3:ts≠[]:=fun e=>by rw[e]at y;simp at y
   obtain⟨g,g2,rfl,hR⟩:=(HK.o.keep U.o.below).resolve_left d3;obtain⟨qa,na,ca,d9,f3⟩:=hR.2 k y;have⟨k0,k1,k2,k3,k4,k5,_⟩:=f3.a;have d4:=hI d9;have C:=hI (qZn.mem HF.o ts[k] (List.getElem_mem _));have T0:=hI (Hn.new ts[k] (.slice qa na ca) wr);have R:=hI (Y.o.alloc (.cells (qS ts[k] (.slice qa na ca)).toArray 57));have X:=hI (U.o.alloc (Nat.le_of_lt f8) (.cells (qS ts[k] (.slice qa na ca)).toArray 57));have d8:=Y.o.lt;have d5:=hI (d4.o.keep (((Below.refl _ _).alloc (Nat.le_refl _) (.cells (qS ts[k] (.slice qa na ca)).toArray 57)).mono (Nat.le_of_lt d8)));clear f3 d9 hR d3 d4;by_cases f5:k=0
   ·subst f5;simp only[Nat.zero_mul,Nat.add_zero]at k0 k1 k2 k3 k4 k5;obtain⟨a,b,Z,hb,j⟩:=tailW_zero y V.o;have HC:=hI (HP.o lo B (acc++pre) ts[0] (.slice qa na ca) _ a R.o d5.o C.o Z (by have:=A.o;rw[z.o,j]at this;simp only[lL]at this ⊢;omega));have HA:=hI Z;have HB:=hI hb;have I:=hI j;clear Z hb j;generalize hu:ts[0]=u at *;simp only[qS,qZ]at *;go_wp2_with fail
    refine(HC.o).mono ?_;rintro e w2 ⟨rfl,J,s⟩;go_wp2
    go_roundw
    case rel=>exact⟨1,pre++a,b,by omega,by go_num,by rw[z.o,I.o,List.append_assoc],HB.o,by simpa[List.append_assoc]using J,X.o.trans s⟩
    case measure=>simp[intOf];omega
   ·obtain⟨a,b,Z,hb,j⟩:=tailW_more y f5 V.o;have g4:(0:Int) < (k:Int):=by omega
    have HA:=hI Z;have HB:=hI hb;have I:=hI j;have H:=hI (jZ (S:=wr.1.size+1) [[44]] R.o (by simp) (by simp) (by have:=A.o;rw[z.o,j]at this;simp only[lL,lO,lZ]at this ⊢;omega));simp only[jT,List.map,List.length]at H;clear Z hb j;generalize hu:ts[k]=u at *;simp only[qS,qZ]at *;go_wp2_with fail
    refine(H.o).mono ?_;rintro e w2 ⟨rfl,J,s⟩;have T2:=hI (Hn.keep T0.o s d8);have HC:=hI (HP.o lo B (acc++pre++[[44]]) u (.slice qa na ca) w2 a J (d5.o.keep s.below) C.o HA.o (by have:=A.o;rw[z.o,I.o]at this;simp only[lL,lO,lZ]at this ⊢;omega));obtain⟨c0,c1,c2,c3,c4,c5⟩:=T2.o.cells;have g3:=T2.o.lt;have f6:=hI (X.o.trans s);clear J s T0 T2 R X H k0 k1 k2 k3 k4 k5;unfold qZ at *;go_wp2_with fail
    refine(HC.o).mono ?_;rintro e w3 ⟨rfl,f7,g0⟩;go_wp2
    go_roundw
    case rel=>exact⟨k+1,pre++([[44]]++a),b,by omega,by go_num,by rw[z.o,I.o];simp only[List.append_assoc],HB.o,by simpa[List.append_assoc]using f7,f6.o.trans g0⟩
    case measure=>simp[intOf];omega
  ·have f4:=tailW_end p ts hk y;go_wp2
   go_end0;have f9:post=[]:=by have h:=V.o;rw[f4]at h;injection h with h;exact h.symm
   refine⟨rfl,?_,U.o⟩;rw[z.o,f9,lA];exact Y.o
theorem call_w(rec:WT->qQ->Ws)(f8:kZ 150 (fun p n=>#[p,n]) (rec .expr)):kZ 149 (fun p n=>#[p,n]) (qKY rec):=by
 intro lo B acc t v w ws hW hL hF he y;obtain⟨k,x,m,ln,co,ks⟩:=t;obtain⟨f6,O,g0,f9,R,Y⟩:=id hF;simp only[qKY,qY,qG,qC,qO,zB,zD,zX,qE,kIf,zS,qA,qV,qF,qD,qP,qW,qN,zW,zM,qL,qM,qT,zK,zL,qH,zA,qQ.kind,qQ.text,qQ.num,qQ.line,qQ.col,qQ.kids]at he;obtain⟨hb,he1⟩:=zN he;clear he;simp only[bE,beq_iff_eq]at hb;obtain⟨rfl,d9⟩:=hb;obtain⟨g2,g5,G,d3,f4⟩:=qK he1;subst f4;clear he1;injection G with G;subst G;obtain⟨f7,g4,d6,A,d8⟩:=qK d3;subst d8;clear d3;injection A with A;subst A;obtain⟨q0,vc,hv,hvc,g6,X⟩:=hL.kids;have f5:=hI X;clear X;simp only[qQ.kind,qQ.text,qQ.num,qQ.line,qQ.col,qQ.kids,List.length]at hv;subst hv;have Z:=hI (Sw.start hW hL);have HF:=hI hF;have d7:=hI Y;have s:=hI y;have g3:=hW.lt;have f3:=hI O;have z:=hI R;clear hW hF hL Y y f6 O R;try simp only[qZ,qS,qQ.kind,qQ.text,qQ.num,qQ.line,qQ.col,qQ.kids]at *
 have g1:=zT;go_enter func149,ntmps149
 obtain⟨c0,c1,c2,c3,c4,c5⟩:=Z.o.cells;have j:=Z.o.lt;go_wp2_with fail
 try clear c0 c1 c2 c3 c4 c5
 try clear j
 have HQ:=qZg (t:=(.mk [99,97,108,108] x m ln co ks)) (v:=.slice q0 ks.length vc) (lo:=0) (hi:=9223372036854775807) _ Z.o.wr.tab f3.o rfl d9 (by first | simp | omega | (have:=z.o;(try simp only[List.length]at this ⊢);omega)) (by first | simp | omega | (have:=z.o;(try simp only[List.length]at this ⊢);omega));simp only[qZ,qQ.kind,qQ.text,qQ.num,qQ.line,qQ.col,qQ.kids]at HQ;refine HQ.mono ?_;clear HQ;rintro e w3 ⟨rfl,hb3⟩;have C:=hI (Z.o.below hb3);clear Z hb3;obtain⟨c0,c1,c2,c3,c4,c5⟩:=C.o.cells;have j:=C.o.lt;go_wp2_with fail
 refine(jF _).mono ?_;rintro e w' ⟨rfl,rfl⟩;try clear c0 c1 c2 c3 c4 c5 j
 obtain⟨c0,c1,c2,c3,c4,c5⟩:=C.o.cells;have j:=C.o.lt;go_wp2_with fail
 try clear c0 c1 c2 c3 c4 c5
 try clear j
 have H:=jZ (S:=w3.1.size) [x,[40]] C.o.wr (by simp) (by simp) (by have:=s.o;(try simp only[lL,lO,lZ]at this ⊢);omega);simp only[jT,List.map,List.length]at H;refine H.mono ?_;clear H;rintro e w4 ⟨rfl,d2,J⟩;have I:=hI (C.o.call d2 J);clear C d2 J;have HC:=hI (qWO 150 (rec .expr) (fun _ _=>rfl) f8 lo B (acc++[x,[40]]) ks q0 vc _ f7 I.o.wr (f5.o.keep I.o.kp.below) (by first | (have:=z.o;simpa using this) | simp) d7.o d6 (by have:=s.o;(try simp only[lL,lO,lZ]at this ⊢);omega));try simp only[List.length]at HC
 obtain⟨c0,c1,c2,c3,c4,c5⟩:=I.o.cells;have j:=I.o.lt;go_wp2_with fail
 try clear c0 c1 c2 c3 c4 c5
 try clear j
 refine(HC.o).mono ?_;rintro e w5 ⟨rfl,V,d5⟩;have S5:=hI (I.o.call V d5);clear I V d5 HC;obtain⟨c0,c1,c2,c3,c4,c5⟩:=S5.o.cells;have j:=S5.o.lt;go_wp2_with fail
 try clear c0 c1 c2 c3 c4 c5
 try clear j
 have H:=jZ (S:=w5.1.size) [[41]] S5.o.wr (by simp) (by simp) (by have:=s.o;(try simp only[lL,lO,lZ]at this ⊢);omega);simp only[jT,List.map,List.length]at H;refine H.mono ?_;clear H;rintro e w6 ⟨rfl,U,d4⟩;have S6:=hI (S5.o.call U d4);clear S5 U d4;go_wp2
 first | go_end0 | refine bodyPost_ret (v:=.tuple #[]) (by simp[results,results149,go_sem]) rfl ?_
 exact⟨rfl,by simpa[List.append_assoc,qY,qG,qC,qO,zB,zD,zX,qE,kIf,zS,qA,qV,qF,qD,qP,qW,qN,zW,zM,qL,qM,qT,zK,zL,qH,zA]using S6.o.wr,S6.o.kp⟩
theorem gift_w(rec:WT->qQ->Ws)(f4:kZ 150 (fun p n=>#[p,n]) (rec .expr)):kZ 151 (fun p n=>#[p,n]) (qPF rec):=by
 intro lo B acc t v w ws hW hL hF he C;obtain⟨k,x,m,ln,co,ks⟩:=t;obtain⟨g2,d6,m1,m0,d7,d8⟩:=id hF;simp only[qPF,qY,qG,qC,qO,zB,zD,zX,qE,kIf,zS,qA,qV,qF,qD,qP,qW,qN,zW,zM,qL,qM,qT,zK,zL,qH,zA,qQ.kind,qQ.text,qQ.num,qQ.line,qQ.col,qQ.kids]at he;obtain⟨d5,he1⟩:=zN he;clear he;rcases ks with _ | ⟨a0,_ | ⟨a1,_ | ⟨b,r⟩⟩⟩
 ·simp at he1
 rotate_right
 ·simp at he1
 ·simp only at he1;obtain⟨hb,he2⟩:=zN he1;clear he1;obtain rfl:k=[110,111,110,100,101,116]:=by simpa using hb
  clear hb;obtain⟨d4,g7,f5,I,f3⟩:=qK he2;subst f3;clear he2;injection I with I;subst I;obtain⟨g0,vc,hv,hR⟩:=hL.row (by simp[qQ.kids]);have HR:=hI hR;clear hR;simp only[qQ.kind,qQ.text,qQ.num,qQ.line,qQ.col,qQ.kids,List.length]at hv;subst hv;have V:=hI (Sw.start hW hL);have HF:=hI hF;have d3:=hI d8;have z:=hI C;have g5:=hW.lt;have g3:=hI d6;have R:=hI d7;clear hW hF hL d8 C g2 d6 d7;try simp only[qZ,qS,qQ.kind,qQ.text,qQ.num,qQ.line,qQ.col,qQ.kids]at *
  go_enter func151,ntmps151
  obtain⟨c0,c1,c2,c3,c4,c5⟩:=V.o.cells;have j:=V.o.lt;go_wp2_with fail
  try clear c0 c1 c2 c3 c4 c5
  try clear j
  have HQ:=wB (t:=(.mk [110,111,110,100,101,116] x m ln co [a0])) (v:=.slice (some ⟨g0,0,none⟩) 1 vc) (lo:=1) (hi:=1) _ V.o.wr.tab rfl d5 (by first | simp | omega | (have:=R.o;(try simp only[List.length]at this ⊢);omega)) (by first | simp | omega | (have:=R.o;(try simp only[List.length]at this ⊢);omega));simp only[qZ,qQ.kind,qQ.text,qQ.num,qQ.line,qQ.col,qQ.kids]at HQ;refine HQ.mono ?_;clear HQ;rintro e w2 ⟨rfl,g8⟩;have S2:=hI (V.o.below g8);clear V g8;obtain⟨c0,c1,c2,c3,c4,c5⟩:=S2.o.cells;have j:=S2.o.lt;go_wp2_with fail
  refine(jF _).mono ?_;rintro e w' ⟨rfl,rfl⟩;try clear c0 c1 c2 c3 c4 c5 j
  obtain⟨qa,na,ca,s,y⟩:=(HR.o.keep S2.o.kp.below).2 0 (by simp);simp only[Nat.zero_add,Nat.zero_mul,Nat.one_mul,Nat.reduceAdd,Nat.reduceMul,List.getElem_cons_zero,List.getElem_cons_succ]at s y;have⟨k0,k1,k2,k3,k4,k5,_⟩:=y.a;simp only[Nat.zero_add,Nat.zero_mul,Nat.one_mul,Nat.reduceAdd,Nat.reduceMul,List.getElem_cons_zero,List.getElem_cons_succ]at k0 k1 k2 k3 k4 k5;have G:=hI ((qVn rec f4) lo B acc a0 (.slice qa na ca) _ d4 S2.o.wr s (d3.o.mem _ (by simp)) f5 (by have:=z.o;(try simp only[lL,lO,lZ]at this ⊢);omega));clear y s;try simp only[qZ]at G
  obtain⟨c0,c1,c2,c3,c4,c5⟩:=S2.o.cells;have j:=S2.o.lt;go_wp2_with fail
  try clear c0 c1 c2 c3 c4 c5
  try clear j
  try clear k0 k1 k2 k3 k4 k5
  refine(G.o).mono ?_;rintro e w3 ⟨rfl,g4,g6⟩;have A:=hI (S2.o.call g4 g6);clear S2 g4 g6 G;obtain⟨c0,c1,c2,c3,c4,c5⟩:=A.o.cells;have j:=A.o.lt;go_wp2_with fail
  try clear c0 c1 c2 c3 c4 c5
  try clear j
  have H:=jZ (S:=w3.1.size) [[61]] A.o.wr (by simp) (by simp) (by have:=z.o;(try simp only[lL,lO,lZ]at this ⊢);omega);simp only[jT,List.map,List.length]at H;refine H.mono ?_;clear H;rintro e w4 ⟨rfl,X,J⟩;have U:=hI (A.o.call X J);clear A X J;obtain⟨c0,c1,c2,c3,c4,c5⟩:=U.o.cells;have j:=U.o.lt;go_wp2_with fail
  try clear c0 c1 c2 c3 c4 c5
  try clear j
  have H:=jZ (S:=w4.1.size) [[110,111,110,100,101,116],[40],[41]] U.o.wr (by simp) (by simp) (by have:=z.o;(try simp only[lL,lO,lZ]at this ⊢);omega);simp only[jT,List.map,List.length]at H;refine H.mono ?_;clear H;rintro e w5 ⟨rfl,O,Y⟩;have Z:=hI (U.o.call O Y);clear U O Y;go_wp2
  first | go_end0 | refine bodyPost_ret (v:=.tuple #[]) (by simp[results,results151,go_sem]) rfl ?_
  exact⟨rfl,by simpa[List.append_assoc,qY,qG,qC,qO,zB,zD,zX,qE,kIf,zS,qA,qV,qF,qD,qP,qW,qN,zW,zM,qL,qM,qT,zK,zL,qH,zA]using Z.o.wr,Z.o.kp⟩
 ·simp only at he1;have he:=he1;clear he1;cases f6:(k == [97,115,115,105,103,110]);case true =>
   simp only[f6,bU,bV,bT,if_true,reduceIte]at he;obtain rfl:k=[97,115,115,105,103,110]:=by simpa using f6
   clear f6;obtain⟨d4,g7,f5,I,f3⟩:=qK he;subst f3;clear he;obtain⟨g9,g1,d2,f9,f8⟩:=qK I;subst f8;clear I;injection d2 with d2;subst d2;obtain⟨g0,vc,hv,hR⟩:=hL.row (by simp[qQ.kids]);have HR:=hI hR;clear hR;simp only[qQ.kind,qQ.text,qQ.num,qQ.line,qQ.col,qQ.kids,List.length]at hv;subst hv;have V:=hI (Sw.start hW hL);have HF:=hI hF;have d3:=hI d8;have z:=hI C;have g5:=hW.lt;have g3:=hI d6;have R:=hI d7;clear hW hF hL d8 C g2 d6 d7;try simp only[qZ,qS,qQ.kind,qQ.text,qQ.num,qQ.line,qQ.col,qQ.kids]at *
   go_enter func151,ntmps151
   obtain⟨c0,c1,c2,c3,c4,c5⟩:=V.o.cells;have j:=V.o.lt;go_wp2_with fail
   try clear c0 c1 c2 c3 c4 c5
   try clear j
   have HQ:=wB (t:=(.mk [97,115,115,105,103,110] x m ln co [a0,a1])) (v:=.slice (some ⟨g0,0,none⟩) 2 vc) (lo:=2) (hi:=2) _ V.o.wr.tab rfl d5 (by first | simp | omega | (have:=R.o;(try simp only[List.length]at this ⊢);omega)) (by first | simp | omega | (have:=R.o;(try simp only[List.length]at this ⊢);omega));simp only[qZ,qQ.kind,qQ.text,qQ.num,qQ.line,qQ.col,qQ.kids]at HQ;refine HQ.mono ?_;clear HQ;rintro e w3 ⟨rfl,hb3⟩;have A:=hI (V.o.below hb3);clear V hb3;obtain⟨c0,c1,c2,c3,c4,c5⟩:=A.o.cells;have j:=A.o.lt;go_wp2_with fail
   refine(jF _).mono ?_;rintro e w' ⟨rfl,rfl⟩;try clear c0 c1 c2 c3 c4 c5 j
   obtain⟨qa,na,ca,s,y⟩:=(HR.o.keep A.o.kp.below).2 0 (by simp);simp only[Nat.zero_add,Nat.zero_mul,Nat.one_mul,Nat.reduceAdd,Nat.reduceMul,List.getElem_cons_zero,List.getElem_cons_succ]at s y;have⟨k0,k1,k2,k3,k4,k5,_⟩:=y.a;simp only[Nat.zero_add,Nat.zero_mul,Nat.one_mul,Nat.reduceAdd,Nat.reduceMul,List.getElem_cons_zero,List.getElem_cons_succ]at k0 k1 k2 k3 k4 k5;have G:=hI ((qVn rec f4) lo B acc a0 (.slice qa na ca) _ d4 A.o.wr s (d3.o.mem _ (by simp)) f5 (by have:=z.o;(try simp only[lL,lO,lZ]at this ⊢);omega));clear y s;try simp only[qZ]at G
   obtain⟨c0,c1,c2,c3,c4,c5⟩:=A.o.cells;have j:=A.o.lt;go_wp2_with fail
   try clear c0 c1 c2 c3 c4 c5
   try clear j
   try clear k0 k1 k2 k3 k4 k5
   refine(G.o).mono ?_;rintro e w4 ⟨rfl,X,J⟩;have U:=hI (A.o.call X J);clear A X J G;obtain⟨c0,c1,c2,c3,c4,c5⟩:=U.o.cells;have j:=U.o.lt;go_wp2_with fail
   try clear c0 c1 c2 c3 c4 c5
   try clear j
   have H:=jZ (S:=w4.1.size) [[61]] U.o.wr (by simp) (by simp) (by have:=z.o;(try simp only[lL,lO,lZ]at this ⊢);omega);simp only[jT,List.map,List.length]at H;refine H.mono ?_;clear H;rintro e w5 ⟨rfl,O,Y⟩;have Z:=hI (U.o.call O Y);clear U O Y;obtain⟨qa,na,ca,s,y⟩:=(HR.o.keep Z.o.kp.below).2 1 (by simp);simp only[Nat.zero_add,Nat.zero_mul,Nat.one_mul,Nat.reduceAdd,Nat.reduceMul,List.getElem_cons_zero,List.getElem_cons_succ]at s y;have⟨k0,k1,k2,k3,k4,k5,_⟩:=y.a;simp only[Nat.zero_add,Nat.zero_mul,Nat.one_mul,Nat.reduceAdd,Nat.reduceMul,List.getElem_cons_zero,List.getElem_cons_succ]at k0 k1 k2 k3 k4 k5;have G:=hI (f4 lo B ((acc++d4)++[[61]]) a1 (.slice qa na ca) _ g1 Z.o.wr s (d3.o.mem _ (by simp)) f9 (by have:=z.o;(try simp only[lL,lO,lZ]at this ⊢);omega));clear y s;try simp only[qZ]at G
   obtain⟨c0,c1,c2,c3,c4,c5⟩:=Z.o.cells;have j:=Z.o.lt;go_wp2_with fail
   try clear c0 c1 c2 c3 c4 c5
   try clear j
   try clear k0 k1 k2 k3 k4 k5
   refine(G.o).mono ?_;rintro e w6 ⟨rfl,d9,f7⟩;have S6:=hI (Z.o.call d9 f7);clear Z d9 f7 G;go_wp2
   first | go_end0 | refine bodyPost_ret (v:=.tuple #[]) (by simp[results,results151,go_sem]) rfl ?_
   exact⟨rfl,by simpa[List.append_assoc,qY,qG,qC,qO,zB,zD,zX,qE,kIf,zS,qA,qV,qF,qD,qP,qW,qN,zW,zM,qL,qM,qT,zK,zL,qH,zA]using S6.o.wr,S6.o.kp⟩
  case false =>
  simp only[f6,bO,bP,bF,if_false,reduceIte]at he;obtain⟨hb,he2⟩:=zN he;clear he;obtain rfl:k=[114,101,115,117,108,116]:=by simpa using hb
  clear hb f6;obtain⟨d4,g7,f5,I,f3⟩:=qK he2;subst f3;clear he2;obtain⟨g9,g1,d2,f9,f8⟩:=qK I;subst f8;clear I;injection d2 with d2;subst d2;obtain⟨g0,vc,hv,hR⟩:=hL.row (by simp[qQ.kids]);have HR:=hI hR;clear hR;simp only[qQ.kind,qQ.text,qQ.num,qQ.line,qQ.col,qQ.kids,List.length]at hv;subst hv;have V:=hI (Sw.start hW hL);have HF:=hI hF;have d3:=hI d8;have z:=hI C;have g5:=hW.lt;have g3:=hI d6;have R:=hI d7;clear hW hF hL d8 C g2 d6 d7;try simp only[qZ,qS,qQ.kind,qQ.text,qQ.num,qQ.line,qQ.col,qQ.kids]at *
  go_enter func151,ntmps151
  obtain⟨c0,c1,c2,c3,c4,c5⟩:=V.o.cells;have j:=V.o.lt;go_wp2_with fail
  try clear c0 c1 c2 c3 c4 c5
  try clear j
  have HQ:=wB (t:=(.mk [114,101,115,117,108,116] x m ln co [a0,a1])) (v:=.slice (some ⟨g0,0,none⟩) 2 vc) (lo:=2) (hi:=2) _ V.o.wr.tab rfl d5 (by first | simp | omega | (have:=R.o;(try simp only[List.length]at this ⊢);omega)) (by first | simp | omega | (have:=R.o;(try simp only[List.length]at this ⊢);omega));simp only[qZ,qQ.kind,qQ.text,qQ.num,qQ.line,qQ.col,qQ.kids]at HQ;refine HQ.mono ?_;clear HQ;rintro e w3 ⟨rfl,hb3⟩;have A:=hI (V.o.below hb3);clear V hb3;obtain⟨c0,c1,c2,c3,c4,c5⟩:=A.o.cells;have j:=A.o.lt;go_wp2_with fail
  refine(jF _).mono ?_;rintro e w' ⟨rfl,rfl⟩;try clear c0 c1 c2 c3 c4 c5 j
  obtain⟨qa,na,ca,s,y⟩:=(HR.o.keep A.o.kp.below).2 0 (by simp);simp only[Nat.zero_add,Nat.zero_mul,Nat.one_mul,Nat.reduceAdd,Nat.reduceMul,List.getElem_cons_zero,List.getElem_cons_succ]at s y;have⟨k0,k1,k2,k3,k4,k5,_⟩:=y.a;simp only[Nat.zero_add,Nat.zero_mul,Nat.one_mul,Nat.reduceAdd,Nat.reduceMul,List.getElem_cons_zero,List.getElem_cons_succ]at k0 k1 k2 k3 k4 k5;have G:=hI ((qVn rec f4) lo B acc a0 (.slice qa na ca) _ d4 A.o.wr s (d3.o.mem _ (by simp)) f5 (by have:=z.o;(try simp only[lL,lO,lZ]at this ⊢);omega));clear y s;try simp only[qZ]at G
  obtain⟨c0,c1,c2,c3,c4,c5⟩:=A.o.cells;have j:=A.o.lt;go_wp2_with fail
  try clear c0 c1 c2 c3 c4 c5
  try clear j
  try clear k0 k1 k2 k3 k4 k5
  refine(G.o).mono ?_;rintro e w4 ⟨rfl,X,J⟩;have U:=hI (A.o.call X J);clear A X J G;obtain⟨c0,c1,c2,c3,c4,c5⟩:=U.o.cells;have j:=U.o.lt;go_wp2_with fail
  try clear c0 c1 c2 c3 c4 c5
  try clear j
  have H:=jZ (S:=w4.1.size) [[61]] U.o.wr (by simp) (by simp) (by have:=z.o;(try simp only[lL,lO,lZ]at this ⊢);omega);simp only[jT,List.map,List.length]at H;refine H.mono ?_;clear H;rintro e w5 ⟨rfl,O,Y⟩;have Z:=hI (U.o.call O Y);clear U O Y;obtain⟨qa,na,ca,s,y⟩:=(HR.o.keep Z.o.kp.below).2 1 (by simp);simp only[Nat.zero_add,Nat.zero_mul,Nat.one_mul,Nat.reduceAdd,Nat.reduceMul,List.getElem_cons_zero,List.getElem_cons_succ]at s y;have⟨k0,k1,k2,k3,k4,k5,_⟩:=y.a;simp only[Nat.zero_add,Nat.zero_mul,Nat.one_mul,Nat.reduceAdd,Nat.reduceMul,List.getElem_cons_zero,List.getElem_cons_succ]at k0 k1 k2 k3 k4 k5;have G:=hI ((call_w rec f4) lo B ((acc++d4)++[[61]]) a1 (.slice qa na ca) _ g1 Z.o.wr s (d3.o.mem _ (by simp)) f9 (by have:=z.o;(try simp only[lL,lO,lZ]at this ⊢);omega));clear y s;try simp only[qZ]at G
  obtain⟨c0,c1,c2,c3,c4,c5⟩:=Z.o.cells;have j:=Z.o.lt;go_wp2_with fail
  try clear c0 c1 c2 c3 c4 c5
  try clear j
  try clear k0 k1 k2 k3 k4 k5
  refine(G.o).mono ?_;rintro e w6 ⟨rfl,d9,f7⟩;have S6:=hI (Z.o.call d9 f7);clear Z d9 f7 G;go_wp2
  first | go_end0 | refine bodyPost_ret (v:=.tuple #[]) (by simp[results,results151,go_sem]) rfl ?_
  exact⟨rfl,by simpa[List.append_assoc,qY,qG,qC,qO,zB,zD,zX,qE,kIf,zS,qA,qV,qF,qD,qP,qW,qN,zW,zM,qL,qM,qT,zK,zL,qH,zA]using S6.o.wr,S6.o.kp⟩
theorem qLd(rec:WT->qQ->Ws)(g3:kZ 150 (fun p n=>#[p,n]) (rec .expr))(n3:kZ 116 (fun p n=>#[p,n]) (rec .block)):kZ 129 (fun p n=>#[p,n]) (qJr rec):=by
 intro lo B acc t v w ws Z hL hF G y;obtain⟨k,x,m,ln,co,ks⟩:=t;obtain⟨f6,O,p4,p3,R,U⟩:=id hF;unfold qJr qQn at G;simp only[qY,qG,qC,qO,zB,zD,zX,qE,kIf,zS,qA,qV,qF,qD,qP,qW,qN,zW,zM,qL,qM,qT,zK,zL,qH,zA,qQ.kind,qQ.text,qQ.num,qQ.line,qQ.col,qQ.kids]at G;cases m1:(k == [105,102]);case true =>
  simp only[m1,bU,bV,bT,if_true,reduceIte]at G;obtain rfl:k=[105,102]:=by simpa using m1
  clear m1;obtain⟨q0,vc,hv,hvc,n1⟩:=hL.shape;simp only[qQ.kind,qQ.text,qQ.num,qQ.line,qQ.col,qQ.kids,List.length]at hv;subst hv;have z:=hI (Sw.start Z hL);have HF:=hI hF;have d7:=hI U;have s:=hI y;have f8:=Z.lt;have f3:=hI O;have C:=hI R;clear Z hF hL U y f6 O R;try simp only[qZ,qS,qQ.kind,qQ.text,qQ.num,qQ.line,qQ.col,qQ.kids]at *
  go_enter func129,ntmps129
  have X:=hI ((choice_w rec g3 n3) lo B acc (.mk [105,102] x m ln co ks) _ _ ws z.o.wr z.o.li HF.o G (by have:=s.o;(try simp only[lL,lO,lZ]at this ⊢);omega));try simp only[qZ,qQ.kind,qQ.text,qQ.num,qQ.line,qQ.col,qQ.kids]at X
  obtain⟨c0,c1,c2,c3,c4,c5⟩:=z.o.cells;have j:=z.o.lt;go_wp2_with fail
  try clear c0 c1 c2 c3 c4 c5
  try clear j
  refine(X.o).mono ?_;rintro e w1 ⟨rfl,n7,n4⟩;have S1:=hI (z.o.call n7 n4);clear z n7 n4 X;go_wp2
  first | go_end0 | refine bodyPost_ret (v:=.tuple #[]) (by simp[results,results129,go_sem]) rfl ?_
  exact⟨rfl,by simpa[List.append_assoc,qY,qG,qC,qO,zB,zD,zX,qE,kIf,zS,qA,qV,qF,qD,qP,qW,qN,zW,zM,qL,qM,qT,zK,zL,qH,zA]using S1.o.wr,S1.o.kp⟩
 case false =>
 simp only[m1,bO,bP,bF,if_false,reduceIte]at G;cases m7:(k == [119,104,105,108,101]);case true =>
  simp only[m7,bU,bV,bT,if_true,reduceIte]at G;obtain rfl:k=[119,104,105,108,101]:=by simpa using m7
  clear m7;obtain⟨hb,he1⟩:=zN G;clear G;simp only[bE,decide_eq_true_eq]at hb;obtain⟨Y,hl⟩:=hb;simp only[beq_iff_eq]at hl;obtain⟨a0,a1,rfl⟩:∃ a b,ks=[a,b]:=⟨_,_,List.eq_getElem_of_length_eq_two ks hl⟩;clear hl;obtain⟨g0,vc,hv,hR⟩:=hL.row (by simp[qQ.kids]);have HR:=hI hR;clear hR;simp only[qQ.kind,qQ.text,qQ.num,qQ.line,qQ.col,qQ.kids,List.length]at hv;subst hv;have z:=hI (Sw.start Z hL);have HF:=hI hF;have d7:=hI U;have s:=hI y;have f8:=Z.lt;have f3:=hI O;have C:=hI R;clear Z hF hL U y f6 O R;try simp only[qZ,qS,qQ.kind,qQ.text,qQ.num,qQ.line,qQ.col,qQ.kids]at *
  go_enter func129,ntmps129
  obtain⟨c0,c1,c2,c3,c4,c5⟩:=z.o.cells;have j:=z.o.lt;go_wp2_with fail
  try clear c0 c1 c2 c3 c4 c5
  try clear j
  have HQ:=wB (t:=(.mk [119,104,105,108,101] x m ln co [a0,a1])) (v:=.slice (some ⟨g0,0,none⟩) 2 vc) (lo:=2) (hi:=2) _ z.o.wr.tab rfl Y (by first | simp | omega | (have:=C.o;(try simp only[List.length]at this ⊢);omega)) (by first | simp | omega | (have:=C.o;(try simp only[List.length]at this ⊢);omega));simp only[qZ,qQ.kind,qQ.text,qQ.num,qQ.line,qQ.col,qQ.kids]at HQ;refine HQ.mono ?_;clear HQ;rintro e w1 ⟨rfl,n9⟩;have S1:=hI (z.o.below n9);clear z n9;obtain⟨c0,c1,c2,c3,c4,c5⟩:=S1.o.cells;have j:=S1.o.lt;go_wp2_with fail
  refine(jF _).mono ?_;rintro e w' ⟨rfl,rfl⟩;try clear c0 c1 c2 c3 c4 c5 j
  have X:=hI ((qVD rec g3 n3) lo B acc (.mk [119,104,105,108,101] x m ln co [a0,a1]) _ _ ws S1.o.wr S1.o.li HF.o he1 (by have:=s.o;(try simp only[lL,lO,lZ]at this ⊢);omega));try simp only[qZ,qQ.kind,qQ.text,qQ.num,qQ.line,qQ.col,qQ.kids]at X
  obtain⟨c0,c1,c2,c3,c4,c5⟩:=S1.o.cells;have j:=S1.o.lt;go_wp2_with fail
  try clear c0 c1 c2 c3 c4 c5
  try clear j
  refine(X.o).mono ?_;rintro e w2 ⟨rfl,f5,f4⟩;have V:=hI (S1.o.call f5 f4);clear S1 f5 f4 X;go_wp2
  first | go_end0 | refine bodyPost_ret (v:=.tuple #[]) (by simp[results,results129,go_sem]) rfl ?_
  exact⟨rfl,by simpa[List.append_assoc,qY,qG,qC,qO,zB,zD,zX,qE,kIf,zS,qA,qV,qF,qD,qP,qW,qN,zW,zM,qL,qM,qT,zK,zL,qH,zA]using V.o.wr,V.o.kp⟩
 case false =>
 simp only[m7,bO,bP,bF,if_false,reduceIte]at G;cases m5:(k == [108,111,99,97,108]);case true =>
  simp only[m5,bU,bV,bT,if_true,reduceIte]at G;obtain rfl:k=[108,111,99,97,108]:=by simpa using m5
  clear m5;obtain⟨hb,he1⟩:=zN G;clear G;simp only[bE,decide_eq_true_eq]at hb;obtain⟨p0,hl⟩:=hb;simp only[beq_iff_eq]at hl;obtain⟨a0,rfl⟩:=List.length_eq_one_iff.1 hl;clear hl;obtain⟨d9,g4,I,A,d4⟩:=qK he1;subst d4;clear he1;injection A with A;subst A;obtain⟨g0,vc,hv,hR⟩:=hL.row (by simp[qQ.kids]);have HR:=hI hR;clear hR;simp only[qQ.kind,qQ.text,qQ.num,qQ.line,qQ.col,qQ.kids,List.length]at hv;subst hv;have z:=hI (Sw.start Z hL);have HF:=hI hF;have d7:=hI U;have s:=hI y;have f8:=Z.lt;have f3:=hI O;have C:=hI R;clear Z hF hL U y f6 O R;try simp only[qZ,qS,qQ.kind,qQ.text,qQ.num,qQ.line,qQ.col,qQ.kids]at *
  go_enter func129,ntmps129
  obtain⟨c0,c1,c2,c3,c4,c5⟩:=z.o.cells;have j:=z.o.lt;go_wp2_with fail
  try clear c0 c1 c2 c3 c4 c5
  try clear j
  have HQ:=qZg (t:=(.mk [108,111,99,97,108] x m ln co [a0])) (v:=.slice (some ⟨g0,0,none⟩) 1 vc) (lo:=1) (hi:=1) _ z.o.wr.tab f3.o rfl p0 (by first | simp | omega | (have:=C.o;(try simp only[List.length]at this ⊢);omega)) (by first | simp | omega | (have:=C.o;(try simp only[List.length]at this ⊢);omega));simp only[qZ,qQ.kind,qQ.text,qQ.num,qQ.line,qQ.col,qQ.kids]at HQ;refine HQ.mono ?_;clear HQ;rintro e w2 ⟨rfl,m0⟩;have V:=hI (z.o.below m0);clear z m0;obtain⟨c0,c1,c2,c3,c4,c5⟩:=V.o.cells;have j:=V.o.lt;go_wp2_with fail
  refine(jF _).mono ?_;rintro e w' ⟨rfl,rfl⟩;try clear c0 c1 c2 c3 c4 c5 j
  have X:=hI ((qXn false) lo B acc (.mk [108,111,99,97,108] x m ln co [a0]) _ _ d9 V.o.wr V.o.li HF.o I (by have:=s.o;(try simp only[lL,lO,lZ]at this ⊢);omega));try simp only[qZ,qQ.kind,qQ.text,qQ.num,qQ.line,qQ.col,qQ.kids]at X
  obtain⟨c0,c1,c2,c3,c4,c5⟩:=V.o.cells;have j:=V.o.lt;go_wp2_with fail
  try clear c0 c1 c2 c3 c4 c5
  try clear j
  refine(X.o).mono ?_;rintro e w3 ⟨rfl,d3,d5⟩;have J:=hI (V.o.call d3 d5);clear V d3 d5 X;obtain⟨c0,c1,c2,c3,c4,c5⟩:=J.o.cells;have j:=J.o.lt;go_wp2_with fail
  try clear c0 c1 c2 c3 c4 c5
  try clear j
  have H:=jZ (S:=w3.1.size) [[59]] J.o.wr (by simp) (by simp) (by have:=s.o;(try simp only[lL,lO,lZ]at this ⊢);omega);simp only[jT,List.map,List.length]at H;refine H.mono ?_;clear H;rintro e w4 ⟨rfl,d6,d2⟩;have S4:=hI (J.o.call d6 d2);clear J d6 d2;go_wp2
  first | go_end0 | refine bodyPost_ret (v:=.tuple #[]) (by simp[results,results129,go_sem]) rfl ?_
  exact⟨rfl,by simpa[List.append_assoc,qY,qG,qC,qO,zB,zD,zX,qE,kIf,zS,qA,qV,qF,qD,qP,qW,qN,zW,zM,qL,qM,qT,zK,zL,qH,zA]using S4.o.wr,S4.o.kp⟩
 case false =>
 simp only[m5,bO,bP,bF,if_false,reduceIte]at G;cases m4:(k == [99,97,108,108]);case true =>
  simp only[m4,bU,bV,bT,if_true,reduceIte]at G;obtain rfl:k=[99,97,108,108]:=by simpa using m4
  clear m4;obtain⟨d9,g4,I,A,d4⟩:=qK G;subst d4;clear G;injection A with A;subst A;obtain⟨q0,vc,hv,hvc,n1⟩:=hL.shape;simp only[qQ.kind,qQ.text,qQ.num,qQ.line,qQ.col,qQ.kids,List.length]at hv;subst hv;have z:=hI (Sw.start Z hL);have HF:=hI hF;have d7:=hI U;have s:=hI y;have f8:=Z.lt;have f3:=hI O;have C:=hI R;clear Z hF hL U y f6 O R;try simp only[qZ,qS,qQ.kind,qQ.text,qQ.num,qQ.line,qQ.col,qQ.kids]at *
  go_enter func129,ntmps129
  have X:=hI ((call_w rec g3) lo B acc (.mk [99,97,108,108] x m ln co ks) _ _ d9 z.o.wr z.o.li HF.o I (by have:=s.o;(try simp only[lL,lO,lZ]at this ⊢);omega));try simp only[qZ,qQ.kind,qQ.text,qQ.num,qQ.line,qQ.col,qQ.kids]at X
  obtain⟨c0,c1,c2,c3,c4,c5⟩:=z.o.cells;have j:=z.o.lt;go_wp2_with fail
  try clear c0 c1 c2 c3 c4 c5
  try clear j
  refine(X.o).mono ?_;rintro e w2 ⟨rfl,f5,f4⟩;have V:=hI (z.o.call f5 f4);clear z f5 f4 X;obtain⟨c0,c1,c2,c3,c4,c5⟩:=V.o.cells;have j:=V.o.lt;go_wp2_with fail
  try clear c0 c1 c2 c3 c4 c5
  try clear j
  have H:=jZ (S:=w2.1.size) [[59]] V.o.wr (by simp) (by simp) (by have:=s.o;(try simp only[lL,lO,lZ]at this ⊢);omega);simp only[jT,List.map,List.length]at H;refine H.mono ?_;clear H;rintro e w3 ⟨rfl,d3,d5⟩;have J:=hI (V.o.call d3 d5);clear V d3 d5;go_wp2
  first | go_end0 | refine bodyPost_ret (v:=.tuple #[]) (by simp[results,results129,go_sem]) rfl ?_
  exact⟨rfl,by simpa[List.append_assoc,qY,qG,qC,qO,zB,zD,zX,qE,kIf,zS,qA,qV,qF,qD,qP,qW,qN,zW,zM,qL,qM,qT,zK,zL,qH,zA]using J.o.wr,J.o.kp⟩
 case false =>
 simp only[m4,bO,bP,bF,if_false,reduceIte]at G;cases m6:(k == [114,101,116,117,114,110]);case true =>
  simp only[m6,bU,bV,bT,if_true,reduceIte]at G;obtain rfl:k=[114,101,116,117,114,110]:=by simpa using m6
  clear m6;obtain⟨hb,he1⟩:=zN G;clear G;simp only[bE,decide_eq_true_eq]at hb;obtain⟨Y,hl⟩:=hb;have p6:ks.length<=1:=of_decide_eq_true hl;obtain⟨n6,n8,hA,hS,g8⟩:=qK he1;subst g8;clear he1;injection hS with hS;subst hS;obtain⟨d9,g4,I,A,d4⟩:=qK hA;subst d4;clear hA;injection I with I;subst I;obtain⟨q0,vc,hv,hvc,n1,n5⟩:=hL.kids;have p2:=hI n5;clear n5;simp only[qQ.kind,qQ.text,qQ.num,qQ.line,qQ.col,qQ.kids,List.length]at hv;subst hv;have z:=hI (Sw.start Z hL);have HF:=hI hF;have d7:=hI U;have s:=hI y;have f8:=Z.lt;have f3:=hI O;have C:=hI R;clear Z hF hL U y f6 O R;try simp only[qZ,qS,qQ.kind,qQ.text,qQ.num,qQ.line,qQ.col,qQ.kids]at *
  have p5:=zT;go_enter func129,ntmps129
  obtain⟨c0,c1,c2,c3,c4,c5⟩:=z.o.cells;have j:=z.o.lt;go_wp2_with fail
  try clear c0 c1 c2 c3 c4 c5
  try clear j
  have HQ:=wB (t:=(.mk [114,101,116,117,114,110] x m ln co ks)) (v:=.slice q0 ks.length vc) (lo:=0) (hi:=1) _ z.o.wr.tab rfl Y (by first | simp | omega | (have:=C.o;(try simp only[List.length]at this ⊢);omega)) (by first | simp | omega | (have:=C.o;(try simp only[List.length]at this ⊢);omega));simp only[qZ,qQ.kind,qQ.text,qQ.num,qQ.line,qQ.col,qQ.kids]at HQ;refine HQ.mono ?_;clear HQ;rintro e w2 ⟨rfl,m0⟩;have V:=hI (z.o.below m0);clear z m0;obtain⟨c0,c1,c2,c3,c4,c5⟩:=V.o.cells;have j:=V.o.lt;go_wp2_with fail
  refine(jF _).mono ?_;rintro e w' ⟨rfl,rfl⟩;try clear c0 c1 c2 c3 c4 c5 j
  obtain⟨c0,c1,c2,c3,c4,c5⟩:=V.o.cells;have j:=V.o.lt;go_wp2_with fail
  try clear c0 c1 c2 c3 c4 c5
  try clear j
  have H:=jZ (S:=w2.1.size) [[114,101,116,117,114,110]] V.o.wr (by simp) (by simp) (by have:=s.o;(try simp only[lL,lO,lZ]at this ⊢);omega);simp only[jT,List.map,List.length]at H;refine H.mono ?_;clear H;rintro e w3 ⟨rfl,d3,d5⟩;have J:=hI (V.o.call d3 d5);clear V d3 d5;have X:=hI (qWO 150 (rec .expr) (fun _ _=>rfl) g3 lo B (acc++[[114,101,116,117,114,110]]) ks q0 vc _ g4 J.o.wr (p2.o.keep J.o.kp.below) (by first | (have:=C.o;simpa using this) | simp) d7.o A (by have:=s.o;(try simp only[lL,lO,lZ]at this ⊢);omega));try simp only[List.length]at X
  obtain⟨c0,c1,c2,c3,c4,c5⟩:=J.o.cells;have j:=J.o.lt;go_wp2_with fail
  try clear c0 c1 c2 c3 c4 c5
  try clear j
  refine(X.o).mono ?_;rintro e w4 ⟨rfl,d6,d2⟩;have S4:=hI (J.o.call d6 d2);clear J d6 d2 X;obtain⟨c0,c1,c2,c3,c4,c5⟩:=S4.o.cells;have j:=S4.o.lt;go_wp2_with fail
  try clear c0 c1 c2 c3 c4 c5
  try clear j
  have H:=jZ (S:=w4.1.size) [[59]] S4.o.wr (by simp) (by simp) (by have:=s.o;(try simp only[lL,lO,lZ]at this ⊢);omega);simp only[jT,List.map,List.length]at H;refine H.mono ?_;clear H;rintro e w5 ⟨rfl,d8,f7⟩;have S5:=hI (S4.o.call d8 f7);clear S4 d8 f7;go_wp2
  first | go_end0 | refine bodyPost_ret (v:=.tuple #[]) (by simp[results,results129,go_sem]) rfl ?_
  exact⟨rfl,by simpa[List.append_assoc,qY,qG,qC,qO,zB,zD,zX,qE,kIf,zS,qA,qV,qF,qD,qP,qW,qN,zW,zM,qL,qM,qT,zK,zL,qH,zA]using S5.o.wr,S5.o.kp⟩
 case false =>
 simp only[m6,bO,bP,bF,if_false,reduceIte]at G;cases m3:(k == [97,115,115,101,114,116]);case true =>
  simp only[m3,bU,bV,bT,if_true,reduceIte]at G;obtain rfl:k=[97,115,115,101,114,116]:=by simpa using m3
  clear m3;rcases ks with _ | ⟨a0,_ | ⟨b,r⟩⟩
  ·simp at G
  rotate_left
  ·simp at G
  simp only at G;obtain⟨Y,he1⟩:=zN G;clear G;obtain⟨n6,n8,hA,hS,g8⟩:=qK he1;subst g8;clear he1;injection hS with hS;subst hS;obtain⟨d9,g4,I,A,d4⟩:=qK hA;subst d4;clear hA;injection I with I;subst I;obtain⟨n2,p1,m9,f9,n0⟩:=qK A;subst n0;clear A;injection f9 with f9;subst f9;obtain⟨g0,vc,hv,hR⟩:=hL.row (by simp[qQ.kids]);have HR:=hI hR;clear hR;simp only[qQ.kind,qQ.text,qQ.num,qQ.line,qQ.col,qQ.kids,List.length]at hv;subst hv;have z:=hI (Sw.start Z hL);have HF:=hI hF;have d7:=hI U;have s:=hI y;have f8:=Z.lt;have f3:=hI O;have C:=hI R;clear Z hF hL U y f6 O R;try simp only[qZ,qS,qQ.kind,qQ.text,qQ.num,qQ.line,qQ.col,qQ.kids]at *
  go_enter func129,ntmps129
  obtain⟨c0,c1,c2,c3,c4,c5⟩:=z.o.cells;have j:=z.o.lt;go_wp2_with fail
  try clear c0 c1 c2 c3 c4 c5
  try clear j
  have HQ:=wB (t:=(.mk [97,115,115,101,114,116] x m ln co [a0])) (v:=.slice (some ⟨g0,0,none⟩) 1 vc) (lo:=1) (hi:=1) _ z.o.wr.tab rfl Y (by first | simp | omega | (have:=C.o;(try simp only[List.length]at this ⊢);omega)) (by first | simp | omega | (have:=C.o;(try simp only[List.length]at this ⊢);omega));simp only[qZ,qQ.kind,qQ.text,qQ.num,qQ.line,qQ.col,qQ.kids]at HQ;refine HQ.mono ?_;clear HQ;rintro e w3 ⟨rfl,hb3⟩;have J:=hI (z.o.below hb3);clear z hb3;obtain⟨c0,c1,c2,c3,c4,c5⟩:=J.o.cells;have j:=J.o.lt;go_wp2_with fail
  refine(jF _).mono ?_;rintro e w' ⟨rfl,rfl⟩;try clear c0 c1 c2 c3 c4 c5 j
  obtain⟨c0,c1,c2,c3,c4,c5⟩:=J.o.cells;have j:=J.o.lt;go_wp2_with fail
  try clear c0 c1 c2 c3 c4 c5
  try clear j
  have H:=jZ (S:=w3.1.size) [[97,115,115,101,114,116],[40]] J.o.wr (by simp) (by simp) (by have:=s.o;(try simp only[lL,lO,lZ]at this ⊢);omega);simp only[jT,List.map,List.length]at H;refine H.mono ?_;clear H;rintro e w4 ⟨rfl,d6,d2⟩;have S4:=hI (J.o.call d6 d2);clear J d6 d2;obtain⟨qa,na,ca,g1,g2⟩:=(HR.o.keep S4.o.kp.below).2 0 (by simp);simp only[Nat.zero_add,Nat.zero_mul,Nat.one_mul,Nat.reduceAdd,Nat.reduceMul,List.getElem_cons_zero,List.getElem_cons_succ]at g1 g2;have⟨k0,k1,k2,k3,k4,k5,_⟩:=g2.a;simp only[Nat.zero_add,Nat.zero_mul,Nat.one_mul,Nat.reduceAdd,Nat.reduceMul,List.getElem_cons_zero,List.getElem_cons_succ]at k0 k1 k2 k3 k4 k5;have X:=hI (g3 lo B (acc++[[97,115,115,101,114,116],[40]]) a0 (.slice qa na ca) _ n2 S4.o.wr g1 (d7.o.mem _ (by simp)) m9 (by have:=s.o;(try simp only[lL,lO,lZ]at this ⊢);omega));clear g2 g1;try simp only[qZ]at X
  obtain⟨c0,c1,c2,c3,c4,c5⟩:=S4.o.cells;have j:=S4.o.lt;go_wp2_with fail
  try clear c0 c1 c2 c3 c4 c5
  try clear j
  try clear k0 k1 k2 k3 k4 k5
  refine(X.o).mono ?_;rintro e w5 ⟨rfl,d8,f7⟩;have S5:=hI (S4.o.call d8 f7);clear S4 d8 f7 X;obtain⟨c0,c1,c2,c3,c4,c5⟩:=S5.o.cells;have j:=S5.o.lt;go_wp2_with fail
  try clear c0 c1 c2 c3 c4 c5
  try clear j
  have H:=jZ (S:=w5.1.size) [[41]] S5.o.wr (by simp) (by simp) (by have:=s.o;(try simp only[lL,lO,lZ]at this ⊢);omega);simp only[jT,List.map,List.length]at H;refine H.mono ?_;clear H;rintro e w6 ⟨rfl,g5,g9⟩;have S6:=hI (S5.o.call g5 g9);clear S5 g5 g9;obtain⟨c0,c1,c2,c3,c4,c5⟩:=S6.o.cells;have j:=S6.o.lt;go_wp2_with fail
  try clear c0 c1 c2 c3 c4 c5
  try clear j
  have H:=jZ (S:=w6.1.size) [[59]] S6.o.wr (by simp) (by simp) (by have:=s.o;(try simp only[lL,lO,lZ]at this ⊢);omega);simp only[jT,List.map,List.length]at H;refine H.mono ?_;clear H;rintro e w7 ⟨rfl,g6,g7⟩;have S7:=hI (S6.o.call g6 g7);clear S6 g6 g7;go_wp2
  first | go_end0 | refine bodyPost_ret (v:=.tuple #[]) (by simp[results,results129,go_sem]) rfl ?_
  exact⟨rfl,by simpa[List.append_assoc,qY,qG,qC,qO,zB,zD,zX,qE,kIf,zS,qA,qV,qF,qD,qP,qW,qN,zW,zM,qL,qM,qT,zK,zL,qH,zA]using S7.o.wr,S7.o.kp⟩
 case false =>
 simp only[m3,bO,bP,bF,if_false,reduceIte]at G;cases m2:(k == [97,115,115,117,109,101]);case true =>
  simp only[m2,bU,bV,bT,if_true,reduceIte]at G;obtain rfl:k=[97,115,115,117,109,101]:=by simpa using m2
  clear m2;rcases ks with _ | ⟨a0,_ | ⟨b,r⟩⟩
  ·simp at G
  rotate_left
  ·simp at G
  simp only at G;obtain⟨Y,he1⟩:=zN G;clear G;obtain⟨n6,n8,hA,hS,g8⟩:=qK he1;subst g8;clear he1;injection hS with hS;subst hS;obtain⟨d9,g4,I,A,d4⟩:=qK hA;subst d4;clear hA;injection I with I;subst I;obtain⟨n2,p1,m9,f9,n0⟩:=qK A;subst n0;clear A;injection f9 with f9;subst f9;obtain⟨g0,vc,hv,hR⟩:=hL.row (by simp[qQ.kids]);have HR:=hI hR;clear hR;simp only[qQ.kind,qQ.text,qQ.num,qQ.line,qQ.col,qQ.kids,List.length]at hv;subst hv;have z:=hI (Sw.start Z hL);have HF:=hI hF;have d7:=hI U;have s:=hI y;have f8:=Z.lt;have f3:=hI O;have C:=hI R;clear Z hF hL U y f6 O R;try simp only[qZ,qS,qQ.kind,qQ.text,qQ.num,qQ.line,qQ.col,qQ.kids]at *
  go_enter func129,ntmps129
  obtain⟨c0,c1,c2,c3,c4,c5⟩:=z.o.cells;have j:=z.o.lt;go_wp2_with fail
  try clear c0 c1 c2 c3 c4 c5
  try clear j
  have HQ:=wB (t:=(.mk [97,115,115,117,109,101] x m ln co [a0])) (v:=.slice (some ⟨g0,0,none⟩) 1 vc) (lo:=1) (hi:=1) _ z.o.wr.tab rfl Y (by first | simp | omega | (have:=C.o;(try simp only[List.length]at this ⊢);omega)) (by first | simp | omega | (have:=C.o;(try simp only[List.length]at this ⊢);omega));simp only[qZ,qQ.kind,qQ.text,qQ.num,qQ.line,qQ.col,qQ.kids]at HQ;refine HQ.mono ?_;clear HQ;rintro e w3 ⟨rfl,hb3⟩;have J:=hI (z.o.below hb3);clear z hb3;obtain⟨c0,c1,c2,c3,c4,c5⟩:=J.o.cells;have j:=J.o.lt;go_wp2_with fail
  refine(jF _).mono ?_;rintro e w' ⟨rfl,rfl⟩;try clear c0 c1 c2 c3 c4 c5 j
  obtain⟨c0,c1,c2,c3,c4,c5⟩:=J.o.cells;have j:=J.o.lt;go_wp2_with fail
  try clear c0 c1 c2 c3 c4 c5
  try clear j
  have H:=jZ (S:=w3.1.size) [[97,115,115,117,109,101],[40]] J.o.wr (by simp) (by simp) (by have:=s.o;(try simp only[lL,lO,lZ]at this ⊢);omega);simp only[jT,List.map,List.length]at H;refine H.mono ?_;clear H;rintro e w4 ⟨rfl,d6,d2⟩;have S4:=hI (J.o.call d6 d2);clear J d6 d2;obtain⟨qa,na,ca,g1,g2⟩:=(HR.o.keep S4.o.kp.below).2 0 (by simp);simp only[Nat.zero_add,Nat.zero_mul,Nat.one_mul,Nat.reduceAdd,Nat.reduceMul,List.getElem_cons_zero,List.getElem_cons_succ]at g1 g2;have⟨k0,k1,k2,k3,k4,k5,_⟩:=g2.a;simp only[Nat.zero_add,Nat.zero_mul,Nat.one_mul,Nat.reduceAdd,Nat.reduceMul,List.getElem_cons_zero,List.getElem_cons_succ]at k0 k1 k2 k3 k4 k5;have X:=hI (g3 lo B (acc++[[97,115,115,117,109,101],[40]]) a0 (.slice qa na ca) _ n2 S4.o.wr g1 (d7.o.mem _ (by simp)) m9 (by have:=s.o;(try simp only[lL,lO,lZ]at this ⊢);omega));clear g2 g1;try simp only[qZ]at X
  obtain⟨c0,c1,c2,c3,c4,c5⟩:=S4.o.cells;have j:=S4.o.lt;go_wp2_with fail
  try clear c0 c1 c2 c3 c4 c5
  try clear j
  try clear k0 k1 k2 k3 k4 k5
  refine(X.o).mono ?_;rintro e w5 ⟨rfl,d8,f7⟩;have S5:=hI (S4.o.call d8 f7);clear S4 d8 f7 X;obtain⟨c0,c1,c2,c3,c4,c5⟩:=S5.o.cells;have j:=S5.o.lt;go_wp2_with fail
  try clear c0 c1 c2 c3 c4 c5
  try clear j
  have H:=jZ (S:=w5.1.size) [[41]] S5.o.wr (by simp) (by simp) (by have:=s.o;(try simp only[lL,lO,lZ]at this ⊢);omega);simp only[jT,List.map,List.length]at H;refine H.mono ?_;clear H;rintro e w6 ⟨rfl,g5,g9⟩;have S6:=hI (S5.o.call g5 g9);clear S5 g5 g9;obtain⟨c0,c1,c2,c3,c4,c5⟩:=S6.o.cells;have j:=S6.o.lt;go_wp2_with fail
  try clear c0 c1 c2 c3 c4 c5
  try clear j
  have H:=jZ (S:=w6.1.size) [[59]] S6.o.wr (by simp) (by simp) (by have:=s.o;(try simp only[lL,lO,lZ]at this ⊢);omega);simp only[jT,List.map,List.length]at H;refine H.mono ?_;clear H;rintro e w7 ⟨rfl,g6,g7⟩;have S7:=hI (S6.o.call g6 g7);clear S6 g6 g7;go_wp2
  first | go_end0 | refine bodyPost_ret (v:=.tuple #[]) (by simp[results,results129,go_sem]) rfl ?_
  exact⟨rfl,by simpa[List.append_assoc,qY,qG,qC,qO,zB,zD,zX,qE,kIf,zS,qA,qV,qF,qD,qP,qW,qN,zW,zM,qL,qM,qT,zK,zL,qH,zA]using S7.o.wr,S7.o.kp⟩
 case false =>
 simp only[m2,bO,bP,bF,if_false,reduceIte]at G;obtain⟨d9,g4,I,A,d4⟩:=qK G;subst d4;clear G;injection A with A;subst A;obtain⟨q0,vc,hv,hvc,n1⟩:=hL.shape;simp only[qQ.kind,qQ.text,qQ.num,qQ.line,qQ.col,qQ.kids,List.length]at hv;subst hv;have z:=hI (Sw.start Z hL);have HF:=hI hF;have d7:=hI U;have s:=hI y;have f8:=Z.lt;have f3:=hI O;have C:=hI R;clear Z hF hL U y f6 O R;try simp only[qZ,qS,qQ.kind,qQ.text,qQ.num,qQ.line,qQ.col,qQ.kids]at *
 go_enter func129,ntmps129
 have X:=hI ((gift_w rec g3) lo B acc (.mk k x m ln co ks) _ _ d9 z.o.wr z.o.li HF.o I (by have:=s.o;(try simp only[lL,lO,lZ]at this ⊢);omega));try simp only[qZ,qQ.kind,qQ.text,qQ.num,qQ.line,qQ.col,qQ.kids]at X
 obtain⟨c0,c1,c2,c3,c4,c5⟩:=z.o.cells;have j:=z.o.lt;go_wp2_with fail
 try clear c0 c1 c2 c3 c4 c5
 try clear j
 refine(X.o).mono ?_;rintro e w2 ⟨rfl,f5,f4⟩;have V:=hI (z.o.call f5 f4);clear z f5 f4 X;obtain⟨c0,c1,c2,c3,c4,c5⟩:=V.o.cells;have j:=V.o.lt;go_wp2_with fail
 try clear c0 c1 c2 c3 c4 c5
 try clear j
 have H:=jZ (S:=w2.1.size) [[59]] V.o.wr (by simp) (by simp) (by have:=s.o;(try simp only[lL,lO,lZ]at this ⊢);omega);simp only[jT,List.map,List.length]at H;refine H.mono ?_;clear H;rintro e w3 ⟨rfl,d3,d5⟩;have J:=hI (V.o.call d3 d5);clear V d3 d5;go_wp2
 first | go_end0 | refine bodyPost_ret (v:=.tuple #[]) (by simp[results,results129,go_sem]) rfl ?_
 exact⟨rfl,by simpa[List.append_assoc,qY,qG,qC,qO,zB,zD,zX,qE,kIf,zS,qA,qV,qF,qD,qP,qW,qN,zW,zM,qL,qM,qT,zK,zL,qH,zA]using J.o.wr,J.o.kp⟩
def ManyRel(lo B N:Nat)(acc:List (List UInt8))(t:qQ)(v:Value)(p:qQ->Ws)(ts:List qQ)(ws:List (List UInt8))(w:World)(i:Value)(wr:World):Prop :=
 ∃ (k:Nat) (pre post:List (List UInt8)),k<=ts.length/\i=.int .i64 k/\ws=pre++post/\qZP p (ts.drop k)=some post/\Sw w lo B N (acc++pre) t v wr
theorem qPP(p:qQ->Ws)(ts:List qQ){i:Nat}(h:i<=ts.length)(j:¬i < ts.length):qZP p (ts.drop i)=some []:=by
 have:i=ts.length:=by omega
 rw[this,List.drop_length];rfl
theorem qUi{p:qQ->Ws}{ts:List qQ}{i:Nat}(h:i < ts.length){ws:List (List UInt8)}(j:qZP p (ts.drop i)=some ws):∃ a b,p ts[i]=some a/\qZP p (ts.drop (i+1))=some b/\ws=a++b:=by
 rw[List.drop_eq_getElem_cons h]at j;exact qK (show jD (p ts[i]) (qZP p (ts.drop (i+1)))=some ws from j)
theorem block_w(rec:WT->qQ->Ws)(g6:kZ 129 (fun p n=>#[p,n]) (qJr rec)):kZ 116 (fun p n=>#[p,n]) (qVv rec):=by
 intro lo B acc t v w ws hW hL hF he s;obtain⟨k,x,m,ln,co,ks⟩:=t;obtain⟨m1,d5,m3,m2,d6,f5⟩:=id hF;simp only[qVv,qY,qG,qC,qO,zB,zD,zX,qE,kIf,zS,qA,qV,qF,qD,qP,qW,qN,zW,zM,qL,qM,qT,zK,zL,qH,zA,qQ.kind,qQ.text,qQ.num,qQ.line,qQ.col,qQ.kids]at he;obtain⟨hb,he1⟩:=zN he;clear he;simp only[bE,beq_iff_eq]at hb;obtain⟨rfl,d2⟩:=hb;obtain⟨m5,n1,Y,f9,g8⟩:=qK he1;subst g8;clear he1;injection Y with Y;subst Y;obtain⟨g0,n0,d3,U,g3⟩:=qK f9;subst g3;clear f9;injection U with U;subst U;obtain⟨q0,vc,hv,hvc,n2,d9⟩:=hL.kids;have m0:=hI d9;clear d9;simp only[qQ.kind,qQ.text,qQ.num,qQ.line,qQ.col,qQ.kids,List.length]at hv;subst hv;have S0:=hI (Sw.start hW hL);have HF:=hI hF;have g2:=hI f5;have y:=hI s;have m9:=hW.lt;have m6:=hI d5;have O:=hI d6;clear hW hF hL f5 s m1 d5 d6;try simp only[qZ,qS,qQ.kind,qQ.text,qQ.num,qQ.line,qQ.col,qQ.kids]at *
 have g4:=hI d3;clear d3;have m4:=zT;go_enter func116,ntmps116
 obtain⟨c0,c1,c2,c3,c4,c5⟩:=S0.o.cells;have j:=S0.o.lt;go_wp2_with fail
 try clear c0 c1 c2 c3 c4 c5
 try clear j
 have HQ:=wB (t:=(.mk [98,108,111,99,107] x m ln co ks)) (v:=.slice q0 ks.length vc) (lo:=0) (hi:=9223372036854775807) _ S0.o.wr.tab rfl d2 (by first | simp | omega | (have:=O.o;(try simp only[List.length]at this ⊢);omega)) (by first | simp | omega | (have:=O.o;(try simp only[List.length]at this ⊢);omega));simp only[qZ,qQ.kind,qQ.text,qQ.num,qQ.line,qQ.col,qQ.kids]at HQ;refine HQ.mono ?_;clear HQ;rintro e w3 ⟨rfl,hb3⟩;have X:=hI (S0.o.below hb3);clear S0 hb3;obtain⟨c0,c1,c2,c3,c4,c5⟩:=X.o.cells;have j:=X.o.lt;go_wp2_with fail
 refine(jF _).mono ?_;rintro e w' ⟨rfl,rfl⟩;try clear c0 c1 c2 c3 c4 c5 j
 obtain⟨c0,c1,c2,c3,c4,c5⟩:=X.o.cells;have j:=X.o.lt;go_wp2_with fail
 try clear c0 c1 c2 c3 c4 c5
 try clear j
 have H:=jZ (S:=w3.1.size) [[123]] X.o.wr (by simp) (by simp) (by have:=y.o;(try simp only[lL,lO,lZ]at this ⊢);omega);simp only[jT,List.map,List.length]at H;refine H.mono ?_;clear H;rintro e w4 ⟨rfl,f6,d4⟩;have S4:=hI (X.o.call f6 d4);clear X f6 d4;obtain⟨c0,c1,c2,c3,c4,c5⟩:=S4.o.cells;have j:=S4.o.lt;go_wp2_with fail
 try clear c0 c1 c2 c3 c4 c5
 try clear j
 go_loopw [20] (fun i wr=>ManyRel lo B w.1.size (acc++[[123]]) (.mk [98,108,111,99,107] x m ln co ks) (.slice q0 ks.length vc) (qJr rec) ks g0 w i wr) (fun i _=>ks.length - (intOf i).toNat)
 case atStart=>exact⟨0,[],g0,Nat.zero_le _,rfl,rfl,g4.o,by simpa using S4.o⟩
 case round =>
  have hn:=O.o;obtain⟨i,pre,post,hk,rfl,z,C,hS⟩:=hrel;have Z:=hI z;have f3:=hI C;have SR:=hI hS;clear z C hS S4;by_cases G:i < ks.length
  ·have d7:ks≠[]:=fun e=>by rw[e]at G;simp at G
   obtain⟨g1,m7,rfl,hR⟩:=(m0.o.keep SR.o.kp.below).resolve_left d7;obtain⟨qa,na,ca,f7,f8⟩:=hR.2 i G;have⟨k0,k1,k2,k3,k4,k5,_⟩:=f8.a;have d8:=hI f7;have J:=hI (qZn.mem g2.o ks[i] (List.getElem_mem _));have T0:=hI (Hn.new ks[i] (.slice qa na ca) wr);have S1:=hI (SR.o.alloc (.cells (qS ks[i] (.slice qa na ca)).toArray 57));have g7:=SR.o.wr.lt;have g5:=hI (d8.o.keep (((Below.refl _ _).alloc (Nat.le_refl _) (.cells (qS ks[i] (.slice qa na ca)).toArray 57)).mono (Nat.le_of_lt g7)));obtain⟨a,b,ha,hb,V⟩:=qUi G f3.o;have HA:=hI ha;have HB:=hI hb;have g9:=hI V;have s:(((acc++[[123]])++pre)++a).length<=1000000000:=by have:=y.o;rw[Z.o,V]at this;simp only[lL,lO,lZ]at this ⊢;omega
   have R:=hI s;clear f8 f7 hR d7 d8 ha hb V s SR;generalize hu:ks[i]=u at *;simp only[qS,qZ]at *;have HC:=hI (g6 lo B ((acc++[[123]])++pre) u (.slice qa na ca) _ a S1.o.wr g5.o J.o HA.o (by have:=R.o;simpa only[lL]using this));try simp only[qZ]at HC
   obtain⟨c0,c1,c2,c3,c4,c5⟩:=S1.o.cells;go_wp2_with fail
   clear c0 c1 c2 c3 c4 c5;refine(HC.o).mono ?_;rintro e w5 ⟨rfl,A,I⟩;have S5:=hI (S1.o.call A I);clear A I HC S1 T0 k0 k1 k2 k3 k4 k5;go_wp2
   go_roundw
   case rel=>exact⟨i+1,pre++a,b,by omega,by go_num,by rw[Z.o,g9.o,List.append_assoc],HB.o,by simpa[List.append_assoc]using S5.o⟩
   case measure=>simp[intOf];omega
  ·have f4:post=[]:=by have h:=f3.o;rw[qPP _ ks hk G]at h;injection h with h;exact h.symm
   have z:=Z.o;rw[f4,lA]at z;subst z;have S2:=SR;clear SR f4;obtain⟨c0,c1,c2,c3,c4,c5⟩:=S2.o.cells;have j:=S2.o.lt;go_wp2_with fail
   try clear c0 c1 c2 c3 c4 c5
   try clear j
   have H:=jZ (S:=wr.1.size) [[125]] S2.o.wr (by simp) (by simp) (by have:=y.o;(try simp only[lL,lO,lZ]at this ⊢);omega);simp only[jT,List.map,List.length]at H;refine H.mono ?_;clear H;rintro e w5 ⟨rfl,A,I⟩;have S5:=hI (S2.o.call A I);clear S2 A I;go_wp2
   first | go_end0 | refine bodyPost_ret (v:=.tuple #[]) (by simp[results,results116,go_sem]) rfl ?_
   exact⟨rfl,by simpa[List.append_assoc,qY,qG,qC,qO,zB,zD,zX,qE,kIf,zS,qA,qV,qF,qD,qP,qW,qN,zW,zM,qL,qM,qT,zK,zL,qH,zA]using S5.o.wr,S5.o.kp⟩
theorem param_w(hd:kZ 112 (fun p n=>#[p,n, .bool false]) (vY false)):kZ 115 (fun p n=>#[p,n]) (qZ1):=by
 intro lo B acc t v w ws hW hL V Y s;obtain⟨k,x,m,ln,co,ks⟩:=t;obtain⟨d3,A,d6,d5,C,G⟩:=id V;simp only[qZ1,qY,qG,qC,qO,zB,zD,zX,qE,kIf,zS,qA,qV,qF,qD,qP,qW,qN,zW,zM,qL,qM,qT,zK,zL,qH,zA,qQ.kind,qQ.text,qQ.num,qQ.line,qQ.col,qQ.kids]at Y;obtain⟨hb,he1⟩:=zN Y;clear Y;simp only[bE,beq_iff_eq]at hb;obtain⟨⟨rfl,d2⟩,hl⟩:=hb;obtain⟨a0,rfl⟩:=List.length_eq_one_iff.1 hl;clear hl;obtain⟨g0,vc,hv,hR⟩:=hL.row (by simp[qQ.kids]);have HR:=hI hR;clear hR;simp only[qQ.kind,qQ.text,qQ.num,qQ.line,qQ.col,qQ.kids,List.length]at hv;subst hv;have J:=hI (Sw.start hW hL);have HF:=hI V;have d7:=hI G;have z:=hI s;have d8:=hW.lt;have d4:=hI A;have R:=hI C;clear hW V hL G s d3 A C;try simp only[qZ,qS,qQ.kind,qQ.text,qQ.num,qQ.line,qQ.col,qQ.kids]at *
 go_enter func115,ntmps115
 obtain⟨c0,c1,c2,c3,c4,c5⟩:=J.o.cells;have j:=J.o.lt;go_wp2_with fail
 try clear c0 c1 c2 c3 c4 c5
 try clear j
 have X:=qZg (t:=(.mk [112,97,114,97,109] x m ln co [a0])) (v:=.slice (some ⟨g0,0,none⟩) 1 vc) (lo:=1) (hi:=1) _ J.o.wr.tab d4.o rfl d2 (by first | simp | omega | (have:=R.o;(try simp only[List.length]at this ⊢);omega)) (by first | simp | omega | (have:=R.o;(try simp only[List.length]at this ⊢);omega));simp only[qZ,qQ.kind,qQ.text,qQ.num,qQ.line,qQ.col,qQ.kids]at X;refine X.mono ?_;clear X;rintro e w1 ⟨rfl,U⟩;have y:=hI (J.o.below U);clear J U;obtain⟨c0,c1,c2,c3,c4,c5⟩:=y.o.cells;have j:=y.o.lt;go_wp2_with fail
 refine(jF _).mono ?_;rintro e w' ⟨rfl,rfl⟩;try clear c0 c1 c2 c3 c4 c5 j
 have Z:=hI (hd lo B acc (.mk [112,97,114,97,109] x m ln co [a0]) _ _ ws y.o.wr y.o.li HF.o he1 (by have:=z.o;(try simp only[lL,lO,lZ]at this ⊢);omega));try simp only[qZ,qQ.kind,qQ.text,qQ.num,qQ.line,qQ.col,qQ.kids]at Z
 obtain⟨c0,c1,c2,c3,c4,c5⟩:=y.o.cells;have j:=y.o.lt;go_wp2_with fail
 try clear c0 c1 c2 c3 c4 c5
 try clear j
 refine(Z.o).mono ?_;rintro e w2 ⟨rfl,O,I⟩;have S2:=hI (y.o.call O I);clear y O I Z;go_wp2
 first | go_end0 | refine bodyPost_ret (v:=.tuple #[]) (by simp[results,results115,go_sem]) rfl ?_
 exact⟨rfl,by simpa[List.append_assoc,qY,qG,qC,qO,zB,zD,zX,qE,kIf,zS,qA,qV,qF,qD,qP,qW,qN,zW,zM,qL,qM,qT,zK,zL,qH,zA]using S2.o.wr,S2.o.kp⟩
theorem qL7(rec:WT->qQ->Ws)(g7:kZ 116 (fun p n=>#[p,n]) (rec .block)):kZ 94 (fun p n=>#[p,n]) (kA rec):=by
 intro lo B acc t v w ws hW hL hF he I;obtain⟨k,x,m,ln,co,ks⟩:=t;obtain⟨m7,d3,n3,n1,d4,f6⟩:=id hF;simp only[kA,qY,qG,qC,qO,zB,zD,zX,qE,kIf,zS,qA,qV,qF,qD,qP,qW,qN,zW,zM,qL,qM,qT,zK,zL,qH,zA,qQ.kind,qQ.text,qQ.num,qQ.line,qQ.col,qQ.kids]at he;rcases ks with _ | ⟨a0,_ | ⟨z,r⟩⟩
 ·simp at he
 ·simp at he
 simp only at he;obtain⟨g6,he1⟩:=zN he;clear he;obtain⟨X,p4,m6,g2,m2⟩:=qK he1;subst m2;clear he1;obtain⟨p7,p3,U,f4,g5⟩:=qK g2;subst g5;clear g2;injection U with U;subst U;obtain⟨d7,n5,g9,f8,m3⟩:=qK f4;subst m3;clear f4;obtain⟨p2,n0,Y,m1,m5⟩:=qK f8;subst m5;clear f8;injection Y with Y;subst Y;have m9:=hL.shape;obtain⟨g0,vc,hv,hR⟩:=hL.row (by simp[qQ.kids]);have HR:=hI hR;clear hR;simp only[qQ.kind,qQ.text,qQ.num,qQ.line,qQ.col,qQ.kids,List.length]at hv;subst hv;have S0:=hI (Sw.start hW hL);have HF:=hI hF;have d6:=hI f6;have s:=hI I;have p0:=hW.lt;have g8:=hI d3;have V:=hI d4;clear hW hF hL f6 I m7 d3 d4;try simp only[qZ,qS,qQ.kind,qQ.text,qQ.num,qQ.line,qQ.col,qQ.kids]at *
 have n4:=zT;obtain⟨q9,c9,e9,f3,n2⟩:=m9;injection e9 with e91 e92 e93;subst e93;simp only[List.length]at f3;clear e91 e92;have hn:=V.o;simp only[List.length]at hn;have n8:wrap64 ((r.length:Int)+1)=(r.length:Int)+1:=by unfold wrap64;omega
 have p5:(1:Int)<=(r.length:Int)+1:=by omega
 have n9:(r.length:Int)+1<=(vc:Int):=by omega
 have n7:(1:Int)<=(vc:Int):=by omega
 have n6:¬(r.length:Int)+1 < 0:=by omega
 have p6:(r.length:Int)+1 < (r.length:Int)+1+1:=by omega
 go_enter func94,ntmps94
 obtain⟨c0,c1,c2,c3,c4,c5⟩:=S0.o.cells;have j:=S0.o.lt;go_wp2_with fail
 try clear c0 c1 c2 c3 c4 c5
 try clear j
 have HQ:=qZg (t:=(.mk k x m ln co (a0 :: z :: r))) (v:=.slice (some ⟨g0,0,none⟩) (r.length+1+1) vc) (lo:=2) (hi:=9223372036854775807) _ S0.o.wr.tab g8.o rfl g6 (by first | (simp;done) | omega | (have:=V.o;(try simp only[List.length]at this ⊢);omega)) (by first | (simp;done) | omega | (have:=V.o;(try simp only[List.length]at this ⊢);omega));simp only[qZ,qQ.kind,qQ.text,qQ.num,qQ.line,qQ.col,qQ.kids]at HQ;refine HQ.mono ?_;clear HQ;rintro e w5 ⟨rfl,hb5⟩;have J:=hI (S0.o.below hb5);clear S0 hb5;obtain⟨c0,c1,c2,c3,c4,c5⟩:=J.o.cells;have j:=J.o.lt;go_wp2_with fail
 refine(jF _).mono ?_;rintro e w' ⟨rfl,rfl⟩;try clear c0 c1 c2 c3 c4 c5 j
 have A:=hI ((qXn true) lo B acc (.mk k x m ln co (a0 :: z :: r)) _ _ X J.o.wr J.o.li HF.o m6 (by have:=s.o;(try simp only[lL,lO,lZ]at this ⊢);omega));try simp only[qZ,qQ.kind,qQ.text,qQ.num,qQ.line,qQ.col,qQ.kids]at A
 obtain⟨c0,c1,c2,c3,c4,c5⟩:=J.o.cells;have j:=J.o.lt;go_wp2_with fail
 try clear c0 c1 c2 c3 c4 c5
 try clear j
 refine(A.o).mono ?_;rintro e w6 ⟨rfl,d5,g3⟩;have S6:=hI (J.o.call d5 g3);clear J d5 g3 A;obtain⟨c0,c1,c2,c3,c4,c5⟩:=S6.o.cells;have j:=S6.o.lt;go_wp2_with fail
 try clear c0 c1 c2 c3 c4 c5
 try clear j
 have H:=jZ (S:=w6.1.size) [[40]] S6.o.wr (by simp) (by simp) (by have:=s.o;(try simp only[lL,lO,lZ]at this ⊢);omega);simp only[jT,List.map,List.length]at H;refine H.mono ?_;clear H;rintro e w7 ⟨rfl,d9,f5⟩;have S7:=hI (S6.o.call d9 f5);clear S6 d9 f5;have C:((z :: r).dropLast).length=r.length:=by simp
 have R:∀ i (hi:i < ((z :: r).dropLast).length),∃ h:1+i < (a0 :: z :: r).length,(a0 :: z :: r)[1+i]=((z :: r).dropLast)[i]:=fun i hi=>⟨by rw[C]at hi;simp;omega,by rw[List.getElem_dropLast];simp[Nat.add_comm 1 i]⟩
 have A:=qWO 115 qZ1 (fun _ _=>rfl) (param_w (qXn false)) lo B ((acc++X)++[[40]]) ((z :: r).dropLast) (some ⟨g0,6,none⟩) (vc - 1) _ d7 S7.o.wr (.inr ⟨g0,6,rfl,(HR.o.keep S7.o.kp.below).sub _ 1 R⟩) (by rw[C];omega) (qZn.of fun t ht=>qZn.mem d6.o t (List.mem_cons_of_mem _ (List.dropLast_subset _ ht))) g9 (by have:=s.o;(try simp only[lL,lO,lZ]at this ⊢);omega);rw[C]at A;have A:=hI A;clear C R;obtain⟨c0,c1,c2,c3,c4,c5⟩:=S7.o.cells;have j:=S7.o.lt;go_wp2_with fail
 try clear c0 c1 c2 c3 c4 c5
 try clear j
 refine(A.o).mono ?_;rintro e w8 ⟨rfl,d8,f9⟩;have S8:=hI (S7.o.call d8 f9);clear S7 d8 f9 A;obtain⟨c0,c1,c2,c3,c4,c5⟩:=S8.o.cells;have j:=S8.o.lt;go_wp2_with fail
 try clear c0 c1 c2 c3 c4 c5
 try clear j
 have H:=jZ (S:=w8.1.size) [[41]] S8.o.wr (by simp) (by simp) (by have:=s.o;(try simp only[lL,lO,lZ]at this ⊢);omega);simp only[jT,List.map,List.length]at H;refine H.mono ?_;clear H;rintro e w9 ⟨rfl,f7,g1⟩;have S9:=hI (S8.o.call f7 g1);clear S8 f7 g1;obtain⟨qa,na,ca,Z,d2⟩:=(HR.o.keep S9.o.kp.below).2 (r.length+1) (by simp);have m0:(a0 :: z :: r)[r.length+1]'(by simp)=(z :: r).getLast (List.cons_ne_nil z r):=by rw[List.getLast_eq_getElem];simp
 rw[m0]at Z d2;have m4:qZl ((z :: r).getLast (List.cons_ne_nil z r)):=qZn.mem d6.o _ (List.mem_cons_of_mem _ (List.getLast_mem _));generalize (z :: r).getLast (List.cons_ne_nil z r)=y at *;have⟨k0,k1,k2,k3,k4,k5,_⟩:=d2.a;simp only[Nat.zero_add]at k0 k1 k2 k3 k4 k5;have A:=hI (g7 lo B ((((acc++X)++[[40]])++d7)++[[41]]) y (.slice qa na ca) _ n0 S9.o.wr Z m4 m1 (by have:=s.o;(try simp only[lL,lO,lZ]at this ⊢);omega));clear d2 Z;try simp only[qZ]at A
 obtain⟨c0,c1,c2,c3,c4,c5⟩:=S9.o.cells;have j:=S9.o.lt;go_wp2_with fail
 try clear c0 c1 c2 c3 c4 c5
 try clear j
 try clear k0 k1 k2 k3 k4 k5
 refine(A.o).mono ?_;rintro e p1 ⟨rfl,O,G⟩;have g4:=hI (S9.o.call O G);clear S9 O G A;go_wp2
 first | go_end0 | refine bodyPost_ret (v:=.tuple #[]) (by simp[results,results94,go_sem]) rfl ?_
 exact⟨rfl,by simpa[List.append_assoc,qY,qG,qC,qO,zB,zD,zX,qE,kIf,zS,qA,qV,qF,qD,qP,qW,qN,zW,zM,qL,qM,qT,zK,zL,qH,zA]using g4.o.wr,g4.o.kp⟩
theorem global_w :kZ 95 (fun p n=>#[p,n]) (qXa):=by
 intro lo B acc t v w ws hW hL hF he y;obtain⟨k,x,m,ln,co,ks⟩:=t;obtain⟨g7,J,m7,m6,O,U⟩:=id hF;unfold qXa qQn at he;simp only[qY,qG,qC,qO,zB,zD,zX,qE,kIf,zS,qA,qV,qF,qD,qP,qW,qN,zW,zM,qL,qM,qT,zK,zL,qH,zA,qQ.kind,qQ.text,qQ.num,qQ.line,qQ.col,qQ.kids]at he;obtain⟨hb,he1⟩:=zN he;clear he;simp only[bE,beq_iff_eq]at hb;obtain⟨rfl,f3⟩:=hb;rcases ks with _ | ⟨a0,_ | ⟨a1,_ | ⟨b,r⟩⟩⟩
 ·simp at he1
 rotate_right
 ·simp at he1
 ·simp only at he1;obtain⟨R,m5,d5,z,Z⟩:=qK he1;subst Z;clear he1;injection z with z;subst z;obtain⟨g0,vc,hv,hR⟩:=hL.row (by simp[qQ.kids]);have HR:=hI hR;clear hR;simp only[qQ.kind,qQ.text,qQ.num,qQ.line,qQ.col,qQ.kids,List.length]at hv;subst hv;have I:=hI (Sw.start hW hL);have HF:=hI hF;have d8:=hI U;have s:=hI y;have m2:=hW.lt;have Y:=hI J;have A:=hI O;clear hW hF hL U y g7 J O;try simp only[qZ,qS,qQ.kind,qQ.text,qQ.num,qQ.line,qQ.col,qQ.kids]at *
  go_enter func95,ntmps95
  obtain⟨c0,c1,c2,c3,c4,c5⟩:=I.o.cells;have j:=I.o.lt;go_wp2_with fail
  try clear c0 c1 c2 c3 c4 c5
  try clear j
  have HQ:=qZg (t:=(.mk [103,108,111,98,97,108] x m ln co [a0])) (v:=.slice (some ⟨g0,0,none⟩) 1 vc) (lo:=1) (hi:=2) _ I.o.wr.tab Y.o rfl f3 (by first | simp | omega | (have:=A.o;(try simp only[List.length]at this ⊢);omega)) (by first | simp | omega | (have:=A.o;(try simp only[List.length]at this ⊢);omega));simp only[qZ,qQ.kind,qQ.text,qQ.num,qQ.line,qQ.col,qQ.kids]at HQ;refine HQ.mono ?_;clear HQ;rintro e w2 ⟨rfl,g6⟩;have V:=hI (I.o.below g6);clear I g6;obtain⟨c0,c1,c2,c3,c4,c5⟩:=V.o.cells;have j:=V.o.lt;go_wp2_with fail
  refine(jF _).mono ?_;rintro e w' ⟨rfl,rfl⟩;try clear c0 c1 c2 c3 c4 c5 j
  have C:=hI ((qXn false) lo B acc (.mk [103,108,111,98,97,108] x m ln co [a0]) _ _ R V.o.wr V.o.li HF.o d5 (by have:=s.o;(try simp only[lL,lO,lZ]at this ⊢);omega));try simp only[qZ,qQ.kind,qQ.text,qQ.num,qQ.line,qQ.col,qQ.kids]at C
  obtain⟨c0,c1,c2,c3,c4,c5⟩:=V.o.cells;have j:=V.o.lt;go_wp2_with fail
  try clear c0 c1 c2 c3 c4 c5
  try clear j
  refine(C.o).mono ?_;rintro e w3 ⟨rfl,f4,f9⟩;have S3:=hI (V.o.call f4 f9);clear V f4 f9 C;obtain⟨c0,c1,c2,c3,c4,c5⟩:=S3.o.cells;have j:=S3.o.lt;go_wp2_with fail
  try clear c0 c1 c2 c3 c4 c5
  try clear j
  have H:=jZ (S:=w3.1.size) [[59]] S3.o.wr (by simp) (by simp) (by have:=s.o;(try simp only[lL,lO,lZ]at this ⊢);omega);simp only[jT,List.map,List.length]at H;refine H.mono ?_;clear H;rintro e w4 ⟨rfl,g2,d6⟩;have G:=hI (S3.o.call g2 d6);clear S3 g2 d6;go_wp2
  first | go_end0 | refine bodyPost_ret (v:=.tuple #[]) (by simp[results,results95,go_sem]) rfl ?_
  exact⟨rfl,by simpa[List.append_assoc,qY,qG,qC,qO,zB,zD,zX,qE,kIf,zS,qA,qV,qF,qD,qP,qW,qN,zW,zM,qL,qM,qT,zK,zL,qH,zA]using G.o.wr,G.o.kp⟩
 ·simp only at he1;obtain⟨n0,n3,hA,hS,m4⟩:=qK he1;subst m4;clear he1;injection hS with hS;subst hS;obtain⟨R,m5,d5,z,Z⟩:=qK hA;subst Z;clear hA;obtain⟨n2,n1,X,f7,g9⟩:=qK z;subst g9;clear z;injection X with X;subst X;obtain⟨m0,m9,m1,d4,m3⟩:=qK f7;subst m3;clear f7;injection d4 with d4;subst d4;obtain⟨g0,vc,hv,hR⟩:=hL.row (by simp[qQ.kids]);have HR:=hI hR;clear hR;simp only[qQ.kind,qQ.text,qQ.num,qQ.line,qQ.col,qQ.kids,List.length]at hv;subst hv;have I:=hI (Sw.start hW hL);have HF:=hI hF;have d8:=hI U;have s:=hI y;have m2:=hW.lt;have Y:=hI J;have A:=hI O;clear hW hF hL U y g7 J O;try simp only[qZ,qS,qQ.kind,qQ.text,qQ.num,qQ.line,qQ.col,qQ.kids]at *
  go_enter func95,ntmps95
  obtain⟨c0,c1,c2,c3,c4,c5⟩:=I.o.cells;have j:=I.o.lt;go_wp2_with fail
  try clear c0 c1 c2 c3 c4 c5
  try clear j
  have HQ:=qZg (t:=(.mk [103,108,111,98,97,108] x m ln co [a0,a1])) (v:=.slice (some ⟨g0,0,none⟩) 2 vc) (lo:=1) (hi:=2) _ I.o.wr.tab Y.o rfl f3 (by first | simp | omega | (have:=A.o;(try simp only[List.length]at this ⊢);omega)) (by first | simp | omega | (have:=A.o;(try simp only[List.length]at this ⊢);omega));simp only[qZ,qQ.kind,qQ.text,qQ.num,qQ.line,qQ.col,qQ.kids]at HQ;refine HQ.mono ?_;clear HQ;rintro e w4 ⟨rfl,hb4⟩;have G:=hI (I.o.below hb4);clear I hb4;obtain⟨c0,c1,c2,c3,c4,c5⟩:=G.o.cells;have j:=G.o.lt;go_wp2_with fail
  refine(jF _).mono ?_;rintro e w' ⟨rfl,rfl⟩;try clear c0 c1 c2 c3 c4 c5 j
  have C:=hI ((qXn false) lo B acc (.mk [103,108,111,98,97,108] x m ln co [a0,a1]) _ _ R G.o.wr G.o.li HF.o d5 (by have:=s.o;(try simp only[lL,lO,lZ]at this ⊢);omega));try simp only[qZ,qQ.kind,qQ.text,qQ.num,qQ.line,qQ.col,qQ.kids]at C
  obtain⟨c0,c1,c2,c3,c4,c5⟩:=G.o.cells;have j:=G.o.lt;go_wp2_with fail
  try clear c0 c1 c2 c3 c4 c5
  try clear j
  refine(C.o).mono ?_;rintro e w5 ⟨rfl,d9,g8⟩;have S5:=hI (G.o.call d9 g8);clear G d9 g8 C;obtain⟨c0,c1,c2,c3,c4,c5⟩:=S5.o.cells;have j:=S5.o.lt;go_wp2_with fail
  try clear c0 c1 c2 c3 c4 c5
  try clear j
  have H:=jZ (S:=w5.1.size) [[91]] S5.o.wr (by simp) (by simp) (by have:=s.o;(try simp only[lL,lO,lZ]at this ⊢);omega);simp only[jT,List.map,List.length]at H;refine H.mono ?_;clear H;rintro e w6 ⟨rfl,d7,g5⟩;have S6:=hI (S5.o.call d7 g5);clear S5 d7 g5;obtain⟨qa,na,ca,d2,d3⟩:=(HR.o.keep S6.o.kp.below).2 1 (by simp);simp only[Nat.zero_add,Nat.zero_mul,Nat.one_mul,Nat.reduceAdd,Nat.reduceMul,List.getElem_cons_zero,List.getElem_cons_succ]at d2 d3;have⟨k0,k1,k2,k3,k4,k5,_⟩:=d3.a;simp only[Nat.zero_add,Nat.zero_mul,Nat.one_mul,Nat.reduceAdd,Nat.reduceMul,List.getElem_cons_zero,List.getElem_cons_succ]at k0 k1 k2 k3 k4 k5;have C:=hI (qPT lo B ((acc++R)++[[91]]) a1 (.slice qa na ca) _ m0 S6.o.wr d2 (d8.o.mem _ (by simp)) m1 (by have:=s.o;(try simp only[lL,lO,lZ]at this ⊢);omega));clear d3 d2;try simp only[qZ]at C
  obtain⟨c0,c1,c2,c3,c4,c5⟩:=S6.o.cells;have j:=S6.o.lt;go_wp2_with fail
  try clear c0 c1 c2 c3 c4 c5
  try clear j
  try clear k0 k1 k2 k3 k4 k5
  refine(C.o).mono ?_;rintro e w7 ⟨rfl,f6,f8⟩;have S7:=hI (S6.o.call f6 f8);clear S6 f6 f8 C;obtain⟨c0,c1,c2,c3,c4,c5⟩:=S7.o.cells;have j:=S7.o.lt;go_wp2_with fail
  try clear c0 c1 c2 c3 c4 c5
  try clear j
  have H:=jZ (S:=w7.1.size) [[93]] S7.o.wr (by simp) (by simp) (by have:=s.o;(try simp only[lL,lO,lZ]at this ⊢);omega);simp only[jT,List.map,List.length]at H;refine H.mono ?_;clear H;rintro e w8 ⟨rfl,f5,g3⟩;have S8:=hI (S7.o.call f5 g3);clear S7 f5 g3;obtain⟨c0,c1,c2,c3,c4,c5⟩:=S8.o.cells;have j:=S8.o.lt;go_wp2_with fail
  try clear c0 c1 c2 c3 c4 c5
  try clear j
  have H:=jZ (S:=w8.1.size) [[59]] S8.o.wr (by simp) (by simp) (by have:=s.o;(try simp only[lL,lO,lZ]at this ⊢);omega);simp only[jT,List.map,List.length]at H;refine H.mono ?_;clear H;rintro e w9 ⟨rfl,g1,g4⟩;have S9:=hI (S8.o.call g1 g4);clear S8 g1 g4;go_wp2
  first | go_end0 | refine bodyPost_ret (v:=.tuple #[]) (by simp[results,results95,go_sem]) rfl ?_
  exact⟨rfl,by simpa[List.append_assoc,qY,qG,qC,qO,zB,zD,zX,qE,kIf,zS,qA,qV,qF,qD,qP,qW,qN,zW,zM,qL,qM,qT,zK,zL,qH,zA]using S9.o.wr,S9.o.kp⟩
theorem program_w(n:Nat)(g3:kZ 94 (fun p n=>#[p,n]) (kA (qZB n))):kZ 76 (fun p n=>#[p,n]) (qQO n):=by
 intro lo B acc t v w ws hW hL hF he s;obtain⟨k,x,m,ln,co,ks⟩:=t;obtain⟨g6,d3,g8,g7,d4,f5⟩:=id hF;simp only[qQO,qY,qG,qC,qO,zB,zD,zX,qE,kIf,zS,qA,qV,qF,qD,qP,qW,qN,zW,zM,qL,qM,qT,zK,zL,qH,zA,qQ.kind,qQ.text,qQ.num,qQ.line,qQ.col,qQ.kids]at he;obtain⟨hb,hm⟩:=zN he;clear he;simp only[bE,beq_iff_eq]at hb;obtain⟨rfl,Z⟩:=hb;obtain⟨q0,vc,hv,hvc,m3,d8⟩:=hL.kids;have g5:=hI d8;clear d8;simp only[qQ.kind,qQ.text,qQ.num,qQ.line,qQ.col,qQ.kids,List.length]at hv;subst hv;have S0:=hI (Sw.start hW hL);have HF:=hI hF;have g0:=hI f5;have d2:=hI s;have m2:=hW.lt;have m0:=hI d3;have V:=hI d4;clear hW hF hL f5 s g6 d3 d4;try simp only[qZ,qS,qQ.kind,qQ.text,qQ.num,qQ.line,qQ.col,qQ.kids]at *
 have g2:=hI hm;clear hm;have g9:=zT;go_enter func76,ntmps76
 obtain⟨c0,c1,c2,c3,c4,c5⟩:=S0.o.cells;have j:=S0.o.lt;go_wp2_with fail
 try clear c0 c1 c2 c3 c4 c5
 try clear j
 have HQ:=wB (t:=(.mk [112,114,111,103,114,97,109] x m ln co ks)) (v:=.slice q0 ks.length vc) (lo:=0) (hi:=9223372036854775807) _ S0.o.wr.tab rfl Z (by first | (simp;done) | omega | (have:=V.o;(try simp only[List.length]at this ⊢);omega)) (by first | (simp;done) | omega | (have:=V.o;(try simp only[List.length]at this ⊢);omega));simp only[qZ,qQ.kind,qQ.text,qQ.num,qQ.line,qQ.col,qQ.kids]at HQ;refine HQ.mono ?_;clear HQ;rintro e w1 ⟨rfl,f9⟩;have y:=hI (S0.o.below f9);clear S0 f9;obtain⟨c0,c1,c2,c3,c4,c5⟩:=y.o.cells;have j:=y.o.lt;go_wp2_with fail
 refine(jF _).mono ?_;rintro e w' ⟨rfl,rfl⟩;try clear c0 c1 c2 c3 c4 c5 j
 obtain⟨c0,c1,c2,c3,c4,c5⟩:=y.o.cells;have j:=y.o.lt;go_wp2_with fail
 try clear c0 c1 c2 c3 c4 c5
 try clear j
 go_loopw [17] (fun i wr=>ManyRel lo B w.1.size acc (.mk [112,114,111,103,114,97,109] x m ln co ks) (.slice q0 ks.length vc) (fun k=>if k.kind == [102,117,110,99]then kA (qZB n) k else qXa k) ks ws w i wr) (fun i _=>ks.length - (intOf i).toNat)
 case atStart=>exact⟨0,[],ws,Nat.zero_le _,rfl,rfl,g2.o,by simpa using y.o⟩
 case round =>
  have hn:=V.o;obtain⟨i,pre,post,hk,rfl,A,G,hS⟩:=hrel;have U:=hI A;have f3:=hI G;have SR:=hI hS;clear A G hS y;by_cases J:i < ks.length
  ·have d6:ks≠[]:=fun e=>by rw[e]at J;simp at J
   obtain⟨g1,m1,rfl,hR⟩:=(g5.o.keep SR.o.kp.below).resolve_left d6;obtain⟨qa,na,ca,f7,f8⟩:=hR.2 i J;have⟨k0,k1,k2,k3,k4,k5,_⟩:=f8.a;have d7:=hI f7;have z:=hI (qZn.mem g0.o ks[i] (List.getElem_mem _));have T0:=hI (Hn.new ks[i] (.slice qa na ca) wr);have y:=hI (SR.o.alloc (.cells (qS ks[i] (.slice qa na ca)).toArray 57));have g4:=SR.o.wr.lt;have d9:=hI (d7.o.keep (((Below.refl _ _).alloc (Nat.le_refl _) (.cells (qS ks[i] (.slice qa na ca)).toArray 57)).mono (Nat.le_of_lt g4)));obtain⟨a,b,R,hb,Y⟩:=qUi J f3.o;have HA:=hI R;have HB:=hI hb;have f6:=hI Y;have s:((acc++pre)++a).length<=1000000000:=by have:=d2.o;rw[U.o,Y]at this;simp only[lL,lO,lZ]at this ⊢;omega
   have I:=hI s;clear f8 f7 hR d6 d7 R hb Y s SR;generalize hu:ks[i]=u at *;simp only[qS,qZ]at *;cases d5:(u.kind == [102,117,110,99]);case false =>
    have R:=HA.o;simp only[d5,bF,if_false,if_true,reduceIte]at R;have X:=hI (global_w lo B (acc++pre) u (.slice qa na ca) _ a y.o.wr d9.o z.o R (by have:=I.o;rwa [lL]at this));clear R;try simp only[qZ]at X
    obtain⟨c0,c1,c2,c3,c4,c5⟩:=y.o.cells;go_wp2_with fail
    clear c0 c1 c2 c3 c4 c5;refine(X.o).mono ?_;rintro e w5 ⟨rfl,C,O⟩;have S5:=hI (y.o.call C O);clear C O X y T0 k0 k1 k2 k3 k4 k5;go_wp2
    go_roundw
    case rel=>exact⟨i+1,pre++a,b,by omega,by go_num,by rw[U.o,f6.o,List.append_assoc],HB.o,by simpa[List.append_assoc]using S5.o⟩
    case measure=>simp[intOf];omega
   case true =>
    have R:=HA.o;simp only[d5,bF,if_false,if_true,reduceIte]at R;have X:=hI (g3 lo B (acc++pre) u (.slice qa na ca) _ a y.o.wr d9.o z.o R (by have:=I.o;rwa [lL]at this));clear R;try simp only[qZ]at X
    skip
    obtain⟨c0,c1,c2,c3,c4,c5⟩:=y.o.cells;go_wp2_with fail
    clear c0 c1 c2 c3 c4 c5;refine(X.o).mono ?_;rintro e w5 ⟨rfl,C,O⟩;have S5:=hI (y.o.call C O);clear C O X y T0 k0 k1 k2 k3 k4 k5;go_wp2
    go_roundw
    case rel=>exact⟨i+1,pre++a,b,by omega,by go_num,by rw[U.o,f6.o,List.append_assoc],HB.o,by simpa[List.append_assoc]using S5.o⟩
    case measure=>simp[intOf];omega
  ·have f4:post=[]:=by have h:=f3.o;rw[qPP _ ks hk J]at h;injection h with h;exact h.symm
   have A:=U.o;rw[f4,lA]at A;subst A;have S2:=SR;clear SR f4;go_wp2
   first | go_end0 | refine bodyPost_ret (v:=.tuple #[]) (by simp[results,results76,go_sem]) rfl ?_
   exact⟨rfl,by simpa[List.append_assoc,qY,qG,qC,qO,zB,zD,zX,qE,kIf,zS,qA,qV,qF,qD,qP,qW,qN,zW,zM,qL,qM,qT,zK,zL,qH,zA]using S2.o.wr,S2.o.kp⟩
theorem run_w:∀ n,kZ 150 (fun p n=>#[p,n]) (qZB n .expr)/\kZ 116 (fun p n=>#[p,n]) (qZB n .block):=by
 intro n;induction n with
 | zero=>exact⟨fun _ _ _ _ _ _ _ _ _ _ he=>by simp[qZB]at he,fun _ _ _ _ _ _ _ _ _ _ he=>by simp[qZB]at he⟩
 | succ n ih=>exact⟨qUK (qZB n) ih.1,block_w (qZB n) (qLd (qZB n) ih.1 ih.2)⟩
theorem prog_w(n:Nat):kZ 76 (fun p n=>#[p,n]) (qQO n):=program_w n (qL7 (qZB n) (run_w n).2)
end Go.Proofs.YtiajhekdhhhghaaGreatDoor
