/- Walks. -/
import Derived.Test.YtiajhekdhhhghaaGreatDoorNai
set_option linter.all false
set_option maxHeartbeats 8000000
set_option maxRecDepth 100000
namespace Go.Proofs.YtiajhekdhhhghaaGreatDoor
open Tryz Go.Proofs.Tryz
open Go Go.RowKit
theorem BIn.below{B L:Nat}{gs:List qI}{fs:List FnM}{FC Mf:Nat}{gv:Value}{Mg Mr F:Nat}{cl:vE}{w w':World}(h:BIn B L gs fs FC Mf gv Mg Mr F cl w)(hb:Below w.1.size w w'):BIn B L gs fs FC Mf gv Mg Mr F cl w' :=
 have k:∀ {p:Addr} {v:Value},w.cell? p=some v->w'.cell? p=some v:=fun e=>kP hb e
 have A:∀ {b T},jX w b T->jX w' b T:=fun e=>e.turn (hb.block _ e.lt)
 ⟨k h.c0,k h.c1,k h.c3,k h.c4,k h.c6,by obtain⟨u,o⟩:=h.c2;exact⟨u,k o⟩,by obtain⟨u,o⟩:=h.c7;exact⟨u,k o⟩,by obtain⟨u,o⟩:=h.c8;exact⟨u,k o⟩,fun j hj=>(hb.frozen (p:=⟨B,j,none⟩) (show B < w.1.size from qJ h.c0)).trans (h.bf j hj),zU h.frow (fun g hg=>hb.block g (h.frow.lt g hg).2),fun f hf=>zU (h.vrow f hf) (fun g hg=>hb.block g ((h.vrow f hf).lt g hg).2),zU h.grow (fun g hg=>hb.block g (h.grow.lt g hg).2),h.gm.below hb,h.fm.below hb,h.rm.below hb,k h.cc,k h.ce,k h.b0,k h.b1,k h.d0,k h.d1,h.gl,h.fl,h.vl,h.par,A h.kb,A h.kc,A h.ke,h.lo,h.lv,by obtain⟨b,s,z,C,y⟩:=h.wt;exact⟨b,s,z,C.below hb,y⟩⟩
def qXI(l:List qQ):Nat:=(l.filter (fun t=>t.kind == qC)).length
theorem qY2{l:List qQ}{k:Nat}(h:k < l.length):qXI (l.take (k+1))=qXI (l.take k)+(if l[k].kind == qC then 1 else 0):=by
 unfold qXI;rw[List.take_succ_eq_append_getElem h,List.filter_append,lL];cases j:(l[k].kind == qC) <;> simp[List.filter_cons,j]
theorem cntF_le(l:List qQ)(k:Nat):qXI (l.take k)<=qXI l:=by
 unfold qXI;exact(List.Sublist.filter _ (List.take_sublist k l)).length_le
theorem cntF_lt{l:List qQ}{k:Nat}(h:k < l.length)(j:(l[k].kind == qC)=true):qXI (l.take k) < qXI l:=by
 have:=qY2 h;rw[j,if_pos rfl]at this;have:=cntF_le l (k+1);omega
def yE(t:qQ):qQ:=t.kids.getLastD (.mk [] [] 0 0 0 [])
theorem last_at{t:qQ}{p:Nat}(hp:t.kids.length=p+1):t.kids[p]'(by omega)=yE t:=by
 have j:t.kids≠[]:=by intro e;rw[e]at hp;simp at hp
 unfold yE;rw[List.getLastD_eq_getLast?,List.getLast?_eq_some_getLast j];simp[List.getLast_eq_getElem,hp]
def mkD(f:FnM)(b:List Sx):qQ2:=⟨f.h.name,f.h.t,f.h.params.length,f.vars,b⟩
def qXt:List FnM->List (List Sx)->List qQ2
 | f :: fs,b :: bs=>mkD f b :: qXt fs bs
 | _,_=>[]
theorem qPU:∀ (fs:List FnM) (j:List (List Sx)) (f:FnM) (b:List Sx) (_:j.length < fs.length),qXt (fs.set j.length f) (j++[b])=qXt fs j++[mkD f b]
 | _ :: fs,[],f,b,_=>by cases fs <;> rfl
 | _ :: fs,_ :: j,f,b,h=>by
  have:=qPU fs j f b (by simpa using h);simp only[lO,List.set_cons_succ,lC,qXt,this]
 | [],_,_,_,h=>by simp at h
theorem qVf:∀ (fs:List FnM) (j:List (List Sx)),j.length<=fs.length->(qXt fs j).length=j.length
 | _,[],_=>by simp[qXt]
 | _ :: fs,_ :: j,h=>by
  have:=qVf fs j (by simpa using h);simp[qXt,this]
 | [],_ :: _,h=>by simp at h
theorem qUE{gs:List qI}{H:List kI}{ts:List qQ}{k j:Nat}(h:k < ts.length)(o:(ts[k].kind == qC)=true)(s:j < H.length):vG gs H (ts.drop k) (H.drop j)=(blC gs H H[j].t (yE ts[k]) H[j].params).bind fun b=>(vG gs H (ts.drop (k+1)) (H.drop (j+1))).bind fun l=>.ok (⟨H[j].name,H[j].t,H[j].params.length,b.2,b.1⟩ :: l):=by
 rw[List.drop_eq_getElem_cons h,List.drop_eq_getElem_cons s,vG,o];rfl
theorem qYF{gs:List qI}{H:List kI}{ts:List qQ}{k:Nat}{hs:List kI}(h:k < ts.length)(j:(ts[k].kind == qC)=false):vG gs H (ts.drop k) hs=vG gs H (ts.drop (k+1)) hs:=by
 rw[List.drop_eq_getElem_cons h,vG.eq_def];simp only[j];rfl
theorem CR.bind_ok{α:Type}(p:CR α):(p.bind fun a=>.ok a)=p:=by cases p <;> rfl
structure jW(L:Nat)(w w':World):Prop where
 os:w'.os=w.os
 tape:w'.tape=w.tape
 output:w'.output=w.output
 size:w.1.size<=w'.1.size
 block:∀ k,k < w.1.size->k < L->w'.1[k]? = w.1[k]?
theorem jW.trans{L:Nat}{u v w:World}(h:jW L u v)(k:jW L v w):jW L u w:=⟨k.os.trans h.os,k.tape.trans h.tape,k.output.trans h.output,Nat.le_trans h.size k.size,fun b hb hL=>(k.block b (Nat.lt_of_lt_of_le hb h.size) hL).trans (h.block b hb hL)⟩
theorem jW.refl(L:Nat)(w:World):jW L w w:=⟨rfl,rfl,rfl,Nat.le_refl _,fun _ _ _=>rfl⟩
theorem jW.of_below{L:Nat}{w w':World}(h:Below w.1.size w w'):jW L w w':=⟨h.os,h.tape,h.output,h.size,fun b hb _=>h.block b hb⟩
theorem jW.below{L:Nat}{w w':World}(h:jW L w w')(hL:w.1.size<=L):Below w.1.size w w':=⟨h.os,h.tape,h.output,h.size,fun b hb=>h.block b hb (by omega)⟩
def qJn(w:World)(lo:Nat)(fs:List FnM)(bs:List (List Sx)):Prop:=∀ i,i < bs.length->jE w (fun g=>lo<=g/\∀ j,j < fs.length->some g≠(fs.getD j noF).vv.ownBlock) (bs.getD i []) (fs.getD i noF).bv
def qKw(B L:Nat)(gs:List qI)(fs0:List FnM)(FC Mf:Nat)(gv:Value)(Mg Mr F:Nat)(cl:vE)(p:CR (List qQ2))(w:World)(e:Ending)(w':World):Prop :=
 match p with
 | .ok l=>∃ fs bs,e=.returned (.tuple #[])/\l=qXt fs bs/\bs.length=fs.length/\fs.length=fs0.length/\fs.map (fun f=>f.h)=fs0.map (fun f=>f.h)/\BIn B L gs fs FC Mf gv Mg Mr F cl w'/\qJn w' w.1.size fs bs/\jW L w w'
 | .bad ln co code=>e=.panicked [{ v:=xO ln co code,recovered:=false }]/\jW L w w'
theorem qKR.cases{B L:Nat}{gs:List qI}{fs:List FnM}{FC Mf:Nat}{gv:Value}{Mg Mr F:Nat}{cl:vE}{ci:Nat}{p:CR (List Sx×List qI)}{w w':World}{e:Ending}(h:qKR B L gs fs FC Mf gv Mg Mr F cl ci p w e w') :
 (∃ ss j vv' bv,p=.ok (ss,j)/\e=.returned (.tuple #[])/\BIn B L gs (setF fs ci j vv' bv) FC Mf gv Mg Mr F cl w'/\qJo B F (fs.getD ci noF).vv w w'/\vW vv' (fs.getD ci noF).vv w/\jE w' (fun g=>w.1.size<=g/\some g≠vv'.ownBlock) ss bv)\/∃ ln co code,p=.bad ln co code/\e=.panicked [{ v:=xO ln co code,recovered:=false }]/\qJo B F (fs.getD ci noF).vv w w':=by
 cases p with
 | ok a=>obtain⟨ss,j⟩:=a;obtain⟨vv',bv,o,h2,h3,h4,s⟩:=h;exact .inl ⟨ss,j,vv',bv,rfl,o,h2,h3,h4,s⟩
 | bad ln co code=>exact .inr ⟨ln,co,code,rfl,h.1,h.2⟩
theorem qKw.okI{B L:Nat}{gs:List qI}{j:List FnM}{FC Mf:Nat}{gv:Value}{Mg Mr F:Nat}{cl:vE}{p:CR (List qQ2)}{w w':World}{fs:List FnM}{o:List (List Sx)}(hp:p=.ok (qXt fs o))(y:o.length=fs.length)(s:fs.length=j.length)(h2:fs.map (fun f=>f.h)=j.map (fun f=>f.h))(h3:BIn B L gs fs FC Mf gv Mg Mr F cl w')(h4:qJn w' w.1.size fs o)(z:jW L w w'):qKw B L gs j FC Mf gv Mg Mr F cl p w (.returned (.tuple #[])) w':=by
 rw[hp];exact⟨fs,o,rfl,rfl,y,s,h2,h3,h4,z⟩
theorem qKw.badI{B L:Nat}{gs:List qI}{j:List FnM}{FC Mf:Nat}{gv:Value}{Mg Mr F:Nat}{cl:vE}{p:CR (List qQ2)}{w w':World}{ln co code:Int}(hp:p=.bad ln co code)(h:jW L w w'):qKw B L gs j FC Mf gv Mg Mr F cl p w (.panicked [{ v:=xO ln co code,recovered:=false }]) w':=by
 rw[hp];exact⟨rfl,h⟩
theorem qJn.below{w w':World}{lo:Nat}{fs:List FnM}{j:List (List Sx)}(h:qJn w lo fs j)(hb:Below w.1.size w w'):qJn w' lo fs j:=fun i hi=>jE.move (h i hi) (fun g hg hok=>⟨hok,hb.block g hg⟩)
theorem qJo.low{B L:Nat}{gs:List qI}{fs:List FnM}{FC Mf:Nat}{gv:Value}{Mg Mr F:Nat}{cl:vE}{w0 w w':World}{j:Nat}(h:qJo B F (fs.getD j noF).vv w w')(hB:BIn B L gs fs FC Mf gv Mg Mr F cl w0)(o:j < fs.length):jW L w w' :=
 ⟨h.os,h.tape,h.output,h.size,fun k hk hL=>h.block k hk (by have:=hB.lo;omega) (by have:=hB.lo;omega) (fun e=>by have:=(hB.lv j o k e.symm).1;omega)⟩
theorem qJn.more{B L:Nat}{gs:List qI}{fs:List FnM}{FC Mf:Nat}{gv:Value}{Mg Mr F:Nat}{cl:vE}{w w':World}{lo j:Nat}{y:List (List Sx)}{ss:List Sx}{own:List qI}{vv' bv:Value}(hB:BIn B L gs fs FC Mf gv Mg Mr F cl w)(h:qJn w lo fs y)(hlo:B < lo/\F < lo/\lo<=w.1.size)(I:y.length=j)(o:j < fs.length)
 (hT:qJo B F (fs.getD j noF).vv w w') (A:vW vv' (fs.getD j noF).vv w) (hs:jE w' (fun g=>w.1.size<=g/\some g≠vv'.ownBlock) ss bv):qJn w' lo (setF fs j own vv' bv) (y++[ss]):=by
 have G:∀ i,i < fs.length->∀ g,(fs.getD i noF).vv.ownBlock=some g->g < w.1.size:=fun i hi g hg=>((qZN hB.vrow hi).lt g hg).2
 intro i hi;rw[lL,I]at hi;simp only[lO,lZ]at hi;by_cases z:i=j
 ·subst z;rw[show(y++[ss]).getD i []=ss by simp[List.getD_eq_getElem?_getD,<-I],qWu o];refine jE.move hs (fun g hg hok=>⟨⟨by omega,fun i' hi'=>?_⟩,rfl⟩);rw[qQo]at hi';by_cases s:i'=i
  ·subst s;rw[qWu o];exact hok.2
  ·rw[qZd s];exact fun e=>by have:=G i' hi' g e.symm;omega
 ·have C:i < y.length:=by omega
  rw[show(y++[ss]).getD i []=y.getD i [] by simp[List.getD_eq_getElem?_getD,List.getElem?_append_left C],qZd z];refine jE.move (h i C) (fun g hg hok=>⟨⟨hok.1,fun i' hi' e=>?_⟩,hT.block g hg (by omega) (by omega) (hok.2 j o)⟩);rw[qQo]at hi';by_cases s:i'=j
  ·subst s;rw[qWu o]at e;change some g=vv'.ownBlock at e;rcases A with A | ⟨g',J,A⟩
   ·exact hok.2 i' o (e.trans A)
   ·rw[A]at e;injection e with e;omega
  ·rw[qZd s]at e;exact hok.2 i' hi' e
theorem outD_more{fs:List FnM}{o:List (List Sx)}{ss:List Sx}{j:Nat}{own:List qI}{vv bv:Value}(y:o.length=j)(s:j < fs.length):qXt (setF fs j own vv bv) (o++[ss])=qXt fs o++[mkD { fs.getD j noF with vars:=own,vv:=vv,bv:=bv } ss]:=by
 subst y;exact qPU fs o _ _ s
theorem mkD_eq{fs o:List FnM}{z:List (List Sx)}{ss:List Sx}{j:Nat}{own:List qI}{vv bv:Value}(hs:∀ j,z.length<=j->j < fs.length->fs.getD j noF=o.getD j noF)(A:z.length=j)(y:j < fs.length)(s:j < o.length) :
 mkD { fs.getD j noF with vars:=own,vv:=vv,bv:=bv } ss=⟨(o.map (fun f:FnM=>f.h))[j]'(by simpa using s) |>.name,((o.map (fun f:FnM=>f.h))[j]'(by simpa using s)).t,((o.map (fun f:FnM=>f.h))[j]'(by simpa using s)).params.length,own,ss⟩:=by
 rw[hs j (by omega) y,yY s];simp[mkD]
theorem qPk(p:CR (List qQ2))(o j:List qQ2)(n:List UInt8)(t:Ty)(m:Int)(own:List qI)(ss:List Sx)(h:j=o++[⟨n,t,m,own,ss⟩]):((CR.ok (ss,own)).bind fun b=>p.bind fun l=>CR.ok (qQ2.mk n t m b.2 b.1 :: l)).bind (fun l=>.ok (o++l))=p.bind fun l=>.ok (j++l):=by
 subst h;cases p <;> simp[CR.bind]
def BsRel(B L:Nat)(gs:List qI)(fs0:List FnM)(FC Mf:Nat)(gv:Value)(Mg Mr F:Nat)(cl:vE)(ts:List qQ)(W:World)(nx i:Value)(wr:World):Prop :=
 ∃ (k:Nat) (fs:List FnM) (bs:List (List Sx)),k<=ts.length/\i=.int .i64 k/\nx=.int .i64 bs.length/\bs.length=qXI (ts.take k)/\fs.length=fs0.length/\fs.map (fun f=>f.h)=fs0.map (fun f=>f.h)/\(∀ j,bs.length<=j->j < fs.length->fs.getD j noF=fs0.getD j noF) /\
  BIn B L gs fs FC Mf gv Mg Mr F cl wr/\qJn wr W.1.size fs bs/\jW L W wr /\
  vG gs (fs0.map (fun f=>f.h)) ts (fs0.map (fun f=>f.h))=(vG gs (fs0.map (fun f=>f.h)) (ts.drop k) ((fs0.map (fun f=>f.h)).drop bs.length)).bind fun l=>.ok (qXt fs bs++l)
theorem qLU(B L:Nat)(gs:List qI)(s:List FnM)(FC Mf:Nat)(gv:Value)(Mg Mr F:Nat)(cl:vE)(ts:List qQ)(q:Option Addr)(c:Nat)(W:World)(h:BIn B L gs s FC Mf gv Mg Mr F cl W)(hL:L<=W.1.size)(hK:yD L W ts q)(s4:ts.length<=1000000)
 (g0:qXI ts=s.length) (f9:∀ f∈s,f.vars=f.h.params/\qYB f.h.params) (p3:∀ t∈ts,(t.kind == qC)=true->t.kids≠[]/\t.kids.length<=1000000/\qUz (yE t)) :
 Calls prog 66 #[.pointer (some ⟨B,0,none⟩), .slice q ts.length c] W (qKw B L gs s FC Mf gv Mg Mr F cl (vG gs (s.map (fun f=>f.h)) ts (s.map (fun f=>f.h))) W):=by
 have H0:=hI h;have HK:=hI hK;have m6:=hI f9;have p8:=hI p3;have p4:=hI g0;have s9:B < W.1.size:=qJ h.c0;have t1:F < W.1.size:=(h.frow.lt F rfl).2;clear h hK f9 p3 g0;go_enter func66,ntmps66
 go_wp2
 go_loopw [4,9] (fun nx i wr=>BsRel B L gs s FC Mf gv Mg Mr F cl ts W nx i wr) (fun _ i _=>ts.length - (intOf i).toNat)
 case atStart=>exact⟨0,s,[],Nat.zero_le _,rfl,rfl,rfl,rfl,rfl,fun _ _ _=>rfl,H0.o,fun i hi=>by simp at hi,jW.refl _ _,by rw[List.drop_zero];cases s <;> exact(CR.bind_ok _).symm⟩
 case round =>
  obtain⟨k,fs,bs,hk,rfl,rfl,m5,m7,m4,d3,hB,p2,hT,hP⟩:=hrel;have HB:=hI hB;have g6:=hI p2;have HT:=hI hT;have HP:=hI hP;have f5:=hI m5;have Y:=hI m7;have f7:=hI m4;have f8:=hI d3;have t0:=hT.size;clear hB p2 hT hP m5 m7 m4 d3;obtain⟨j,hj⟩:∃ j,bs.length=j:=⟨_,rfl⟩;have X:=hI hj;rw[hj];clear hj;by_cases J:k < ts.length
  ·obtain⟨g,s7,rfl,n7⟩:=(HK.o.low hL HT.o.block).resolve_left (fun e=>by rw[e]at J;simp at J);obtain⟨qa,na,ca,n8,n9⟩:=n7.2 k J;have⟨k0,k1,k2,k3,k4,k5,_⟩:=n9.a;have d2:ts[k]∈ts:=List.getElem_mem J;have s5:=hI d2;have p9:=hI (Bx.new ts[k] (.slice qa na ca) wr);have O:=hI (bal (Below.refl wr.1.size wr) (qB ts[k] (.slice qa na ca)));have s3:(wr.alloc (qB ts[k] (.slice qa na ca))).1.size=wr.1.size+1:=by simp
   have m1:=hI (show xZ (wr.alloc (qB ts[k] (.slice qa na ca))) (· < L) ts[k] (.slice qa na ca)from xZ.move (fun g hg hok=>⟨hok,O.o.block g hg⟩) _ _ n8);have V:=hI (HB.o.below O.o);have U:=hI (qY2 J);have r6:=hI (cntF_lt J);have d8:=hI (qUE (gs:=gs) (H:=s.map (fun f=>f.h)) (j:=j) J);have g4:=hI (qYF (gs:=gs) (H:=s.map (fun f=>f.h)) (hs:=(s.map (fun f=>f.h)).drop j) J);have r4:=hI (p8.o ts[k] d2);have s8:(k:Int) < (ts.length:Nat):=by omega
   clear n9 n8 n7 d2;generalize hu:ts[k]=u at *;clear hu;obtain⟨uk,ux,um,ul,uc,G⟩:=u;cases d6:(uk == qC);case true =>
    have A:((qQ.mk uk ux um ul uc G).kind == qC)=true:=d6;have U:=hI (U.o.trans (by rw[A];rfl:_=qXI (ts.take k)+1));have C:j < s.length:=by have:=r6.o A;rw[p4.o,<-f5.o,X.o]at this;exact this
    have I:j < fs.length:=by rw[Y.o];exact C
    obtain⟨d7,g1,m2⟩:=r4.o A;simp only[qQ.kids]at d7 g1;obtain⟨p,hp⟩:∃ p,G.length=p+1:=⟨G.length - 1,by have:=List.length_pos_iff.2 d7;omega⟩;obtain⟨qb,cb,e,p0,_,d4⟩:=m1.o.kids;injection e with e1 e2 e3;subst e1 e3;simp only[qQ.kids]at e2 p0 d4;subst e2;obtain⟨g2,d5,rfl,p5⟩:=d4.resolve_left d7;obtain⟨lq,p7,p6,g7,g8⟩:=p5.2 p (by omega);have m0:=hI (show G[p]'(by omega)=yE (.mk uk ux um ul uc G)from last_at (t:=.mk uk ux um ul uc G) hp);have d8:=hI (d8.o A (by simpa using C));have p1:=hI m2;have g9:fs.getD j noF=s.getD j noF:=f8.o j (by rw[X.o];exact Nat.le_refl _) I;have f3:=m6.o s[j] (List.getElem_mem C);have s0:=hI (show qYB (fs.getD j noF).vars by rw[g9,yY C,f3.1];exact f3.2);have m9:=hI (show blC gs (fs.map (fun f=>f.h)) (fs.getD j noF).h.t (yE (.mk uk ux um ul uc G)) (fs.getD j noF).vars=blC gs (s.map (fun f=>f.h)) ((s.map (fun f:FnM=>f.h))[j]'(by simpa using C)).t (yE (.mk uk ux um ul uc G)) ((s.map (fun f:FnM=>f.h))[j]'(by simpa using C)).params by
     rw[g9,yY C,f3.1,f7.o];simp)
    clear g9 f3;rw[m0.o]at g7 g8;have r0:=hI g7;generalize g3:yE (.mk uk ux um ul uc G)=lt at *;clear g3;obtain⟨lk,lx,lm,ll,lc,s2⟩:=lt;have r7:=hI g8;rw[hp]at *;have t5:p < 1000000:=by omega
    have t4:(p:Int) < ((p+1:Nat):Int):=by omega
    have s6:(j:Int) < (fs.length:Nat):=by omega
    have r8:=HB.o.fl;unfold qC at d6;clear hp d7 g1 m2 g7 g8 A p5 d4;simp only[qS,qZ,qB,qQ.kind,qQ.text,qQ.num,qQ.line,qQ.col,qQ.kids]at *;go_wp2
    generalize (wr.alloc _)=Z at *;obtain⟨n0,n1,n2,n3,n4,n5⟩:=p9.o.cells;have c1:=V.o.c1;have⟨k0,k1,k2,k3,k4,k5,_⟩:=r7.o.a;simp only[qQ.kind,qQ.text,qQ.num,qQ.line,qQ.col]at k0 k1 k2 k3 k4 k5;refine wRg (S:=fun w'=>Below Z.1.size Z w') 16 ?_;refine wTk 0 16 (.pointer (some ⟨B,0,none⟩)) ?_ (bD Z) ?_
    ·intro _ y;go_simp
    refine wTk 1 17 (.pointer (some ⟨B,0,none⟩)) ?_ (bD Z) ?_
    ·intro _ y;go_simp
    refine wTk 2 18 (.pointer (some ⟨B,0,none⟩)) ?_ (bD Z) ?_
    ·intro _ y;go_simp
    refine wTk 3 19 (.pointer (some ⟨B,0,none⟩)) ?_ (bD Z) ?_
    ·intro _ y;go_simp
    refine wTk 4 20 (.pointer (some ⟨B,1,none⟩)) ?_ (bD Z) ?_
    ·intro _ y;go_simp
    refine wTk 5 21 (.slice (some ⟨F,0,none⟩) fs.length FC) ?_ (bD Z) ?_
    ·intro _ y;have c1:=kP y c1;go_simp
    refine wTk 6 22 (.int .i64 j) ?_ (bD Z) ?_
    ·intro _ y;go_simp
    refine wTk 7 23 (.pointer (some ⟨F,j * 6,none⟩)) ?_ (bD Z) ?_
    ·intro _ y;go_simp
    refine wTk 8 24 (.pointer (some ⟨wr.1.size,5,none⟩)) ?_ (bD Z) ?_
    ·intro _ y;go_simp
    refine wTk 9 25 (.slice (some ⟨g2,d5,none⟩) (p+1) ca) ?_ (bD Z) ?_
    ·intro _ y;have n5:=kP y n5;go_simp
    refine wTk 10 26 (.pointer (some ⟨wr.1.size,5,none⟩)) ?_ (bD Z) ?_
    ·intro _ y;go_simp
    refine wTk 11 27 (.slice (some ⟨g2,d5,none⟩) (p+1) ca) ?_ (bD Z) ?_
    ·intro _ y;have n5:=kP y n5;go_simp
    refine wTk 12 28 (.int .i64 (p+1:Nat)) ?_ (bD Z) ?_
    ·intro _ y;go_simp
    refine wTk 13 29 (.int .i64 p) ?_ (bD Z) ?_
    ·intro _ y;clear y;have t3:IntKind.i64.wrap (((p+1:Nat):Int) - 1)=(p:Nat):=by rw[IntWalk.i64_in _ (by omega)];omega
     have t2:IntKind.i64.wrap (p:Nat)=(p:Nat):=IntWalk.i64_in _ (by omega);go_simp
    refine wTk 14 30 (.pointer (some ⟨g2,d5+p * 6,none⟩)) ?_ (bD Z) ?_
    ·intro _ y;go_simp;intro h;omega
    refine wTk 15 31 (.agg #[.string ⟨lk.toArray⟩, .string ⟨lx.toArray⟩, .int .u64 lm, .int .i64 ll, .int .i64 lc, .slice lq p7 p6]) ?_ (bD Z) ?_
    ·intro _ y;obtain⟨k0,k1,k2,k3,k4,k5⟩:=kP6 y k0 k1 k2 k3 k4 k5;go_simp
    refine wOn 16 fun K hK=>?_
    go_simp;refine(body_any B L gs fs FC Mf gv Mg Mr F cl j (.mk lk lx lm ll lc s2) (.slice lq p7 p6) _ (V.o.below (Below.refl _ _).drew) I (by simp;omega) (r0.o.keep (Below.refl _ _).drew) p1.o s0.o).mono ?_;rintro e w7 hX;rcases hX.cases with⟨ss,R,vv',bv,hp,rfl,n6,z,d9,f4⟩ | ⟨l',c',code,hp,rfl,z⟩;rotate_left
    ·exact⟨rfl,qKw.badI (ln:=l') (co:=c') (code:=code) (by rw[HP.o,X.o,d8.o,<-m9.o,hp];rfl) ((HT.o.trans (jW.of_below O.o)).trans ((show qJo B F (fs.getD j noF).vv Z w7 from⟨z.os,z.tape,z.output,z.size,z.block⟩).low V.o I))⟩
    have z:qJo B F (fs.getD j noF).vv Z w7:=⟨z.os,z.tape,z.output,z.size,z.block⟩;have d9:vW vv' (fs.getD j noF).vv Z:=d9;have f4:jE w7 (fun g=>Z.1.size<=g/\some g≠vv'.ownBlock) ss bv:=f4;have r1:=hI n6;have r3:=hI ((HT.o.trans (jW.of_below O.o)).trans (z.low V.o I));have m3:=hI (qJn.more (own:=R) V.o (g6.o.below O.o) (by omega) X.o I z d9 f4);have r2:=hI (HP.o.trans (by rw[X.o,d8.o,<-m9.o,hp];exact qPk _ _ _ _ _ _ _ _ (by rw[outD_more X.o I,mkD_eq f8.o X.o I C]):_=(vG gs (s.map (fun f=>f.h)) (ts.drop (k+1)) ((s.map (fun f=>f.h)).drop (j+1))).bind fun l=>.ok (qXt (setF fs j R vv' bv) (bs++[ss])++l)));have f6:=hI (show(bs++[ss]).length=j+1 by rw[lL,X.o];rfl);refine kD hK ?_;clear hK K hX hp n6 z d9 f4;try simp only[Act.put,pZa,pZb,pZc]
    refine wDn ?_ _;clear n0 n1 n2 n3 n4 n5 c1 k0 k1 k2 k3 k4 k5;go_wp2
    refine⟨⟨k+1,setF fs j R vv' bv,bs++[ss],by omega,rfl,by rw[f6.o];rfl,by rw[f6.o,U.o,<-f5.o,X.o],by rw[qQo];exact Y.o,by rw[show(setF fs j R vv' bv).map (fun f=>f.h)=fs.map (fun f=>f.h)from qYk I _ _ _];exact f7.o,fun i hi hil=>?_,r1.o,m3.o,r3.o,by rw[f6.o];exact r2.o⟩,by simp[intOf];omega⟩;rw[f6.o]at hi;rw[qQo]at hil;rw[qZd (by omega)];exact f8.o i (by rw[X.o];omega) hil
   case false =>
    have A:((qQ.mk uk ux um ul uc G).kind == qC)=false:=d6;have U:=hI (U.o.trans (by rw[A];rfl:_=qXI (ts.take k)));have g4:=hI (g4.o A);obtain⟨qb,cb,e,p0,_,d4⟩:=m1.o.kids;injection e with e1 e2 e3;subst e1 e2 e3;unfold qC at d6;clear A d4;simp only[qS,qZ,qB,qQ.kind,qQ.text,qQ.num,qQ.line,qQ.col,qQ.kids]at *;go_wp2
    refine⟨⟨k+1,fs,bs,by omega,rfl,by rw[X.o],by rw[U.o];exact f5.o,Y.o,f7.o,f8.o,V.o,g6.o.below O.o,HT.o.trans (jW.of_below O.o),by rw[HP.o,X.o,g4.o]⟩,by simp[intOf];omega⟩
  ·have r9:k=ts.length:=by omega
   subst r9;have g5:=HP.o;rw[List.drop_length,vG]at g5;have s1:=hI (g5.trans (by simp only[CR.bind,lA]:_=.ok (qXt fs bs)));have r5:=hI (show bs.length=fs.length by rw[f5.o,List.take_length,p4.o,Y.o]);clear g5;go_wp2
   go_end0;exact qKw.okI s1.o r5.o Y.o f7.o HB.o g6.o HT.o
structure HIn(B L:Nat)(gs:List qI)(fs:List FnM)(gv fv:Value)(Mg Mf Mr:Nat)(cl:vE)(cn:Int)(w:World):Prop where
 c0:w.cell? ⟨B,0,none⟩=some gv
 c1:w.cell? ⟨B,1,none⟩=some fv
 c2:∃ u,w.cell? ⟨B,2,none⟩=some u
 c3:w.cell? ⟨B,3,none⟩=some (.map (some Mg))
 c4:w.cell? ⟨B,4,none⟩=some (.map (some Mf))
 c5:w.cell? ⟨B,5,none⟩=some (.int .i64 cn)
 c6:w.cell? ⟨B,6,none⟩=some (.map (some Mr))
 c7:∃ u,w.cell? ⟨B,7,none⟩=some u
 c8:∃ u,w.cell? ⟨B,8,none⟩=some u
 bf:∀ k,k < 9->w.frozen? ⟨B,k,none⟩=false
 grow:qQI w L gs gv
 frow:w.ownsRow L 40 6 fv fs.length (xD fnC fs)
 vrow:∀ f∈fs,qQI w L f.vars f.vv
 gm:wY w Mg (gs.map (·.name))
 fm:wY w Mf ((fs.map (fun f=>f.h)).map (·.name))
 rm:qJs w Mr cl
 cc:w.cell? ⟨cl.c,0,none⟩=some (.pointer (some ⟨B,0,none⟩))
 ce:w.cell? ⟨cl.eq,0,none⟩=some (.func (.func 81) #[] #[.pointer (some ⟨cl.c,0,none⟩)])
 b0:w.cell? ⟨1,0,none⟩=some (.int .i64 1)
 b1:w.cell? ⟨1,1,none⟩=some (.bool false)
 d0:w.cell? ⟨2,0,none⟩=some (.int .i64 64)
 d1:w.cell? ⟨2,1,none⟩=some (.bool false)
 cg:yV gs<=64
 fl:fs.length<=16
 par:∀ f∈fs,f.vars=f.h.params/\qYB f.h.params/\f.h.params.length<=64
 kb:jX w B 121
 kc:jX w cl.c 135
 ke:jX w cl.eq 136
 mne:Mg≠Mf/\Mg≠Mr/\Mf≠Mr
 lo:4 < L/\L<=B/\L<=Mg/\L<=Mf
 lv:∀ j,j < fs.length->∀ g,(fs.getD j noF).vv.ownBlock=some g->some g≠gv.ownBlock/\∀ i,i < fs.length->i≠j->some g≠(fs.getD i noF).vv.ownBlock
 wt:∃ b off cap,qZo b off cap w/\b < L
theorem HIn.a{B L:Nat}{gs:List qI}{fs:List FnM}{gv fv:Value}{Mg Mf Mr:Nat}{cl:vE}{cn:Int}{w:World}(h:HIn B L gs fs gv fv Mg Mf Mr cl cn w):w.cell? ⟨B,0,none⟩=some gv/\w.cell? ⟨B,1,none⟩=some fv/\(∃ u,w.cell? ⟨B,2,none⟩=some u)/\w.cell? ⟨B,3,none⟩=some (.map (some Mg))/\w.cell? ⟨B,4,none⟩=some (.map (some Mf))/\w.cell? ⟨B,5,none⟩=some (.int .i64 cn)/\w.cell? ⟨B,6,none⟩=some (.map (some Mr))/\(∃ u,w.cell? ⟨B,7,none⟩=some u)/\(∃ u,w.cell? ⟨B,8,none⟩=some u)/\True:=⟨h.c0,h.c1,h.c2,h.c3,h.c4,h.c5,h.c6,h.c7,h.c8,trivial⟩
theorem qPE(l:List Int)(a:Int):l.foldl (·+·) a=a+l.foldl (·+·) 0:=by
 induction l generalizing a with
 | nil=>simp
 | cons x r ih=>rw[List.foldl_cons,List.foldl_cons,ih (a+x),ih (0+x)];omega
theorem qWM(l:List qI)(v:qI):yV (l++[v])=yV l+max v.size 1:=by
 unfold yV;rw[List.map_append,List.foldl_append];rfl
theorem qJ4:∀ (l:List qI),(l.length:Int)<=yV l
 | []=>by simp[yV]
 | v :: r=>by
  have:=qJ4 r;unfold yV at *;rw[List.map_cons,List.foldl_cons,qPE];simp only[lO];omega
section
variable {B L:Nat} {gs:List qI} {fs:List FnM} {gv fv:Value} {Mg Mf Mr:Nat} {cl:vE} {cn:Int} {w w':World}
theorem HIn.gl(h:HIn B L gs fs gv fv Mg Mf Mr cl cn w):gs.length<=64:=by have:=qJ4 gs;have:=h.cg;omega
theorem HIn.below(h:HIn B L gs fs gv fv Mg Mf Mr cl cn w)(hb:Below w.1.size w w'):HIn B L gs fs gv fv Mg Mf Mr cl cn w' :=
 have k:∀ {p:Addr} {v:Value},w.cell? p=some v->w'.cell? p=some v:=fun e=>kP hb e
 have z:∀ {b T},jX w b T->jX w' b T:=fun e=>e.turn (hb.block _ e.lt)
 ⟨k h.c0,k h.c1,by obtain⟨u,o⟩:=h.c2;exact⟨u,k o⟩,k h.c3,k h.c4,k h.c5,k h.c6,by obtain⟨u,o⟩:=h.c7;exact⟨u,k o⟩,by obtain⟨u,o⟩:=h.c8;exact⟨u,k o⟩,fun j hj=>(hb.frozen (p:=⟨B,j,none⟩) (show B < w.1.size from qJ h.c0)).trans (h.bf j hj),zU h.grow (fun g hg=>hb.block g (h.grow.lt g hg).2),zU h.frow (fun g hg=>hb.block g (h.frow.lt g hg).2),fun f hf=>zU (h.vrow f hf) (fun g hg=>hb.block g ((h.vrow f hf).lt g hg).2),h.gm.below hb,h.fm.below hb,h.rm.below hb,k h.cc,k h.ce,k h.b0,k h.b1,k h.d0,k h.d1,h.cg,h.fl,h.par,z h.kb,z h.kc,z h.ke,h.mne,h.lo,h.lv,by obtain⟨b,A,s,C,y⟩:=h.wt;exact⟨b,A,s,C.below hb,y⟩⟩
theorem HIn.wtab(h:HIn B L gs fs gv fv Mg Mf Mr cl cn w):qKi w:=by obtain⟨b,o,j,s,_⟩:=h.wt;exact⟨b,o,j,s⟩
theorem HIn.bin{q:Option Addr}{n c F FC:Nat}(h:HIn B L gs fs (.slice q n c) (.slice (some ⟨F,0,none⟩) fs.length FC) Mg Mf Mr cl cn w):BIn B L gs fs FC Mf (.slice q n c) Mg Mr F cl w :=
 ⟨h.c0,h.c1,h.c3,h.c4,h.c6,h.c2,h.c7,h.c8,h.bf,qX2 h.frow (Nat.zero_le _),fun f hf=>qX2 (h.vrow f hf) (Nat.zero_le _),qX2 h.grow (Nat.zero_le _),h.gm,h.fm,h.rm,h.cc,h.ce,h.b0,h.b1,h.d0,h.d1,h.gl,h.fl,fun f hf=>by rw[(h.par f hf).1];exact(h.par f hf).2.2,fun f hf=>⟨[],by rw[(h.par f hf).1,lA]⟩,h.kb,h.kc,h.ke,⟨(h.frow.lt F rfl).1,h.lo.1,h.lo.2.1⟩,
  fun j hj g hg=>⟨by
   have hr:qQI w L (fs.getD j noF).vars (fs.getD j noF).vv:=by rw[yY hj];exact h.vrow _ (List.getElem_mem _)
   exact(hr.lt g hg).1,(h.lv j hj g hg).1,(h.lv j hj g hg).2⟩,h.wt⟩
end
theorem qWf(B L:Nat)(gs:List qI)(fs:List FnM)(gv fv:Value)(Mg Mf Mr:Nat)(cl:vE)(cn:Int)(t:qQ)(v:Value)(w:World)(h:HIn B L gs fs gv fv Mg Mf Mr cl cn w)(hx:t.text.length<=1000000)(hv:∃ q c,v=.slice q t.kids.length c) :
 Calls prog 98 #[.pointer (some ⟨B,0,none⟩),qZ t v] w (zP (yF ⟨gs,fs.map (fun f=>f.h)⟩ t) (fun _ u _=>u=.tuple #[]) w):=by
 obtain⟨q,c,rfl⟩:=hv;have G:=hI (bal (Below.refl w.1.size w) (qB t (.slice q t.kids.length c)));have C:=hI (h.below G.o);have HN:=hI (Bx.new t (.slice q t.kids.length c) w);have Y:(w.alloc (qB t (.slice q t.kids.length c))).1.size=w.1.size+1:=by simp
 have I:=hI (fun cd w'=>qQl t (.slice q t.kids.length c) cd w');have J:=hI (fun cd w'=>qQ5 t (.slice q t.kids.length c) cd w');have O:=hI (show yF ⟨gs,fs.map (fun f=>f.h)⟩ t=jQ ((qQj t.text 0 gs).isNone && (qQN t.text 0 (fs.map (fun f=>f.h))).isNone) t 40 from rfl);clear h;obtain⟨k,x,m,ln,co,ks⟩:=t;simp only[qZ,qB,qS,qQ.kind,qQ.text,qQ.num,qQ.line,qQ.col,qQ.kids]at *;go_enter func98,ntmps98
 go_wp2
 generalize (w.alloc _)=W at *;obtain⟨n0,n1,n2,n3,n4,n5⟩:=HN.o.cells;have c3:=C.o.c3;have c4:=C.o.c4;have z:=(C.o.gm.below (Below.refl _ _).drew).look x (by unfold maxLen;omega);have s:=(C.o.fm.below (Below.refl _ _).drew.drew).look x (by unfold maxLen;omega);have j:(∃ b i,(qQj x 0 gs).isNone=!b/\qVh x (gs.map (·.name))=b/\qVi x (gs.map (·.name))=i)/\∃ b i,(qQN x 0 (fs.map (fun f=>f.h))).isNone=!b/\qVh x ((fs.map (fun f=>f.h)).map (·.name))=b/\qVi x ((fs.map (fun f=>f.h)).map (·.name))=i:=by
  constructor
  ·cases hl:qQj x 0 gs with
   | none=>obtain⟨y,e2⟩:=qXq hl;exact⟨false,_,rfl,y,rfl⟩
   | some p=>obtain⟨Z,X⟩:=p;obtain⟨y,e2,_⟩:=qJL hl;exact⟨true,_,rfl,y,rfl⟩
  ·cases hl:qQN x 0 (fs.map (fun f=>f.h))with
   | none=>obtain⟨y,e2⟩:=qKJ hl;exact⟨false,_,rfl,y,rfl⟩
   | some p=>obtain⟨Z,X⟩:=p;obtain⟨y,e2,_⟩:=qJK hl;exact⟨true,_,rfl,y,rfl⟩
 obtain⟨⟨b1,i1,g1,g2,g3⟩,U,i2,g4,V,R⟩:=j;rw[g2,g3]at z;rw[V,R]at s;have A:=hI (O.o.trans (by rw[g1,g4]:_=jQ (!b1 && !U) (.mk k x m ln co ks) 40));clear g1 g2 g3 g4 V R O;go_region
 clear z;go_wp2
 go_region
 clear s;cases b1 <;> cases U
 ·go_wp2_with fail
  refine(I.o _ _).mono ?_;rintro e w3 ⟨rfl,hb3⟩;go_wp2
  go_end0;exact zP.okI (a:=()) A.o rfl (G.o.trans ((zF (zF hb3)).mono (by omega)))
 all_goals
  go_wp2_with fail
  refine(J.o _ _).mono ?_;rintro e w3 ⟨rfl,hb3⟩;exact⟨rfl,zP.badI A.o ⟨rfl,G.o.trans ((zF (zF hb3)).mono (by omega))⟩⟩
def wP(B L:Nat)(Mg Mf Mr:Nat)(cl:vE)(p:CR HdS)(w:World)(e:Ending)(w':World):Prop :=
 match p with
 | .ok S=>e=.returned (.tuple #[])/\∃ fs gv fv,S.fs=fs.map (fun f=>f.h)/\HIn B L S.gs fs gv fv Mg Mf Mr cl (yV S.gs) w'/\jW L w w'
 | .bad ln co code=>e=.panicked [{ v:=xO ln co code,recovered:=false }]/\jW L w w'
theorem wP.okI{B L Mg Mf Mr:Nat}{cl:vE}{p:CR HdS}{w w':World}{gs:List qI}{fs:List FnM}{gv fv:Value}(hp:p=.ok ⟨gs,fs.map (fun f=>f.h)⟩)(h:HIn B L gs fs gv fv Mg Mf Mr cl (yV gs) w')(hT:jW L w w'):wP B L Mg Mf Mr cl p w (.returned (.tuple #[])) w':=by
 rw[hp];exact⟨rfl,fs,gv,fv,rfl,h,hT⟩
theorem wP.badI{B L Mg Mf Mr:Nat}{cl:vE}{p:CR HdS}{w w':World}{ln co code:Int}(hp:p=.bad ln co code)(h:jW L w w'):wP B L Mg Mf Mr cl p w (.panicked [{ v:=xO ln co code,recovered:=false }]) w':=by
 rw[hp];exact⟨rfl,h⟩
theorem qQB.turn{N:Nat}{u:qI}{w w':World}(h:qQB N u w)(hb:w'.1[N]? = w.1[N]?):qQB N u w' :=
 have e:=fun {o:Nat} {u:Value} (e:w.cell? ⟨N,o,none⟩=some u)=>(cB (w:=w) (w':=w') (a:=⟨N,o,none⟩) hb).trans e
 ⟨e h.c0,e h.c1,e h.c2,e h.c3,fun j hj=>(World.frozen?_of_block hb).trans (h.f j hj)⟩
theorem qQB.four{N:Nat}{u d:qI}{w:World}(h:qQB N u w):qQB N d ((((w.setCell ⟨N,0,none⟩ (.string ⟨d.name.toArray⟩)).setCell ⟨N,1,none⟩ (.int .i64 d.t.1)).setCell ⟨N,2,none⟩ (.bool d.t.2)).setCell ⟨N,3,none⟩ (.int .i64 d.size)):=by
 have⟨y,s,h2,h3,_⟩:=h.a;have hf:=h.f;constructor
 case f=>intro j o;have:=hf j o;simp[go_sem, *]
 all_goals simp[go_sem, *]
theorem qQB.sized{N:Nat}{u:qI}{w:World}(h:qQB N u w)(n:Int):qQB N { u with size:=n } (w.setCell ⟨N,3,none⟩ (.int .i64 n)):=by
 have⟨y,s,h2,h3,_⟩:=h.a;have hf:=h.f;constructor
 case f=>intro j o;have:=hf j o;simp[go_sem, *]
 all_goals simp[go_sem, *]
theorem qUc(w:World)(N b:Nat)(h:b≠N)(y s o j:Value):((((w.setCell ⟨N,0,none⟩ y).setCell ⟨N,1,none⟩ s).setCell ⟨N,2,none⟩ o).setCell ⟨N,3,none⟩ j).1[b]? = w.1[b]?:=by
 rw[hS _ _ _ _ h,hS _ _ _ _ h,hS _ _ _ _ h,hS _ _ _ _ h]
theorem qQ7{b N:Nat}{a w:World}(h:Below b a w)(hN:b<=N)(y s o j:Value):Below b a ((((w.setCell ⟨N,0,none⟩ y).setCell ⟨N,1,none⟩ s).setCell ⟨N,2,none⟩ o).setCell ⟨N,3,none⟩ j) :=
 jR (jR (jR (jR h hN _) hN _) hN _) hN _
theorem jW.set{L:Nat}{w w':World}(h:jW L w w'){N:Nat}(hN:L<=N)(o:Nat)(u:Value):jW L w (w'.setCell ⟨N,o,none⟩ u) :=
 h.trans ⟨rfl,rfl,rfl,by simp,fun k _ hk=>hS _ _ _ _ (show k≠N by omega)⟩
section
variable {B L:Nat} {gs:List qI} {fs:List FnM} {gv fv:Value} {Mg Mf Mr:Nat} {cl:vE} {cn:Int} {w w':World}
theorem HIn.set5(h:HIn B L gs fs gv fv Mg Mf Mr cl cn w)(n:Int):HIn B L gs fs gv fv Mg Mf Mr cl n (w.setCell ⟨B,5,none⟩ (.int .i64 n)):=by
 have I:∀ b,b≠B->(w.setCell ⟨B,5,none⟩ (.int .i64 n)).1[b]? = w.1[b]?:=fun b hb=>hS _ _ _ _ hb
 have C:∀ {b S},jX w b S->S≠121->(w.setCell ⟨B,5,none⟩ (.int .i64 n)).1[b]? = w.1[b]?:=fun k hSq=>I _ (k.ne h.kb hSq)
 have R:∀ {b},(∃ es c,w.1[b]? = some (Obj.map es c))->(w.setCell ⟨B,5,none⟩ (.int .i64 n)).1[b]? = w.1[b]?:=fun k=>I _ (vU k h.kb)
 have z:∀ b,b < L->(w.setCell ⟨B,5,none⟩ (.int .i64 n)).1[b]? = w.1[b]?:=fun b hb=>I b (by have:=h.lo;omega)
 have j:∀ {b o u},(w.setCell ⟨B,5,none⟩ (.int .i64 n)).1[b]? = w.1[b]?->w.cell? ⟨b,o,none⟩=some u->(w.setCell ⟨B,5,none⟩ (.int .i64 n)).cell? ⟨b,o,none⟩=some u:=fun hb hc=>(cB hb).trans hc
 have s:∀ {o:Nat} {u:Value},o≠5->w.cell? ⟨B,o,none⟩=some u->(w.setCell ⟨B,5,none⟩ (.int .i64 n)).cell? ⟨B,o,none⟩=some u:=fun {o u} ho hc=>by
  exact(World.cell?_setCell_other _ _ _ _ (by simpa using Ne.symm ho)).trans hc
 have hl:=h.lo;refine⟨s (by decide) h.c0,s (by decide) h.c1,?_,s (by decide) h.c3,s (by decide) h.c4,?_,s (by decide) h.c6,?_,?_,?_,zU h.grow (fun g hg=>C (zE h.grow hg) (by decide)),zU h.frow (fun g hg=>C (zE h.frow hg) (by decide)),fun f hf=>zU (h.vrow f hf) (fun g hg=>C (zE (h.vrow f hf) hg) (by decide)),h.gm.kept (R h.gm.isMap),h.fm.kept (R h.fm.isMap),h.rm.kept (R h.rm.isMap),j (C h.kc (by decide)) h.cc,j (C h.ke (by decide)) h.ce,j (z 1 (by omega)) h.b0,j (z 1 (by omega)) h.b1,j (z 2 (by omega)) h.d0,j (z 2 (by omega)) h.d1,h.cg,h.fl,h.par,h.kb.set _ _ _,h.kc.set _ _ _,h.ke.set _ _ _,h.mne,h.lo,h.lv,?_⟩
 ·obtain⟨u,A⟩:=h.c2;exact⟨u,s (by decide) A⟩
 ·exact World.cell?_setCell_same _ _ _ h.c5
 ·obtain⟨u,A⟩:=h.c7;exact⟨u,s (by decide) A⟩
 ·obtain⟨u,A⟩:=h.c8;exact⟨u,s (by decide) A⟩
 ·intro k O;exact(World.frozen?_setCell _ _ _ _).trans (h.bf k O)
 ·obtain⟨b,G,J,U,y⟩:=h.wt;exact⟨b,G,J,U.low y hl.1 (fun k _ O=>z k O),y⟩
theorem HIn.glob(h:HIn B L gs fs gv fv Mg Mf Mr cl cn w){d:qI}{gv':Value}(hs:w.1.size<=w'.1.size)
 (O:∀ k,k < w.1.size->k≠B->k≠Mg->some k≠gv.ownBlock->w'.1[k]? = w.1[k]?)
 (c0:w'.cell? ⟨B,0,none⟩=some gv') (y:∀ o,o≠0->w'.cell? ⟨B,o,none⟩=w.cell? ⟨B,o,none⟩) (fB:∀ o,w'.frozen? ⟨B,o,none⟩=w.frozen? ⟨B,o,none⟩) (kB:jX w' B 121)
 (hm:wY w' Mg (gs.map (·.name)++[d.name])) (G:w'.ownsRow L 42 4 gv' (gs.length+1) (xD qQe gs++qQe d))
 (Y:gv'.ownBlock=gv.ownBlock\/∃ g,w.1.size<=g/\gv'.ownBlock=some g) (V:cn=yV (gs++[d])) (R:cn<=64):HIn B L (gs++[d]) fs gv' fv Mg Mf Mr cl (yV (gs++[d])) w':=by
 have kG:∀ g,gv.ownBlock=some g->jX w g 42:=fun g hg=>zE h.grow hg
 have J:∀ {b S},jX w b S->S≠121->S≠42->w'.1[b]? = w.1[b]?:=fun k h1 h2=>O _ k.lt (k.ne h.kb h1) (fun e=>vU h.gm.isMap k e.symm) (fun e=>(k.ne (kG _ e.symm) h2) rfl)
 have Z:∀ {b},(∃ es c,w.1[b]? = some (Obj.map es c))->b≠Mg->w'.1[b]? = w.1[b]?:=fun k hne=>O _ (by obtain⟨es,c,k⟩:=k;exact qZF k) (vU k h.kb) hne (fun e=>vU k (kG _ e.symm) rfl)
 have hl:=h.lo;have C:∀ b,b < w.1.size->b < L->w'.1[b]? = w.1[b]?:=fun b hb hL=>O b hb (by omega) (by omega) (fun e=>by have:=(h.grow.lt b e.symm).1;omega)
 have s:∀ {b o u},w'.1[b]? = w.1[b]?->w.cell? ⟨b,o,none⟩=some u->w'.cell? ⟨b,o,none⟩=some u:=fun hb hc=>(cB hb).trans hc
 have vr:∀ j,j < fs.length->qQI w L (fs.getD j noF).vars (fs.getD j noF).vv:=fun j z=>by rw[yY z];exact h.vrow _ (List.getElem_mem _)
 have sV:∀ j,j < fs.length->∀ g,(fs.getD j noF).vv.ownBlock=some g->w'.1[g]? = w.1[g]?:=fun j z g hg=>by
  have k:jX w g 42:=zE (vr j z) hg;exact O g k.lt (k.ne h.kb (by decide)) (fun e=>vU h.gm.isMap k e.symm) (h.lv j z g hg).1
 subst V;refine⟨c0,(y 1 (by decide)).trans h.c1,?_,(y 3 (by decide)).trans h.c3,(y 4 (by decide)).trans h.c4,(y 5 (by decide)).trans h.c5,(y 6 (by decide)).trans h.c6,?_,?_,fun k hk=>(fB k).trans (h.bf k hk),?_,zU h.frow (fun g hg=>J (zE h.frow hg) (by decide) (by decide)),?_,?_,h.fm.kept (Z h.fm.isMap (Ne.symm h.mne.1)),h.rm.kept (Z h.rm.isMap (Ne.symm h.mne.2.1)),s (J h.kc (by decide) (by decide)) h.cc,s (J h.ke (by decide) (by decide)) h.ce,s (C 1 (qJ h.b0) (by omega)) h.b0,s (C 1 (qJ h.b0) (by omega)) h.b1,s (C 2 (qJ h.d0) (by omega)) h.d0,s (C 2 (qJ h.d0) (by omega)) h.d1,R,h.fl,h.par,kB,h.kc.turn (J h.kc (by decide) (by decide)),h.ke.turn (J h.ke (by decide) (by decide)),h.mne,h.lo,?_,?_⟩
 ·obtain⟨u,I⟩:=h.c2;exact⟨u,(y 2 (by decide)).trans I⟩
 ·obtain⟨u,I⟩:=h.c7;exact⟨u,(y 7 (by decide)).trans I⟩
 ·obtain⟨u,I⟩:=h.c8;exact⟨u,(y 8 (by decide)).trans I⟩
 ·unfold qQI;rw[lL,qZt];simpa[xD]using G
 ·intro f hf;obtain⟨j,z,rfl⟩:=qZQ hf;exact zU (vr j z) (sV j z)
 ·rw[List.map_append];exact hm
 ·intro j z g hg;have hh:=h.lv j z g hg;refine⟨fun e=>?_,hh.2⟩;rcases Y with e2 | ⟨g',d2,e2⟩
  ·exact hh.1 (e.trans e2)
  ·rw[e2]at e;injection e with e;have:=((vr j z).lt g hg).2;omega
 ·obtain⟨b,U,X,hw,A⟩:=h.wt;exact⟨b,U,X,hw.low A hl.1 C,A⟩
theorem HIn.func(h:HIn B L gs fs gv fv Mg Mf Mr cl cn w){f:FnM}{fv':Value}(hs:w.1.size<=w'.1.size)
 (Z:∀ k,k < w.1.size->k≠B->k≠Mf->some k≠fv.ownBlock->w'.1[k]? = w.1[k]?)
 (c1:w'.cell? ⟨B,1,none⟩=some fv') (y:∀ o,o≠1->w'.cell? ⟨B,o,none⟩=w.cell? ⟨B,o,none⟩) (fB:∀ o,w'.frozen? ⟨B,o,none⟩=w.frozen? ⟨B,o,none⟩) (kB:jX w' B 121)
 (hm:wY w' Mf (((fs.map (fun f=>f.h)).map (·.name))++[f.h.name])) (U:w'.ownsRow L 40 6 fv' (fs.length+1) (xD fnC fs++fnC f))
 (hv:qQI w' L f.vars f.vv) (X:∀ g,f.vv.ownBlock=some g->w.1.size<=g) (hp:f.vars=f.h.params/\qYB f.h.params/\f.h.params.length<=64) (d3:fs.length < 16):HIn B L gs (fs++[f]) gv fv' Mg Mf Mr cl cn w':=by
 have kG:∀ g,fv.ownBlock=some g->jX w g 40:=fun g hg=>zE h.frow hg
 have J:∀ {b S},jX w b S->S≠121->S≠40->w'.1[b]? = w.1[b]?:=fun k h1 h2=>Z _ k.lt (k.ne h.kb h1) (fun e=>vU h.fm.isMap k e.symm) (fun e=>(k.ne (kG _ e.symm) h2) rfl)
 have sM:∀ {b},(∃ es c,w.1[b]? = some (Obj.map es c))->b≠Mf->w'.1[b]? = w.1[b]?:=fun k hne=>Z _ (by obtain⟨es,c,k⟩:=k;exact qZF k) (vU k h.kb) hne (fun e=>vU k (kG _ e.symm) rfl)
 have hl:=h.lo;have R:∀ b,b < w.1.size->b < L->w'.1[b]? = w.1[b]?:=fun b hb hL=>Z b hb (by omega) (by omega) (fun e=>by have:=(h.frow.lt b e.symm).1;omega)
 have s:∀ {b o u},w'.1[b]? = w.1[b]?->w.cell? ⟨b,o,none⟩=some u->w'.cell? ⟨b,o,none⟩=some u:=fun hb hc=>(cB hb).trans hc
 have vr:∀ j,j < fs.length->qQI w L (fs.getD j noF).vars (fs.getD j noF).vv:=fun j C=>by rw[yY C];exact h.vrow _ (List.getElem_mem _)
 have gl:(fs++[f]).length=fs.length+1:=by simp
 have A:∀ j,j < fs.length->(fs++[f]).getD j noF=fs.getD j noF:=fun j C=>by simp[List.getD_eq_getElem?_getD,List.getElem?_append_left C]
 have G:(fs++[f]).getD fs.length noF=f:=by simp[List.getD_eq_getElem?_getD]
 refine⟨(y 0 (by decide)).trans h.c0,c1,?_,(y 3 (by decide)).trans h.c3,(y 4 (by decide)).trans h.c4,(y 5 (by decide)).trans h.c5,(y 6 (by decide)).trans h.c6,?_,?_,fun k hk=>(fB k).trans (h.bf k hk),zU h.grow (fun g hg=>J (zE h.grow hg) (by decide) (by decide)),?_,?_,h.gm.kept (sM h.gm.isMap h.mne.1),?_,h.rm.kept (sM h.rm.isMap (Ne.symm h.mne.2.2)),s (J h.kc (by decide) (by decide)) h.cc,s (J h.ke (by decide) (by decide)) h.ce,s (R 1 (qJ h.b0) (by omega)) h.b0,s (R 1 (qJ h.b0) (by omega)) h.b1,s (R 2 (qJ h.d0) (by omega)) h.d0,s (R 2 (qJ h.d0) (by omega)) h.d1,h.cg,by rw[gl];omega,?_,kB,h.kc.turn (J h.kc (by decide) (by decide)),h.ke.turn (J h.ke (by decide) (by decide)),h.mne,h.lo,?_,?_⟩
 ·obtain⟨u,V⟩:=h.c2;exact⟨u,(y 2 (by decide)).trans V⟩
 ·obtain⟨u,V⟩:=h.c7;exact⟨u,(y 7 (by decide)).trans V⟩
 ·obtain⟨u,V⟩:=h.c8;exact⟨u,(y 8 (by decide)).trans V⟩
 ·rw[lL,qZt];simpa[xD]using U
 ·intro f' hf;rcases List.mem_append.1 hf with hf | hf
  ·obtain⟨j,C,rfl⟩:=qZQ hf;exact zU (vr j C) (fun g hg=>J (zE (vr j C) hg) (by decide) (by decide))
  ·simp only[List.mem_singleton]at hf;subst hf;exact hv
 ·rw[List.map_append,List.map_append];exact hm
 ·intro f' hf;rcases List.mem_append.1 hf with hf | hf
  ·exact h.par f' hf
  ·simp only[List.mem_singleton]at hf;subst hf;exact hp
 ·intro j C g hg;rw[gl]at C;by_cases I:j < fs.length
  ·rw[A j I]at hg;have hh:=h.lv j I g hg;refine⟨hh.1,fun i hi hne e=>?_⟩;rw[gl]at hi;by_cases z:i < fs.length
   ·rw[A i z]at e;exact hh.2 i z hne e
   ·have:i=fs.length:=by omega
    subst this;rw[G]at e;have:=X g e.symm;have:=((vr j I).lt g hg).2;omega
  ·have:j=fs.length:=by omega
   subst this;rw[G]at hg;have d4:=X g hg;refine⟨fun e=>by have:=(h.grow.lt g e.symm).2;omega,fun i hi hne e=>?_⟩;rw[gl]at hi;have z:i < fs.length:=by omega
   rw[A i z]at e;have:=((vr i z).lt g e.symm).2;omega
 ·obtain⟨b,Y,d2,hw,O⟩:=h.wt;exact⟨b,Y,d2,hw.low O hl.1 R,O⟩
end
def GBox(D:qI)(lk lx:List UInt8)(lm ll lc:Int)(lv:Value)(W:World)(x:Nat×Nat)(w':World):Prop :=
 Below W.1.size W w'/\qQB x.1 D w'/\zI x.2 lk lx lm ll lc lv w'/\W.1.size<=x.1/\W.1.size<=x.2/\x.1≠x.2
def qUa(t:qQ):Bool:=!((yE t).kind == zD) || (decide (1<=(yE t).num) && decide ((yE t).num<=16))
theorem qWW(S:HdS)(t:qQ):qZ9 S t=(jQ (!(qUa t) || decide (yV S.gs+max (if qUa t then(yE t).num else 0) 1<=64)) t 45).bind fun _=>(yF S t).bind fun _=>(jQ (qUa t) (yE t) 42).bind fun _=>.ok ⟨S.gs++[⟨(qZr t).name,(qZr t).t,if qUa t then(yE t).num else 0⟩],S.fs⟩:=rfl
theorem qKQ{S:HdS}{t:qQ}{u:Unit}(h:yF S t=.ok u):qZc t.text 0 (S.gs.map (·.name))=none/\qZc t.text 0 (S.fs.map (·.name))=none:=by
 unfold yF jQ at h;split at h
 ·rename_i hb;simp only[bE]at hb;exact⟨qZI.1.1 (Option.isNone_iff_eq_none.1 hb.1),qX1.1.1 (Option.isNone_iff_eq_none.1 hb.2)⟩
 ·cases h
theorem qL8(B L:Nat)(gs:List qI)(fs:List FnM)(gv fv:Value)(Mg Mf Mr:Nat)(cl:vE)(t u:qQ)(r:List qQ)(v:Value)(w:World)(h:HIn B L gs fs gv fv Mg Mf Mr cl (yV gs) w)
 (hL:L<=w.1.size) (F6:t.kids=u :: r) (hl:xZ w (· < L) t v) (hx:t.text.length<=1000000) (T6:t.kids.length<=1000000) (hz:((yE t).kind == zD)=false->(yE t).num=0) (T4:0<=(yE t).num/\(yE t).num < 18446744073709551616) :
 Calls prog 86 #[.pointer (some ⟨B,0,none⟩),qZ t v] w (wP B L Mg Mf Mr cl (qZ9 ⟨gs,fs.map (fun f=>f.h)⟩ t) w):=by
 obtain⟨q,c,rfl,hc1,T3,s⟩:=hl.kids;have g6:=hI (bal (Below.refl w.1.size w) (qB t (.slice q t.kids.length c)));have HN:=hI (Bx.new t (.slice q t.kids.length c) w);have HW:=hI (h.below g6.o);have M6:=hI (hl.keep (g6.o.mono hL));have T8:(w.alloc (qB t (.slice q t.kids.length c))).1.size=w.1.size+1:=by simp
 have r4:=hI (fun w' (hb:Below w.1.size w w')=>qJc L t u r (.slice q t.kids.length c) w' F6 (h.wtab.below hb) (by have:=hb.size;omega) (xZ.move (fun g hg hok=>⟨hok,hb.block g (by omega)⟩) t _ hl) hx);have D2:=hI (qWW ⟨gs,fs.map (fun f=>f.h)⟩ t);have D7:=hI (fun b cd w'=>qQk b t (.slice q t.kids.length c) cd w');have D8:=hI (fun cn w' (h':HIn B L gs fs gv fv Mg Mf Mr cl cn w')=>qWf B L gs fs gv fv Mg Mf Mr cl cn t (.slice q t.kids.length c) w' h' hx ⟨_,_,rfl⟩);have D3:=hI (show qUa t=(!((yE t).kind == zD) || (decide (1<=(yE t).num) && decide ((yE t).num<=16)))from rfl);have HX:=hI hx;have HZ:=hI hz;have D4:=hI (show(qZr t).name=t.text from rfl);have H0:=hI h;have f4:t.kids≠[]:=by rw[F6];simp
 obtain⟨p,hp⟩:∃ p,t.kids.length=p+1:=⟨t.kids.length - 1,by have:=List.length_pos_iff.2 f4;omega⟩;have F0:=hI (last_at hp);obtain⟨g2,d2,rfl,G5⟩:=s.resolve_left f4;obtain⟨lq,f6,f9,M0,t5⟩:=G5.2 p (by omega);rw[F0.o]at M0 t5;have hg2:=G5.1;have T7:B < w.1.size:=qJ h.c0;clear h hl s F6 G5 hx hz f4 F0;obtain⟨k,x,m,ln,co,ks⟩:=t;generalize T1:yE (.mk k x m ln co ks)=lt at *;generalize m1:qUa (.mk k x m ln co ks)=ft at *;generalize hD:qZr (.mk k x m ln co ks)=D at *;clear T1 m1 hD;obtain⟨Dn,⟨Dw,Ds⟩,Dz⟩:=D;obtain⟨lk,lx,J,ll,lc,D9⟩:=lt;simp only[qZ,qB,qS,qXK,qQ.kind,qQ.text,qQ.num,qQ.line,qQ.col,qQ.kids]at *;have hpb:p < 1000000:=by omega
 have t5:=t5.move (g6.o.block g2 (by omega));rw[hp]at *;have hpi:(p:Int) < ((p+1:Nat):Int):=by omega
 clear hp;go_enter func86,ntmps86
 go_wp2
 generalize (w.alloc _)=W at *;have r5:w.1.size<=W.1.size:=by omega
 obtain⟨n0,n1,n2,n3,n4,n5⟩:=HN.o.cells;have⟨k0,k1,k2,k3,k4,k5,_⟩:=t5.a;simp only[qQ.kind,qQ.text,qQ.num,qQ.line,qQ.col,qQ.kids]at k0 k1 k2 k3 k4 k5 n0 n1 n2 n3 n4 n5;clear t5 M0;refine wp_cutX (X:=Nat×Nat) (fun a0 r=>((((((((((((a0.put (some 7) (.agg #[.string ⟨k.toArray⟩, .string ⟨x.toArray⟩, .int .u64 m, .int .i64 ln, .int .i64 co, .slice (some ⟨g2,d2,none⟩) (p+1) c])).put (some 9) (.pointer (some ⟨w.1.size,5,none⟩))).put (some 10) (.slice (some ⟨g2,d2,none⟩) (p+1) c)).put (some 11) (.pointer (some ⟨w.1.size,5,none⟩))).put (some 12) (.slice (some ⟨g2,d2,none⟩) (p+1) c)).put (some 13) (.int .i64 ((p:Int)+1))).put (some 14) (.int .i64 p)).put (some 15) (.pointer (some ⟨g2,d2+p * 6,none⟩))).put (some 16) (.agg #[.string ⟨lk.toArray⟩, .string ⟨lx.toArray⟩, .int .u64 J, .int .i64 ll, .int .i64 lc, .slice lq f6 f9])).put (some 8) (.agg #[.string ⟨Dn.toArray⟩, .int .i64 Dw, .bool Ds, .int .i64 Dz])).put (some 4) (.pointer (some ⟨r.1,0,none⟩))).put (some 5) (.pointer (some ⟨r.2,0,none⟩)))) (GBox ⟨Dn,(Dw,Ds),Dz⟩ lk lx J ll lc (.slice lq f6 f9) W) (fun _ _=>False) ?_ ?_ ?_;rotate_left 2
 ·rintro ch a' w' _ hf;exact hf.elim
 ·refine wRg (S:=fun w'=>Below W.1.size W w') 99 ?_;refine wTk 0 7 (.agg #[.string ⟨k.toArray⟩, .string ⟨x.toArray⟩, .int .u64 m, .int .i64 ln, .int .i64 co, .slice (some ⟨g2,d2,none⟩) (p+1) c]) ?_ (bD W) ?_
  ·intro _ y;obtain⟨n0,n1,n2,n3,n4,n5⟩:=kP6 y n0 n1 n2 n3 n4 n5;go_simp
  refine wTk 2 9 (.pointer (some ⟨w.1.size,5,none⟩)) ?_ (bD W) ?_
  ·intro _ y;go_simp
  refine wTk 3 10 (.slice (some ⟨g2,d2,none⟩) (p+1) c) ?_ (bD W) ?_
  ·intro _ y;have n5:=kP y n5;go_simp
  refine wTk 4 11 (.pointer (some ⟨w.1.size,5,none⟩)) ?_ (bD W) ?_
  ·intro _ y;go_simp
  refine wTk 5 12 (.slice (some ⟨g2,d2,none⟩) (p+1) c) ?_ (bD W) ?_
  ·intro _ y;have n5:=kP y n5;go_simp
  refine wTk 6 13 (.int .i64 (p+1:Nat)) ?_ (bD W) ?_
  ·intro _ y;go_simp
  refine wTk 7 14 (.int .i64 p) ?_ (bD W) ?_
  ·intro _ y;clear y;have hwp:IntKind.i64.wrap (((p+1:Nat):Int) - 1)=(p:Nat):=by rw[IntWalk.i64_in _ (by omega)];omega
   have T9:IntKind.i64.wrap (p:Nat)=(p:Nat):=IntWalk.i64_in _ (by omega);go_simp
  refine wTk 8 15 (.pointer (some ⟨g2,d2+p * 6,none⟩)) ?_ (bD W) ?_
  ·intro _ y;go_simp;intro h;omega
  refine wTk 9 16 (.agg #[.string ⟨lk.toArray⟩, .string ⟨lx.toArray⟩, .int .u64 J, .int .i64 ll, .int .i64 lc, .slice lq f6 f9]) ?_ (bD W) ?_
  ·intro _ y;obtain⟨k0,k1,k2,k3,k4,k5⟩:=kP6 y k0 k1 k2 k3 k4 k5;go_simp
  have g7:=hI ((Below.refl W.1.size W).drew);clear n0 n1 n2 n3 n4 n5 k0 k1 k2 k3 k4 k5;generalize World.drew W=C0 at *;refine qVq (i:=1) (j:=10) (l:=11) rfl rfl rfl (by kernel_rfl) (by rfl) (by rfl) (by rfl) (fun K s=>?_) (fun K s=>?_) (fun K s=>?_)
  ·go_simp;refine(r4.o C0 (g6.o.trans (g7.o.mono r5))).mono ?_;rintro e G ⟨rfl,hb⟩;simp only[qXK];have hw0:=g7.o.size;have d3:=hI (g7.o.trans (hb.mono g7.o.size));have G7:=hb.size;refine kK s d3.o ?_;clear s K hb;try simp only[Act.put,pZa,pZb,pZc]
   refine jA (i:=10) (j:=11) rfl rfl (by kernel_rfl) (by rfl) (by rfl) (fun K s=>?_) (fun K s=>?_)
   ·go_simp;refine kK s (bal d3.o _) ?_;clear s K;have R:=hI (bal d3.o (.cells #[.string ⟨#[]⟩, .int .i64 0, .bool false, .int .i64 0] 42));have hA:Below G.1.size G (G.alloc (.cells #[.string ⟨#[]⟩, .int .i64 0, .bool false, .int .i64 0] 42)):=bal (Below.refl _ _) _;have hs2:G.1.size < (G.alloc (.cells #[.string ⟨#[]⟩, .int .i64 0, .bool false, .int .i64 0] 42)).1.size:=by simp
    have s2:=d3.o.size;have A:=hI (show qQB G.1.size qZU (G.alloc (.cells #[.string ⟨#[]⟩, .int .i64 0, .bool false, .int .i64 0] 42))from qQB.new qZU G);clear hA;generalize (G.alloc (.cells #[.string ⟨#[]⟩, .int .i64 0, .bool false, .int .i64 0] 42))=C at *;refine wOn 11 fun K s=>?_
    go_simp;refine kK s (bal R.o _) ?_;clear s K;have Y:=hI (bal R.o (.cells #[.string ⟨#[]⟩, .string ⟨#[]⟩, .int .u64 0, .int .i64 0, .int .i64 0, .slice none 0 0] 57));have hA:Below C.1.size C (C.alloc (.cells #[.string ⟨#[]⟩, .string ⟨#[]⟩, .int .u64 0, .int .i64 0, .int .i64 0, .slice none 0 0] 57)):=bal (Below.refl _ _) _;have hs3:C.1.size < (C.alloc (.cells #[.string ⟨#[]⟩, .string ⟨#[]⟩, .int .u64 0, .int .i64 0, .int .i64 0, .slice none 0 0] 57)).1.size:=by simp
    have t0:=R.o.size;have A:=hI (A.o.below hA);have z:=hI (show zI C.1.size [] [] 0 0 0 (.slice none 0 0) (C.alloc (.cells #[.string ⟨#[]⟩, .string ⟨#[]⟩, .int .u64 0, .int .i64 0, .int .i64 0, .slice none 0 0] 57))from zI.new [] [] 0 0 0 (.slice none 0 0) C);clear hA;generalize (C.alloc (.cells #[.string ⟨#[]⟩, .string ⟨#[]⟩, .int .u64 0, .int .i64 0, .int .i64 0, .slice none 0 0] 57))=C3 at *;refine wOn 12 fun K s=>?_
    have x0:=A.o.c0;have f3:=A.o.f 0 nL;have x1:=A.o.c1;have d7:=A.o.f 1 nL;have x2:=A.o.c2;have d9:=A.o.f 2 nL;have x3:=A.o.c3;have d6:=A.o.f 3 nL;simp only[qZU]at x0 x1 x2 x3;go_simp;refine kK s (qQ7 Y.o (by omega) _ _ _ _) ?_;clear s K;clear x0 f3 x1 d7 x2 d9 x3 d6;have O:=hI (qQ7 (N:=G.1.size) Y.o (by omega) (.string ⟨Dn.toArray⟩) (.int .i64 Dw) (.bool Ds) (.int .i64 Dz));have A:=hI (A.o.four (d:=⟨Dn,(Dw,Ds),Dz⟩));simp only at A;have z:=hI (z.o.turn (qUc C3 G.1.size C.1.size (by omega) (.string ⟨Dn.toArray⟩) (.int .i64 Dw) (.bool Ds) (.int .i64 Dz)));generalize ((((C3.setCell ⟨G.1.size,0,none⟩ (.string ⟨Dn.toArray⟩)).setCell ⟨G.1.size,1,none⟩ (.int .i64 Dw)).setCell ⟨G.1.size,2,none⟩ (.bool Ds)).setCell ⟨G.1.size,3,none⟩ (.int .i64 Dz))=C4 at *;refine wOn 13 fun K s=>?_
    have x0:=z.o.c0;have f3:=z.o.f 0 nL;have x1:=z.o.c1;have d7:=z.o.f 1 nL;have x2:=z.o.c2;have d9:=z.o.f 2 nL;have x3:=z.o.c3;have d6:=z.o.f 3 nL;have x4:=z.o.c4;have t2:=z.o.f 4 nL;have x5:=z.o.c5;have D1:=z.o.f 5 nL;go_simp;refine kK s (vN O.o (by omega) _ _ _ _ _ _) ?_;clear s K;refine wDn ?_ _;exact⟨(G.1.size,C.1.size),by simp only[Act.put,pZa,pZb,pZc],vN O.o (by omega) _ _ _ _ _ _,A.o.turn (qZE _ _ _ (by omega) _ _ _ _ _ _),z.o.six lk lx J ll lc (.slice lq f6 f9),by show W.1.size<=G.1.size;omega,by show W.1.size<=C.1.size;omega,by show G.1.size≠C.1.size;omega⟩
   ·go_simp;refine kK s (bal d3.o _) ?_;clear s K;have R:=hI (bal d3.o (.cells #[.string ⟨#[]⟩, .string ⟨#[]⟩, .int .u64 0, .int .i64 0, .int .i64 0, .slice none 0 0] 57));have hA:Below G.1.size G (G.alloc (.cells #[.string ⟨#[]⟩, .string ⟨#[]⟩, .int .u64 0, .int .i64 0, .int .i64 0, .slice none 0 0] 57)):=bal (Below.refl _ _) _;have hs2:G.1.size < (G.alloc (.cells #[.string ⟨#[]⟩, .string ⟨#[]⟩, .int .u64 0, .int .i64 0, .int .i64 0, .slice none 0 0] 57)).1.size:=by simp
    have s2:=d3.o.size;have z:=hI (show zI G.1.size [] [] 0 0 0 (.slice none 0 0) (G.alloc (.cells #[.string ⟨#[]⟩, .string ⟨#[]⟩, .int .u64 0, .int .i64 0, .int .i64 0, .slice none 0 0] 57))from zI.new [] [] 0 0 0 (.slice none 0 0) G);clear hA;generalize (G.alloc (.cells #[.string ⟨#[]⟩, .string ⟨#[]⟩, .int .u64 0, .int .i64 0, .int .i64 0, .slice none 0 0] 57))=C at *;refine wOn 10 fun K s=>?_
    go_simp;refine kK s (bal R.o _) ?_;clear s K;have Y:=hI (bal R.o (.cells #[.string ⟨#[]⟩, .int .i64 0, .bool false, .int .i64 0] 42));have hA:Below C.1.size C (C.alloc (.cells #[.string ⟨#[]⟩, .int .i64 0, .bool false, .int .i64 0] 42)):=bal (Below.refl _ _) _;have hs3:C.1.size < (C.alloc (.cells #[.string ⟨#[]⟩, .int .i64 0, .bool false, .int .i64 0] 42)).1.size:=by simp
    have t0:=R.o.size;have z:=hI (z.o.below hA);have A:=hI (show qQB C.1.size qZU (C.alloc (.cells #[.string ⟨#[]⟩, .int .i64 0, .bool false, .int .i64 0] 42))from qQB.new qZU C);clear hA;generalize (C.alloc (.cells #[.string ⟨#[]⟩, .int .i64 0, .bool false, .int .i64 0] 42))=C3 at *;refine wOn 12 fun K s=>?_
    have x0:=A.o.c0;have f3:=A.o.f 0 nL;have x1:=A.o.c1;have d7:=A.o.f 1 nL;have x2:=A.o.c2;have d9:=A.o.f 2 nL;have x3:=A.o.c3;have d6:=A.o.f 3 nL;simp only[qZU]at x0 x1 x2 x3;go_simp;refine kK s (qQ7 Y.o (by omega) _ _ _ _) ?_;clear s K;clear x0 f3 x1 d7 x2 d9 x3 d6;have O:=hI (qQ7 (N:=C.1.size) Y.o (by omega) (.string ⟨Dn.toArray⟩) (.int .i64 Dw) (.bool Ds) (.int .i64 Dz));have A:=hI (A.o.four (d:=⟨Dn,(Dw,Ds),Dz⟩));simp only at A;have z:=hI (z.o.turn (qUc C3 C.1.size G.1.size (by omega) (.string ⟨Dn.toArray⟩) (.int .i64 Dw) (.bool Ds) (.int .i64 Dz)));generalize ((((C3.setCell ⟨C.1.size,0,none⟩ (.string ⟨Dn.toArray⟩)).setCell ⟨C.1.size,1,none⟩ (.int .i64 Dw)).setCell ⟨C.1.size,2,none⟩ (.bool Ds)).setCell ⟨C.1.size,3,none⟩ (.int .i64 Dz))=C4 at *;refine wOn 13 fun K s=>?_
    have x0:=z.o.c0;have f3:=z.o.f 0 nL;have x1:=z.o.c1;have d7:=z.o.f 1 nL;have x2:=z.o.c2;have d9:=z.o.f 2 nL;have x3:=z.o.c3;have d6:=z.o.f 3 nL;have x4:=z.o.c4;have t2:=z.o.f 4 nL;have x5:=z.o.c5;have D1:=z.o.f 5 nL;go_simp;refine kK s (vN O.o (by omega) _ _ _ _ _ _) ?_;clear s K;refine wDn ?_ _;exact⟨(C.1.size,G.1.size),by simp only[Act.put,pZa,pZb,pZc],vN O.o (by omega) _ _ _ _ _ _,A.o.turn (qZE _ _ _ (by omega) _ _ _ _ _ _),z.o.six lk lx J ll lc (.slice lq f6 f9),by show W.1.size<=C.1.size;omega,by show W.1.size<=G.1.size;omega,by show C.1.size≠G.1.size;omega⟩
  ·go_simp;refine kK s (bal g7.o _) ?_;clear s K;have d3:=hI (bal g7.o (.cells #[.string ⟨#[]⟩, .int .i64 0, .bool false, .int .i64 0] 42));have hA:Below C0.1.size C0 (C0.alloc (.cells #[.string ⟨#[]⟩, .int .i64 0, .bool false, .int .i64 0] 42)):=bal (Below.refl _ _) _;have G7:C0.1.size < (C0.alloc (.cells #[.string ⟨#[]⟩, .int .i64 0, .bool false, .int .i64 0] 42)).1.size:=by simp
   have hw0:=g7.o.size;have A:=hI (show qQB C0.1.size qZU (C0.alloc (.cells #[.string ⟨#[]⟩, .int .i64 0, .bool false, .int .i64 0] 42))from qQB.new qZU C0);clear hA;generalize (C0.alloc (.cells #[.string ⟨#[]⟩, .int .i64 0, .bool false, .int .i64 0] 42))=G at *;refine jA (i:=1) (j:=11) rfl rfl (by kernel_rfl) (by rfl) (by rfl) (fun K s=>?_) (fun K s=>?_)
   ·go_simp;refine(r4.o G (g6.o.trans (d3.o.mono r5))).mono ?_;rintro e C ⟨rfl,hb⟩;simp only[qXK];have s2:=d3.o.size;have R:=hI (d3.o.trans (hb.mono d3.o.size));have hs2:=hb.size;have A:=hI (A.o.below hb);refine kK s R.o ?_;clear s K hb;try simp only[Act.put,pZa,pZb,pZc]
    refine wOn 11 fun K s=>?_
    go_simp;refine kK s (bal R.o _) ?_;clear s K;have Y:=hI (bal R.o (.cells #[.string ⟨#[]⟩, .string ⟨#[]⟩, .int .u64 0, .int .i64 0, .int .i64 0, .slice none 0 0] 57));have hA:Below C.1.size C (C.alloc (.cells #[.string ⟨#[]⟩, .string ⟨#[]⟩, .int .u64 0, .int .i64 0, .int .i64 0, .slice none 0 0] 57)):=bal (Below.refl _ _) _;have hs3:C.1.size < (C.alloc (.cells #[.string ⟨#[]⟩, .string ⟨#[]⟩, .int .u64 0, .int .i64 0, .int .i64 0, .slice none 0 0] 57)).1.size:=by simp
    have t0:=R.o.size;have A:=hI (A.o.below hA);have z:=hI (show zI C.1.size [] [] 0 0 0 (.slice none 0 0) (C.alloc (.cells #[.string ⟨#[]⟩, .string ⟨#[]⟩, .int .u64 0, .int .i64 0, .int .i64 0, .slice none 0 0] 57))from zI.new [] [] 0 0 0 (.slice none 0 0) C);clear hA;generalize (C.alloc (.cells #[.string ⟨#[]⟩, .string ⟨#[]⟩, .int .u64 0, .int .i64 0, .int .i64 0, .slice none 0 0] 57))=C3 at *;refine wOn 12 fun K s=>?_
    have x0:=A.o.c0;have f3:=A.o.f 0 nL;have x1:=A.o.c1;have d7:=A.o.f 1 nL;have x2:=A.o.c2;have d9:=A.o.f 2 nL;have x3:=A.o.c3;have d6:=A.o.f 3 nL;simp only[qZU]at x0 x1 x2 x3;go_simp;refine kK s (qQ7 Y.o (by omega) _ _ _ _) ?_;clear s K;clear x0 f3 x1 d7 x2 d9 x3 d6;have O:=hI (qQ7 (N:=C0.1.size) Y.o (by omega) (.string ⟨Dn.toArray⟩) (.int .i64 Dw) (.bool Ds) (.int .i64 Dz));have A:=hI (A.o.four (d:=⟨Dn,(Dw,Ds),Dz⟩));simp only at A;have z:=hI (z.o.turn (qUc C3 C0.1.size C.1.size (by omega) (.string ⟨Dn.toArray⟩) (.int .i64 Dw) (.bool Ds) (.int .i64 Dz)));generalize ((((C3.setCell ⟨C0.1.size,0,none⟩ (.string ⟨Dn.toArray⟩)).setCell ⟨C0.1.size,1,none⟩ (.int .i64 Dw)).setCell ⟨C0.1.size,2,none⟩ (.bool Ds)).setCell ⟨C0.1.size,3,none⟩ (.int .i64 Dz))=C4 at *;refine wOn 13 fun K s=>?_
    have x0:=z.o.c0;have f3:=z.o.f 0 nL;have x1:=z.o.c1;have d7:=z.o.f 1 nL;have x2:=z.o.c2;have d9:=z.o.f 2 nL;have x3:=z.o.c3;have d6:=z.o.f 3 nL;have x4:=z.o.c4;have t2:=z.o.f 4 nL;have x5:=z.o.c5;have D1:=z.o.f 5 nL;go_simp;refine kK s (vN O.o (by omega) _ _ _ _ _ _) ?_;clear s K;refine wDn ?_ _;exact⟨(C0.1.size,C.1.size),by simp only[Act.put,pZa,pZb,pZc],vN O.o (by omega) _ _ _ _ _ _,A.o.turn (qZE _ _ _ (by omega) _ _ _ _ _ _),z.o.six lk lx J ll lc (.slice lq f6 f9),by show W.1.size<=C0.1.size;omega,by show W.1.size<=C.1.size;omega,by show C0.1.size≠C.1.size;omega⟩
   ·go_simp;refine kK s (bal d3.o _) ?_;clear s K;have R:=hI (bal d3.o (.cells #[.string ⟨#[]⟩, .string ⟨#[]⟩, .int .u64 0, .int .i64 0, .int .i64 0, .slice none 0 0] 57));have hA:Below G.1.size G (G.alloc (.cells #[.string ⟨#[]⟩, .string ⟨#[]⟩, .int .u64 0, .int .i64 0, .int .i64 0, .slice none 0 0] 57)):=bal (Below.refl _ _) _;have hs2:G.1.size < (G.alloc (.cells #[.string ⟨#[]⟩, .string ⟨#[]⟩, .int .u64 0, .int .i64 0, .int .i64 0, .slice none 0 0] 57)).1.size:=by simp
    have s2:=d3.o.size;have A:=hI (A.o.below hA);have z:=hI (show zI G.1.size [] [] 0 0 0 (.slice none 0 0) (G.alloc (.cells #[.string ⟨#[]⟩, .string ⟨#[]⟩, .int .u64 0, .int .i64 0, .int .i64 0, .slice none 0 0] 57))from zI.new [] [] 0 0 0 (.slice none 0 0) G);clear hA;generalize (G.alloc (.cells #[.string ⟨#[]⟩, .string ⟨#[]⟩, .int .u64 0, .int .i64 0, .int .i64 0, .slice none 0 0] 57))=C at *;refine wOn 1 fun K s=>?_
    go_simp;refine(r4.o C (g6.o.trans (R.o.mono r5))).mono ?_;rintro e C3 ⟨rfl,hb⟩;simp only[qXK];have t0:=R.o.size;have Y:=hI (R.o.trans (hb.mono R.o.size));have hs3:=hb.size;have A:=hI (A.o.below hb);have z:=hI (z.o.below hb);refine kK s Y.o ?_;clear s K hb;try simp only[Act.put,pZa,pZb,pZc]
    refine wOn 12 fun K s=>?_
    have x0:=A.o.c0;have f3:=A.o.f 0 nL;have x1:=A.o.c1;have d7:=A.o.f 1 nL;have x2:=A.o.c2;have d9:=A.o.f 2 nL;have x3:=A.o.c3;have d6:=A.o.f 3 nL;simp only[qZU]at x0 x1 x2 x3;go_simp;refine kK s (qQ7 Y.o (by omega) _ _ _ _) ?_;clear s K;clear x0 f3 x1 d7 x2 d9 x3 d6;have O:=hI (qQ7 (N:=C0.1.size) Y.o (by omega) (.string ⟨Dn.toArray⟩) (.int .i64 Dw) (.bool Ds) (.int .i64 Dz));have A:=hI (A.o.four (d:=⟨Dn,(Dw,Ds),Dz⟩));simp only at A;have z:=hI (z.o.turn (qUc C3 C0.1.size G.1.size (by omega) (.string ⟨Dn.toArray⟩) (.int .i64 Dw) (.bool Ds) (.int .i64 Dz)));generalize ((((C3.setCell ⟨C0.1.size,0,none⟩ (.string ⟨Dn.toArray⟩)).setCell ⟨C0.1.size,1,none⟩ (.int .i64 Dw)).setCell ⟨C0.1.size,2,none⟩ (.bool Ds)).setCell ⟨C0.1.size,3,none⟩ (.int .i64 Dz))=C4 at *;refine wOn 13 fun K s=>?_
    have x0:=z.o.c0;have f3:=z.o.f 0 nL;have x1:=z.o.c1;have d7:=z.o.f 1 nL;have x2:=z.o.c2;have d9:=z.o.f 2 nL;have x3:=z.o.c3;have d6:=z.o.f 3 nL;have x4:=z.o.c4;have t2:=z.o.f 4 nL;have x5:=z.o.c5;have D1:=z.o.f 5 nL;go_simp;refine kK s (vN O.o (by omega) _ _ _ _ _ _) ?_;clear s K;refine wDn ?_ _;exact⟨(C0.1.size,G.1.size),by simp only[Act.put,pZa,pZb,pZc],vN O.o (by omega) _ _ _ _ _ _,A.o.turn (qZE _ _ _ (by omega) _ _ _ _ _ _),z.o.six lk lx J ll lc (.slice lq f6 f9),by show W.1.size<=C0.1.size;omega,by show W.1.size<=G.1.size;omega,by show C0.1.size≠G.1.size;omega⟩
  ·go_simp;refine kK s (bal g7.o _) ?_;clear s K;have d3:=hI (bal g7.o (.cells #[.string ⟨#[]⟩, .string ⟨#[]⟩, .int .u64 0, .int .i64 0, .int .i64 0, .slice none 0 0] 57));have hA:Below C0.1.size C0 (C0.alloc (.cells #[.string ⟨#[]⟩, .string ⟨#[]⟩, .int .u64 0, .int .i64 0, .int .i64 0, .slice none 0 0] 57)):=bal (Below.refl _ _) _;have G7:C0.1.size < (C0.alloc (.cells #[.string ⟨#[]⟩, .string ⟨#[]⟩, .int .u64 0, .int .i64 0, .int .i64 0, .slice none 0 0] 57)).1.size:=by simp
   have hw0:=g7.o.size;have z:=hI (show zI C0.1.size [] [] 0 0 0 (.slice none 0 0) (C0.alloc (.cells #[.string ⟨#[]⟩, .string ⟨#[]⟩, .int .u64 0, .int .i64 0, .int .i64 0, .slice none 0 0] 57))from zI.new [] [] 0 0 0 (.slice none 0 0) C0);clear hA;generalize (C0.alloc (.cells #[.string ⟨#[]⟩, .string ⟨#[]⟩, .int .u64 0, .int .i64 0, .int .i64 0, .slice none 0 0] 57))=G at *;refine jA (i:=1) (j:=10) rfl rfl (by kernel_rfl) (by rfl) (by rfl) (fun K s=>?_) (fun K s=>?_)
   ·go_simp;refine(r4.o G (g6.o.trans (d3.o.mono r5))).mono ?_;rintro e C ⟨rfl,hb⟩;simp only[qXK];have s2:=d3.o.size;have R:=hI (d3.o.trans (hb.mono d3.o.size));have hs2:=hb.size;have z:=hI (z.o.below hb);refine kK s R.o ?_;clear s K hb;try simp only[Act.put,pZa,pZb,pZc]
    refine wOn 10 fun K s=>?_
    go_simp;refine kK s (bal R.o _) ?_;clear s K;have Y:=hI (bal R.o (.cells #[.string ⟨#[]⟩, .int .i64 0, .bool false, .int .i64 0] 42));have hA:Below C.1.size C (C.alloc (.cells #[.string ⟨#[]⟩, .int .i64 0, .bool false, .int .i64 0] 42)):=bal (Below.refl _ _) _;have hs3:C.1.size < (C.alloc (.cells #[.string ⟨#[]⟩, .int .i64 0, .bool false, .int .i64 0] 42)).1.size:=by simp
    have t0:=R.o.size;have z:=hI (z.o.below hA);have A:=hI (show qQB C.1.size qZU (C.alloc (.cells #[.string ⟨#[]⟩, .int .i64 0, .bool false, .int .i64 0] 42))from qQB.new qZU C);clear hA;generalize (C.alloc (.cells #[.string ⟨#[]⟩, .int .i64 0, .bool false, .int .i64 0] 42))=C3 at *;refine wOn 12 fun K s=>?_
    have x0:=A.o.c0;have f3:=A.o.f 0 nL;have x1:=A.o.c1;have d7:=A.o.f 1 nL;have x2:=A.o.c2;have d9:=A.o.f 2 nL;have x3:=A.o.c3;have d6:=A.o.f 3 nL;simp only[qZU]at x0 x1 x2 x3;go_simp;refine kK s (qQ7 Y.o (by omega) _ _ _ _) ?_;clear s K;clear x0 f3 x1 d7 x2 d9 x3 d6;have O:=hI (qQ7 (N:=C.1.size) Y.o (by omega) (.string ⟨Dn.toArray⟩) (.int .i64 Dw) (.bool Ds) (.int .i64 Dz));have A:=hI (A.o.four (d:=⟨Dn,(Dw,Ds),Dz⟩));simp only at A;have z:=hI (z.o.turn (qUc C3 C.1.size C0.1.size (by omega) (.string ⟨Dn.toArray⟩) (.int .i64 Dw) (.bool Ds) (.int .i64 Dz)));generalize ((((C3.setCell ⟨C.1.size,0,none⟩ (.string ⟨Dn.toArray⟩)).setCell ⟨C.1.size,1,none⟩ (.int .i64 Dw)).setCell ⟨C.1.size,2,none⟩ (.bool Ds)).setCell ⟨C.1.size,3,none⟩ (.int .i64 Dz))=C4 at *;refine wOn 13 fun K s=>?_
    have x0:=z.o.c0;have f3:=z.o.f 0 nL;have x1:=z.o.c1;have d7:=z.o.f 1 nL;have x2:=z.o.c2;have d9:=z.o.f 2 nL;have x3:=z.o.c3;have d6:=z.o.f 3 nL;have x4:=z.o.c4;have t2:=z.o.f 4 nL;have x5:=z.o.c5;have D1:=z.o.f 5 nL;go_simp;refine kK s (vN O.o (by omega) _ _ _ _ _ _) ?_;clear s K;refine wDn ?_ _;exact⟨(C.1.size,C0.1.size),by simp only[Act.put,pZa,pZb,pZc],vN O.o (by omega) _ _ _ _ _ _,A.o.turn (qZE _ _ _ (by omega) _ _ _ _ _ _),z.o.six lk lx J ll lc (.slice lq f6 f9),by show W.1.size<=C.1.size;omega,by show W.1.size<=C0.1.size;omega,by show C.1.size≠C0.1.size;omega⟩
   ·go_simp;refine kK s (bal d3.o _) ?_;clear s K;have R:=hI (bal d3.o (.cells #[.string ⟨#[]⟩, .int .i64 0, .bool false, .int .i64 0] 42));have hA:Below G.1.size G (G.alloc (.cells #[.string ⟨#[]⟩, .int .i64 0, .bool false, .int .i64 0] 42)):=bal (Below.refl _ _) _;have hs2:G.1.size < (G.alloc (.cells #[.string ⟨#[]⟩, .int .i64 0, .bool false, .int .i64 0] 42)).1.size:=by simp
    have s2:=d3.o.size;have z:=hI (z.o.below hA);have A:=hI (show qQB G.1.size qZU (G.alloc (.cells #[.string ⟨#[]⟩, .int .i64 0, .bool false, .int .i64 0] 42))from qQB.new qZU G);clear hA;generalize (G.alloc (.cells #[.string ⟨#[]⟩, .int .i64 0, .bool false, .int .i64 0] 42))=C at *;refine wOn 1 fun K s=>?_
    go_simp;refine(r4.o C (g6.o.trans (R.o.mono r5))).mono ?_;rintro e C3 ⟨rfl,hb⟩;simp only[qXK];have t0:=R.o.size;have Y:=hI (R.o.trans (hb.mono R.o.size));have hs3:=hb.size;have A:=hI (A.o.below hb);have z:=hI (z.o.below hb);refine kK s Y.o ?_;clear s K hb;try simp only[Act.put,pZa,pZb,pZc]
    refine wOn 12 fun K s=>?_
    have x0:=A.o.c0;have f3:=A.o.f 0 nL;have x1:=A.o.c1;have d7:=A.o.f 1 nL;have x2:=A.o.c2;have d9:=A.o.f 2 nL;have x3:=A.o.c3;have d6:=A.o.f 3 nL;simp only[qZU]at x0 x1 x2 x3;go_simp;refine kK s (qQ7 Y.o (by omega) _ _ _ _) ?_;clear s K;clear x0 f3 x1 d7 x2 d9 x3 d6;have O:=hI (qQ7 (N:=G.1.size) Y.o (by omega) (.string ⟨Dn.toArray⟩) (.int .i64 Dw) (.bool Ds) (.int .i64 Dz));have A:=hI (A.o.four (d:=⟨Dn,(Dw,Ds),Dz⟩));simp only at A;have z:=hI (z.o.turn (qUc C3 G.1.size C0.1.size (by omega) (.string ⟨Dn.toArray⟩) (.int .i64 Dw) (.bool Ds) (.int .i64 Dz)));generalize ((((C3.setCell ⟨G.1.size,0,none⟩ (.string ⟨Dn.toArray⟩)).setCell ⟨G.1.size,1,none⟩ (.int .i64 Dw)).setCell ⟨G.1.size,2,none⟩ (.bool Ds)).setCell ⟨G.1.size,3,none⟩ (.int .i64 Dz))=C4 at *;refine wOn 13 fun K s=>?_
    have x0:=z.o.c0;have f3:=z.o.f 0 nL;have x1:=z.o.c1;have d7:=z.o.f 1 nL;have x2:=z.o.c2;have d9:=z.o.f 2 nL;have x3:=z.o.c3;have d6:=z.o.f 3 nL;have x4:=z.o.c4;have t2:=z.o.f 4 nL;have x5:=z.o.c5;have D1:=z.o.f 5 nL;go_simp;refine kK s (vN O.o (by omega) _ _ _ _ _ _) ?_;clear s K;refine wDn ?_ _;exact⟨(G.1.size,C0.1.size),by simp only[Act.put,pZa,pZb,pZc],vN O.o (by omega) _ _ _ _ _ _,A.o.turn (qZE _ _ _ (by omega) _ _ _ _ _ _),z.o.six lk lx J ll lc (.slice lq f6 f9),by show W.1.size<=G.1.size;omega,by show W.1.size<=C0.1.size;omega,by show G.1.size≠C0.1.size;omega⟩
 ·rintro⟨N4,N5⟩ w3 N7;obtain⟨hb3,hV,hN5,h4,h5,N6⟩:=N7;simp only at hV hN5 h4 h5 N6;have Y:=hI (g6.o.trans (hb3.mono r5));have D6:=hI (HW.o.below hb3);have p0:=hI (HN.o.below hb3);have r6:=hI hV;have n9:=hI hN5;have hs3:=hb3.size;have h4l:=hV.lt;have T5:=hN5.lt;clear n0 n1 n2 n3 n4 n5 k0 k1 k2 k3 k4 k5 hb3 hV hN5 r4 HW HN g6 M6;have y0:=n9.o.c0;have y2:=n9.o.c2;have⟨v0,v1,v2,v3,_⟩:=r6.o.a;have D5:=r6.o.f 3 nL;have N3:=hI (show ∃ b:Bool,(lk == zD)=b from⟨_,rfl⟩);obtain⟨bk,G8⟩:=N3.o;have t1:=hI G8;unfold zD at G8;try simp only[Act.put,pZa,pZb,pZc]
  cases bk with
  | false =>
   have m1:ft=true:=by rw[D3.o,t1.o];rfl
   have hr:0<=J/\J<=16:=by rw[HZ.o t1.o];decide
   have p6:=hI (D2.o.trans (by rw[m1];rfl:_=(jQ (decide (yV gs+max J 1<=64)) (.mk k x m ln co ks) 45).bind fun _=>(yF ⟨gs,fs.map (fun f=>f.h)⟩ (.mk k x m ln co ks)).bind fun _=>.ok ⟨gs++[⟨Dn,(Dw,Ds),J⟩],fs.map (fun f=>f.h)⟩));have M7:IntKind.i64.wrap J=J:=IntWalk.i64_in _ (by omega);obtain⟨n,hn⟩:∃ n,yV gs+max J 1=n:=⟨_,rfl⟩;have N1:=H0.o.cg;have M3:(gs.length:Int)<=yV gs:=qJ4 gs;have F4:IntKind.i64.wrap n=n:=IntWalk.i64_in _ (by omega);have s1:=hI (fun w'=>qQl (.mk lk lx J ll lc D9) (.slice lq f6 f9) 42 w');try simp only[qZ,qS,qQ.kind,qQ.text,qQ.num,qQ.line,qQ.col,qQ.kids]at s1
   go_wp2
   have m9:=hI (jR (o:=3) Y.o (show w.1.size<=N4 by omega) (.int .i64 J));have m3:=hI (H0.o.below m9.o);have s7:=hI (show Bx w.1.size (.mk k x m ln co ks) (.slice (some ⟨g2,d2,none⟩) (p+1) c) (w3.setCell ⟨N4,3,none⟩ (.int .i64 J))from(hS w3 ⟨N4,3,none⟩ (.int .i64 J) w.1.size (by show w.1.size≠N4;omega)).trans p0.o);have g8:=hI (r6.o.sized J);have t9:=hI (n9.o.turn (hS w3 ⟨N4,3,none⟩ (.int .i64 J) N5 (by show N5≠N4;omega)));have N0:(w3.setCell ⟨N4,3,none⟩ (.int .i64 J)).1.size=w3.1.size:=by simp
   try simp only at g8
   clear y0 y2 v0 v1 v2 v3 D5 Y D6 p0 r6 n9;generalize (w3.setCell ⟨N4,3,none⟩ (.int .i64 J))=V at *;have c5:=m3.o.c5;have p8:=m3.o.bf 5 (by omega);have⟨v0,v1,v2,v3,_⟩:=g8.o.a;try simp only at v0 v1 v2 v3
   have F2:B < V.1.size:=qJ c5;refine wRg (S:=fun w'=>Below V.1.size V w') 9 ?_;refine wTk 0 35 (.pointer (some ⟨B,0,none⟩)) ?_ (bD V) ?_
   ·intro _ y;go_simp
   refine wTk 1 36 (.pointer (some ⟨B,0,none⟩)) ?_ (bD V) ?_
   ·intro _ y;go_simp
   refine wTk 2 37 (.pointer (some ⟨B,5,none⟩)) ?_ (bD V) ?_
   ·intro _ y;go_simp
   refine wTk 3 38 (.int .i64 (yV gs)) ?_ (bD V) ?_
   ·intro _ y;have c5:=kP y c5;go_simp
   refine wTk 4 39 (.agg #[.string ⟨Dn.toArray⟩, .int .i64 Dw, .bool Ds, .int .i64 J]) ?_ (bD V) ?_
   ·intro _ y;obtain⟨v0,v1,v2,v3⟩:=kP4 y v0 v1 v2 v3;go_simp
   refine wOn 5 fun K s=>?_
   go_simp;refine(qVy _ _ _ _ _).mono ?_;rintro e w5 ⟨rfl,hb5⟩;have hb5:=zF hb5;refine kK s hb5 ?_;clear s K;have p8:=(hb5.frozen (p:=⟨B,5,none⟩) F2).trans p8;have c5:=kP hb5 c5;have M9:=hb5.size;clear v0 v1 v2 v3;refine wOn 6 fun K s=>?_
   go_simp;refine kK s hb5 ?_;clear s K;try simp only[Act.put,pZa,pZb,pZc]
   refine wOn 7 fun K s=>?_
   go_simp;refine kK s hb5 ?_;clear s K;try simp only[Act.put,pZa,pZb,pZc]
   refine wOn 8 fun K s=>?_
   go_simp;refine kK s hb5 ?_;clear s K;try simp only[Act.put,pZa,pZb,pZc]
   refine wOn 9 fun K s=>?_
   go_simp;refine kD s ?_;clear s K;refine wDn ?_ _;have m2:=hI (m9.o.trans (hb5.mono m9.o.size));have p9:=hI ((m3.o.below hb5).set5 n);have hlo:=H0.o.lo;have r0:=hI ((jW.of_below (L:=L) m2.o).set (N:=B) hlo.2.1 5 (.int .i64 n));have m4:∀ b,b≠B->(w5.setCell ⟨B,5,none⟩ (.int .i64 n)).1[b]? = w5.1[b]?:=fun b hb=>hS w5 ⟨B,5,none⟩ (.int .i64 n) b hb
   have p2:=hI (show Bx w.1.size (.mk k x m ln co ks) (.slice (some ⟨g2,d2,none⟩) (p+1) c) (w5.setCell ⟨B,5,none⟩ (.int .i64 n))from(m4 _ (by omega)).trans (s7.o.below hb5));have s0:=hI ((g8.o.below hb5).turn (m4 N4 (by omega)));have s3:=hI ((t9.o.below hb5).turn (m4 N5 (by omega)));have N2:(w5.setCell ⟨B,5,none⟩ (.int .i64 n)).1.size=w5.1.size:=by simp
   try simp only[hn,F4]
   clear m4 hb5 c5 p8 m9 m3 s7 g8 t9;generalize (w5.setCell ⟨B,5,none⟩ (.int .i64 n))=U at *;have c5:=p9.o.c5;obtain⟨n0,n1,n2,n3,n4,n5⟩:=p2.o.cells;try simp only[qQ.kind,qQ.text,qQ.num,qQ.line,qQ.col,qQ.kids]at n0 n1 n2 n3 n4 n5
   go_wp2
   refine wRg (S:=fun w'=>Below U.1.size U w') 10 ?_;refine wTk 0 44 (.bool true) ?_ (bD U) ?_
   ·intro _ y;go_simp
   refine wTk 1 45 (.bool false) ?_ (bD U) ?_
   ·intro _ y;go_simp
   refine wTk 2 46 (.bool false) ?_ (bD U) ?_
   ·intro _ y;go_simp
   refine wTk 3 47 (.pointer (some ⟨B,0,none⟩)) ?_ (bD U) ?_
   ·intro _ y;go_simp
   refine wTk 4 48 (.pointer (some ⟨B,0,none⟩)) ?_ (bD U) ?_
   ·intro _ y;go_simp
   refine wTk 5 49 (.pointer (some ⟨B,5,none⟩)) ?_ (bD U) ?_
   ·intro _ y;go_simp
   refine wTk 6 50 (.int .i64 n) ?_ (bD U) ?_
   ·intro _ y;have c5:=kP y c5;go_simp
   refine wTk 7 51 (.bool (decide (n<=64))) ?_ (bD U) ?_
   ·intro _ y;go_simp
   refine wTk 8 52 (.bool (decide (n<=64))) ?_ (bD U) ?_
   ·intro _ y;go_simp
   refine wTk 9 53 (.agg #[.string ⟨k.toArray⟩, .string ⟨x.toArray⟩, .int .u64 m, .int .i64 ln, .int .i64 co, .slice (some ⟨g2,d2,none⟩) (p+1) c]) ?_ (bD U) ?_
   ·intro _ y;obtain⟨n0,n1,n2,n3,n4,n5⟩:=kP6 y n0 n1 n2 n3 n4 n5;go_simp
   refine wOn 10 fun K s=>?_
   go_simp;refine(D7.o _ 45 _).mono ?_;rintro e w4 (⟨hbt,rfl,hb4⟩ | ⟨hbt,rfl,hb4⟩);rotate_left
   ·exact⟨rfl,wP.badI (by rw[p6.o,hn,hbt];rfl) (r0.o.trans (jW.of_below (zF hb4)))⟩
   have hb4:=zF hb4;have F8:n<=64:=of_decide_eq_true hbt;have p7:=hI (p6.o.trans (by rw[hn,hbt];rfl:_=(yF ⟨gs,fs.map (fun f=>f.h)⟩ (.mk k x m ln co ks)).bind fun _=>.ok ⟨gs++[⟨Dn,(Dw,Ds),J⟩],fs.map (fun f=>f.h)⟩));have g4:=hI (p9.o.below hb4);have p3:=hI (r0.o.trans (jW.of_below hb4));have m5:=hI (p2.o.below hb4);have s5:=hI (s0.o.below hb4);have g3:=hI (s3.o.below hb4);have G0:=hb4.size;refine kD s ?_;clear s K hb4 n0 n1 n2 n3 n4 n5 c5 p9 r0 p2 s0 s3 p6 hbt;try simp only[Act.put,pZa,pZb,pZc]
   refine wDn ?_ _;obtain⟨n0,n1,n2,n3,n4,n5⟩:=m5.o.cells;try simp only[qQ.kind,qQ.text,qQ.num,qQ.line,qQ.col,qQ.kids]at n0 n1 n2 n3 n4 n5
   go_wp2_with fail
   refine(D8.o _ _ g4.o).mono ?_;rintro e w7 hX;rcases hX.cases with⟨a,u',hp,rfl,rfl,d8⟩ | ⟨l',c',code,hp,rfl,d8⟩;rotate_left
   ·exact⟨rfl,wP.badI (by rw[p7.o,hp];rfl) (p3.o.trans (jW.of_below d8))⟩
   have t4:=hI (qKQ hp);have G6:=hI (p7.o.trans (by rw[hp];rfl:_=.ok ⟨gs++[⟨Dn,(Dw,Ds),J⟩],fs.map (fun f=>f.h)⟩));have s6:=hI (g4.o.below d8);have s4:=hI (p3.o.trans (jW.of_below d8));have s8:=hI (s5.o.below d8);have r7:=hI (g3.o.below d8);have M4:=d8.size;clear n0 n1 n2 n3 n4 n5 hX hp d8 g4 p3 m5 s5 g3 p7;have⟨y0,y1,y2,y3,y4,y5,_⟩:=r7.o.a;go_wp2_with fail
   refine(s1.o _).mono ?_;rintro e Z ⟨rfl,g1⟩;have I:=hI (s6.o.below g1);have G1:=hI (s4.o.trans (jW.of_below g1));have d5:=hI (s8.o.below g1);have M5:=g1.size;clear y0 y1 y2 y3 y4 y5 g1 s6 s4 s8 r7;have c3:=I.o.c3;have c0:=I.o.c0;have v0:=d5.o.c0;try simp only at v0
   obtain⟨vq,vc,m6⟩:=qZL I.o.grow;obtain⟨ol,g9⟩:∃ ol:Nat,ol=gs.length:=⟨_,rfl⟩;have p1:=hI g9;rw[<-g9]at m6;have n6:=hI m6;rw[m6]at c0;have M1:(ol:Int) < 1000000:=by omega
   obtain⟨w6,n7,t6,m0⟩:=(I.o.gm.below (Below.refl _ _).drew).store Dn (by rw[D4.o];have:=HX.o;unfold maxLen;omega) (by rw[D4.o];exact t4.o.1) (by simp only[List.length_map];omega);rw[show((gs.map (·.name)).length:Int)=(ol:Nat) by rw[List.length_map,g9]]at n7;clear g9 m6;go_wp2
   refine wRg (S:=fun w'=>Below Z.1.size Z w') 12 ?_;refine wTk 0 61 (.pointer (some ⟨B,0,none⟩)) ?_ (bD Z) ?_
   ·intro _ y;go_simp
   refine wTk 1 62 (.pointer (some ⟨B,0,none⟩)) ?_ (bD Z) ?_
   ·intro _ y;go_simp
   refine wTk 2 63 (.pointer (some ⟨B,3,none⟩)) ?_ (bD Z) ?_
   ·intro _ y;go_simp
   refine wTk 3 64 (.map (some Mg)) ?_ (bD Z) ?_
   ·intro _ y;have c3:=kP y c3;have v0:=kP y v0;go_simp
   refine wTk 4 65 (.pointer (some ⟨N4,0,none⟩)) ?_ (bD Z) ?_
   ·intro _ y;go_simp
   refine wTk 5 66 (.string ⟨Dn.toArray⟩) ?_ (bD Z) ?_
   ·intro _ y;have v0:=kP y v0;go_simp
   refine wTk 6 67 (.pointer (some ⟨B,0,none⟩)) ?_ (bD Z) ?_
   ·intro _ y;go_simp
   refine wTk 7 68 (.pointer (some ⟨B,0,none⟩)) ?_ (bD Z) ?_
   ·intro _ y;go_simp
   refine wTk 8 69 (.pointer (some ⟨B,0,none⟩)) ?_ (bD Z) ?_
   ·intro _ y;go_simp
   refine wTk 9 70 (.pointer (some ⟨B,0,none⟩)) ?_ (bD Z) ?_
   ·intro _ y;go_simp
   refine wTk 10 71 (.slice vq ol vc) ?_ (bD Z) ?_
   ·intro _ y;have c0:=kP y c0;go_simp
   refine wTk 11 72 (.int .i64 ol) ?_ (bD Z) ?_
   ·intro _ y;go_simp
   refine wOn 12 fun K s=>?_
   go_simp;refine kD s ?_;clear s K;refine wDn ?_ _;have hM:=I.o.gm.isMap;have g5:=hI (show ∀ b,b < Z.1.size->b≠Mg->w6.1[b]? = Z.1[b]? from fun b hb f4=>m0.block b hb (fun e=>f4 (by injection e)));have f7:B≠Mg:=(vU hM I.o.kb).symm;have m7:N4≠Mg:=fun e=>by have:=H0.o.gm.lt;omega
   have kc:∀ {b o u},b < Z.1.size->b≠Mg->Z.cell? ⟨b,o,none⟩=some u->w6.cell? ⟨b,o,none⟩=some u:=fun hb f4 hc=>(cB (g5.o _ hb f4)).trans hc
   have g0:B < Z.1.size:=qJ I.o.c0;have c0:=kc g0 f7 c0;have v0:=kc d5.o.lt m7 d5.o.c0;have v1:=kc d5.o.lt m7 d5.o.c1;have v2:=kc d5.o.lt m7 d5.o.c2;have v3:=kc d5.o.lt m7 d5.o.c3;try simp only at v0 v1 v2 v3
   have D0:w.ownsRow L 42 4 (.slice vq ol vc) ol (xD qQe gs):=by
    have hr:=H0.o.grow;rw[n6.o]at hr;unfold qQI at hr;rw[<-p1.o]at hr;exact hr
   have r2:Z.ownsRow L 42 4 (.slice vq ol vc) ol (xD qQe gs):=by
    have hr:=I.o.grow;rw[n6.o]at hr;unfold qQI at hr;rw[<-p1.o]at hr;exact hr
   have f8:∀ g,(Value.slice vq ol vc).ownBlock=some g->jX Z g 42/\g < w.1.size:=fun g hg=>⟨zE r2 hg,(D0.lt g hg).2⟩
   have d4:some B≠(Value.slice vq ol vc).ownBlock:=fun e=>(I.o.kb.ne (f8 B e.symm).1 (by decide)) rfl
   have f5:some N4≠(Value.slice vq ol vc).ownBlock:=fun e=>by have:=(f8 _ e.symm).2;omega
   have r9:=hI (show w6.ownsRow L 42 4 (.slice vq ol vc) ol (xD qQe gs)from zU r2 (fun g hg=>g5.o g (by have:=(f8 g hg).2;omega) (vU hM (f8 g hg).1).symm));have N9:Z.1.size<=w6.1.size:=m0.size;have r1:=hI m0;have F5:=hI t6;clear m0 t6 kc n7 c3 D0 r2;go_wp2
   refine wRg (S:=fun w'=>∀ b,b < w6.1.size->some b≠(Value.slice vq ol vc).ownBlock->w'.1[b]? = w6.1[b]?) 12 ?_;refine wTk 0 73 (.pointer (some ⟨B,0,none⟩)) ?_ ((fun _ _ _=>rfl)) ?_
   ·intro _ y;go_simp
   refine wTk 1 74 (.pointer (some ⟨B,0,none⟩)) ?_ ((fun _ _ _=>rfl)) ?_
   ·intro _ y;go_simp
   refine wTk 2 75 (.pointer (some ⟨B,0,none⟩)) ?_ ((fun _ _ _=>rfl)) ?_
   ·intro _ y;go_simp
   refine wTk 3 76 (.pointer (some ⟨B,0,none⟩)) ?_ ((fun _ _ _=>rfl)) ?_
   ·intro _ y;go_simp
   refine wTk 4 77 (.pointer (some ⟨B,0,none⟩)) ?_ ((fun _ _ _=>rfl)) ?_
   ·intro _ y;go_simp
   refine wTk 5 78 (.slice vq ol vc) ?_ ((fun _ _ _=>rfl)) ?_
   ·intro _ y;have c0:=(cB (y _ (qJ c0) d4)).trans c0;go_simp
   refine wTk 6 79 (.agg #[.string ⟨Dn.toArray⟩, .int .i64 Dw, .bool Ds, .int .i64 J]) ?_ ((fun _ _ _=>rfl)) ?_
   ·intro _ y;have v0:=(cB (y _ (qJ v0) f5)).trans v0;have v1:=(cB (y _ (qJ v1) f5)).trans v1;have v2:=(cB (y _ (qJ v2) f5)).trans v2;have v3:=(cB (y _ (qJ v3) f5)).trans v3;go_simp
   refine wOn 7 fun K s=>?_
   go_simp;refine kK s (fun b hb _=>Below.heap_alloc w6.drew _ b hb) ?_;clear s K;refine wOn 8 fun K s=>?_
   refine qQJ (lo:=L) (dd:=81) (news:=qQe ⟨Dn,(Dw,Ds),J⟩) underlying27 info42 (by decide) rfl (by decide) _ _ rfl rfl r9.o.drew (by simp;omega) rfl rfl rfl rfl (qVo _) (by omega) (fun v9 w9 ho9 hg9 hbk9=>?_);obtain⟨q9,c9,rfl⟩:∃ q c,v9=.slice q (ol+1) c:=by
    rcases ho9.2 with⟨_,h0⟩ | ⟨g,M8,T2,rfl,_⟩
    ·omega
    ·exact⟨_,_,rfl⟩
   have S9:∀ b,b < w6.1.size->some b≠(Value.slice vq ol vc).ownBlock->w9.1[b]? = w6.1[b]?:=fun b hb f4=>(hg9.block b (by simp;omega) f4).trans (Below.heap_alloc w6.drew _ b hb)
   refine kK s S9 ?_;clear s K;refine wOn 9 fun K s=>?_
   go_simp;refine kK s S9 ?_;clear s K;try simp only[Act.put,pZa,pZb,pZc]
   refine wOn 10 fun K s=>?_
   go_simp;refine kK s S9 ?_;clear s K;try simp only[Act.put,pZa,pZb,pZc]
   refine wOn 11 fun K s=>?_
   go_simp;refine kK s S9 ?_;clear s K;try simp only[Act.put,pZa,pZb,pZc]
   have r8:B < w6.1.size:=qJ c0;have t8:=(cB (S9 B r8 d4)).trans c0;have G4:w9.frozen? ⟨B,0,none⟩=false:=(World.frozen?_of_block (S9 B r8 d4)).trans ((World.frozen?_of_block (g5.o B g0 f7)).trans (I.o.bf 0 (by omega)));have T0:w6.1.size+1<=w9.1.size:=by have:=hg9.size;simpa using this
   refine wOn 12 fun K s=>?_
   go_simp;refine kD s ?_;clear s K;refine wDn ?_ _;have F3:=hI ho9;have p5:=hI hg9;have n8:=hI hbk9;have r3:=hI S9;have N8:=hlo.2.1;have G3:=hI t8;clear c0 v0 v1 v2 v3 t8 G4 ho9 hg9 hbk9 S9;go_wp2
   go_end0;have base:∀ b,b < Z.1.size->b≠B->b≠Mg->some b≠gv.ownBlock->(w9.setCell ⟨B,0,none⟩ (.slice q9 (ol+1) c9)).1[b]? = Z.1[b]?:=fun b hb h1 h2 h3=>by
    rw[hS _ _ _ _ h1];refine(r3.o b (by omega) ?_).trans (g5.o b hb h2);rw[<-n6.o];exact h3
   have hT:jW L w (w9.setCell ⟨B,0,none⟩ (.slice q9 (ol+1) c9)):=G1.o.trans ⟨(rfl:(w9.setCell ⟨B,0,none⟩ (.slice q9 (ol+1) c9)).os=w9.os).trans (p5.o.os.trans r1.o.os),by simpa using p5.o.tape.trans r1.o.tape,(rfl:(w9.setCell ⟨B,0,none⟩ (.slice q9 (ol+1) c9)).output=w9.output).trans (p5.o.output.trans r1.o.output),by simp;omega,fun b hb hbL=>base b hb (by omega) (by have:=H0.o.lo;omega) (fun e=>by have:=(H0.o.grow.lt b e.symm).1;omega)⟩;refine wP.okI (gv:=.slice q9 (ol+1) c9) (fv:=fv) G6.o ?_ hT;have t7:(w9.setCell ⟨B,0,none⟩ (.slice q9 (ol+1) c9)).1.size=w9.1.size:=by simp
   have p4:∀ b,b < Z.1.size->b≠Mg->some b≠(Value.slice vq ol vc).ownBlock->w9.1[b]? = Z.1[b]?:=fun b hb h2 h3=>(r3.o b (by omega) h3).trans (g5.o b hb h2)
   refine I.o.glob (gv':=.slice q9 (ol+1) c9) (d:=⟨Dn,(Dw,Ds),J⟩) (by rw[t7];omega) base (World.cell?_setCell_same _ _ _ G3.o) ?_ ?_ ?_ ?_ ?_ ?_ ?_ F8
   ·intro o ho;exact(World.cell?_setCell_other _ _ _ _ (by simpa using Ne.symm ho)).trans (cB (p4 B g0 f7 d4))
   ·intro o;exact(World.frozen?_setCell _ _ _ _).trans (World.frozen?_of_block (p4 B g0 f7 d4))
   ·exact(I.o.kb.turn (p4 B g0 f7 d4)).set _ _ _
   ·refine wY.kept F5.o ?_;rw[hS _ _ _ _ f7.symm];exact r3.o Mg (by have:=I.o.gm.lt;omega) (fun e=>vU hM (f8 Mg e.symm).1 rfl)
   ·rw[<-p1.o];refine zU F3.o (fun g hg=>hS _ _ _ _ ?_);rcases n8.o with h1 | h1
    ·rw[h1]at hg;exact(I.o.kb.ne (f8 g hg).1 (by decide)).symm
    ·rw[h1]at hg;injection hg with hg;simp at hg;show g≠B
     omega
   ·rcases n8.o with h1 | h1
    ·left;rw[h1,n6.o]
    ·right;exact⟨_,by simp;omega,h1⟩
   ·rw[qWM,<-hn]
  | true =>
   by_cases F1:1<=J
   ·by_cases G9:J<=16
    ·have m1:ft=true:=by rw[D3.o,t1.o];simp[F1,G9]
     have hr:0<=J/\J<=16:=by omega
     have p6:=hI (D2.o.trans (by rw[m1];rfl:_=(jQ (decide (yV gs+max J 1<=64)) (.mk k x m ln co ks) 45).bind fun _=>(yF ⟨gs,fs.map (fun f=>f.h)⟩ (.mk k x m ln co ks)).bind fun _=>.ok ⟨gs++[⟨Dn,(Dw,Ds),J⟩],fs.map (fun f=>f.h)⟩));have M7:IntKind.i64.wrap J=J:=IntWalk.i64_in _ (by omega);obtain⟨n,hn⟩:∃ n,yV gs+max J 1=n:=⟨_,rfl⟩;have N1:=H0.o.cg;have M3:(gs.length:Int)<=yV gs:=qJ4 gs;have F4:IntKind.i64.wrap n=n:=IntWalk.i64_in _ (by omega);have s1:=hI (fun w'=>qQl (.mk lk lx J ll lc D9) (.slice lq f6 f9) 42 w');try simp only[qZ,qS,qQ.kind,qQ.text,qQ.num,qQ.line,qQ.col,qQ.kids]at s1
     go_wp2
     have m9:=hI (jR (o:=3) Y.o (show w.1.size<=N4 by omega) (.int .i64 J));have m3:=hI (H0.o.below m9.o);have s7:=hI (show Bx w.1.size (.mk k x m ln co ks) (.slice (some ⟨g2,d2,none⟩) (p+1) c) (w3.setCell ⟨N4,3,none⟩ (.int .i64 J))from(hS w3 ⟨N4,3,none⟩ (.int .i64 J) w.1.size (by show w.1.size≠N4;omega)).trans p0.o);have g8:=hI (r6.o.sized J);have t9:=hI (n9.o.turn (hS w3 ⟨N4,3,none⟩ (.int .i64 J) N5 (by show N5≠N4;omega)));have N0:(w3.setCell ⟨N4,3,none⟩ (.int .i64 J)).1.size=w3.1.size:=by simp
     try simp only at g8
     clear y0 y2 v0 v1 v2 v3 D5 Y D6 p0 r6 n9;generalize (w3.setCell ⟨N4,3,none⟩ (.int .i64 J))=V at *;have c5:=m3.o.c5;have p8:=m3.o.bf 5 (by omega);have⟨v0,v1,v2,v3,_⟩:=g8.o.a;try simp only at v0 v1 v2 v3
     have F2:B < V.1.size:=qJ c5;refine wRg (S:=fun w'=>Below V.1.size V w') 9 ?_;refine wTk 0 35 (.pointer (some ⟨B,0,none⟩)) ?_ (bD V) ?_
     ·intro _ y;go_simp
     refine wTk 1 36 (.pointer (some ⟨B,0,none⟩)) ?_ (bD V) ?_
     ·intro _ y;go_simp
     refine wTk 2 37 (.pointer (some ⟨B,5,none⟩)) ?_ (bD V) ?_
     ·intro _ y;go_simp
     refine wTk 3 38 (.int .i64 (yV gs)) ?_ (bD V) ?_
     ·intro _ y;have c5:=kP y c5;go_simp
     refine wTk 4 39 (.agg #[.string ⟨Dn.toArray⟩, .int .i64 Dw, .bool Ds, .int .i64 J]) ?_ (bD V) ?_
     ·intro _ y;obtain⟨v0,v1,v2,v3⟩:=kP4 y v0 v1 v2 v3;go_simp
     refine wOn 5 fun K s=>?_
     go_simp;refine(qVy _ _ _ _ _).mono ?_;rintro e w5 ⟨rfl,hb5⟩;have hb5:=zF hb5;refine kK s hb5 ?_;clear s K;have p8:=(hb5.frozen (p:=⟨B,5,none⟩) F2).trans p8;have c5:=kP hb5 c5;have M9:=hb5.size;clear v0 v1 v2 v3;refine wOn 6 fun K s=>?_
     go_simp;refine kK s hb5 ?_;clear s K;try simp only[Act.put,pZa,pZb,pZc]
     refine wOn 7 fun K s=>?_
     go_simp;refine kK s hb5 ?_;clear s K;try simp only[Act.put,pZa,pZb,pZc]
     refine wOn 8 fun K s=>?_
     go_simp;refine kK s hb5 ?_;clear s K;try simp only[Act.put,pZa,pZb,pZc]
     refine wOn 9 fun K s=>?_
     go_simp;refine kD s ?_;clear s K;refine wDn ?_ _;have m2:=hI (m9.o.trans (hb5.mono m9.o.size));have p9:=hI ((m3.o.below hb5).set5 n);have hlo:=H0.o.lo;have r0:=hI ((jW.of_below (L:=L) m2.o).set (N:=B) hlo.2.1 5 (.int .i64 n));have m4:∀ b,b≠B->(w5.setCell ⟨B,5,none⟩ (.int .i64 n)).1[b]? = w5.1[b]?:=fun b hb=>hS w5 ⟨B,5,none⟩ (.int .i64 n) b hb
     have p2:=hI (show Bx w.1.size (.mk k x m ln co ks) (.slice (some ⟨g2,d2,none⟩) (p+1) c) (w5.setCell ⟨B,5,none⟩ (.int .i64 n))from(m4 _ (by omega)).trans (s7.o.below hb5));have s0:=hI ((g8.o.below hb5).turn (m4 N4 (by omega)));have s3:=hI ((t9.o.below hb5).turn (m4 N5 (by omega)));have N2:(w5.setCell ⟨B,5,none⟩ (.int .i64 n)).1.size=w5.1.size:=by simp
     try simp only[hn,F4]
     clear m4 hb5 c5 p8 m9 m3 s7 g8 t9;generalize (w5.setCell ⟨B,5,none⟩ (.int .i64 n))=U at *;have c5:=p9.o.c5;obtain⟨n0,n1,n2,n3,n4,n5⟩:=p2.o.cells;try simp only[qQ.kind,qQ.text,qQ.num,qQ.line,qQ.col,qQ.kids]at n0 n1 n2 n3 n4 n5
     go_wp2
     refine wRg (S:=fun w'=>Below U.1.size U w') 10 ?_;refine wTk 0 44 (.bool true) ?_ (bD U) ?_
     ·intro _ y;go_simp
     refine wTk 1 45 (.bool false) ?_ (bD U) ?_
     ·intro _ y;go_simp
     refine wTk 2 46 (.bool false) ?_ (bD U) ?_
     ·intro _ y;go_simp
     refine wTk 3 47 (.pointer (some ⟨B,0,none⟩)) ?_ (bD U) ?_
     ·intro _ y;go_simp
     refine wTk 4 48 (.pointer (some ⟨B,0,none⟩)) ?_ (bD U) ?_
     ·intro _ y;go_simp
     refine wTk 5 49 (.pointer (some ⟨B,5,none⟩)) ?_ (bD U) ?_
     ·intro _ y;go_simp
     refine wTk 6 50 (.int .i64 n) ?_ (bD U) ?_
     ·intro _ y;have c5:=kP y c5;go_simp
     refine wTk 7 51 (.bool (decide (n<=64))) ?_ (bD U) ?_
     ·intro _ y;go_simp
     refine wTk 8 52 (.bool (decide (n<=64))) ?_ (bD U) ?_
     ·intro _ y;go_simp
     refine wTk 9 53 (.agg #[.string ⟨k.toArray⟩, .string ⟨x.toArray⟩, .int .u64 m, .int .i64 ln, .int .i64 co, .slice (some ⟨g2,d2,none⟩) (p+1) c]) ?_ (bD U) ?_
     ·intro _ y;obtain⟨n0,n1,n2,n3,n4,n5⟩:=kP6 y n0 n1 n2 n3 n4 n5;go_simp
     refine wOn 10 fun K s=>?_
     go_simp;refine(D7.o _ 45 _).mono ?_;rintro e w4 (⟨hbt,rfl,hb4⟩ | ⟨hbt,rfl,hb4⟩);rotate_left
     ·exact⟨rfl,wP.badI (by rw[p6.o,hn,hbt];rfl) (r0.o.trans (jW.of_below (zF hb4)))⟩
     have hb4:=zF hb4;have F8:n<=64:=of_decide_eq_true hbt;have p7:=hI (p6.o.trans (by rw[hn,hbt];rfl:_=(yF ⟨gs,fs.map (fun f=>f.h)⟩ (.mk k x m ln co ks)).bind fun _=>.ok ⟨gs++[⟨Dn,(Dw,Ds),J⟩],fs.map (fun f=>f.h)⟩));have g4:=hI (p9.o.below hb4);have p3:=hI (r0.o.trans (jW.of_below hb4));have m5:=hI (p2.o.below hb4);have s5:=hI (s0.o.below hb4);have g3:=hI (s3.o.below hb4);have G0:=hb4.size;refine kD s ?_;clear s K hb4 n0 n1 n2 n3 n4 n5 c5 p9 r0 p2 s0 s3 p6 hbt;try simp only[Act.put,pZa,pZb,pZc]
     refine wDn ?_ _;obtain⟨n0,n1,n2,n3,n4,n5⟩:=m5.o.cells;try simp only[qQ.kind,qQ.text,qQ.num,qQ.line,qQ.col,qQ.kids]at n0 n1 n2 n3 n4 n5
     go_wp2_with fail
     refine(D8.o _ _ g4.o).mono ?_;rintro e w7 hX;rcases hX.cases with⟨a,u',hp,rfl,rfl,d8⟩ | ⟨l',c',code,hp,rfl,d8⟩;rotate_left
     ·exact⟨rfl,wP.badI (by rw[p7.o,hp];rfl) (p3.o.trans (jW.of_below d8))⟩
     have t4:=hI (qKQ hp);have G6:=hI (p7.o.trans (by rw[hp];rfl:_=.ok ⟨gs++[⟨Dn,(Dw,Ds),J⟩],fs.map (fun f=>f.h)⟩));have s6:=hI (g4.o.below d8);have s4:=hI (p3.o.trans (jW.of_below d8));have s8:=hI (s5.o.below d8);have r7:=hI (g3.o.below d8);have M4:=d8.size;clear n0 n1 n2 n3 n4 n5 hX hp d8 g4 p3 m5 s5 g3 p7;have⟨y0,y1,y2,y3,y4,y5,_⟩:=r7.o.a;go_wp2_with fail
     refine(s1.o _).mono ?_;rintro e Z ⟨rfl,g1⟩;have I:=hI (s6.o.below g1);have G1:=hI (s4.o.trans (jW.of_below g1));have d5:=hI (s8.o.below g1);have M5:=g1.size;clear y0 y1 y2 y3 y4 y5 g1 s6 s4 s8 r7;have c3:=I.o.c3;have c0:=I.o.c0;have v0:=d5.o.c0;try simp only at v0
     obtain⟨vq,vc,m6⟩:=qZL I.o.grow;obtain⟨ol,g9⟩:∃ ol:Nat,ol=gs.length:=⟨_,rfl⟩;have p1:=hI g9;rw[<-g9]at m6;have n6:=hI m6;rw[m6]at c0;have M1:(ol:Int) < 1000000:=by omega
     obtain⟨w6,n7,t6,m0⟩:=(I.o.gm.below (Below.refl _ _).drew).store Dn (by rw[D4.o];have:=HX.o;unfold maxLen;omega) (by rw[D4.o];exact t4.o.1) (by simp only[List.length_map];omega);rw[show((gs.map (·.name)).length:Int)=(ol:Nat) by rw[List.length_map,g9]]at n7;clear g9 m6;go_wp2
     refine wRg (S:=fun w'=>Below Z.1.size Z w') 12 ?_;refine wTk 0 61 (.pointer (some ⟨B,0,none⟩)) ?_ (bD Z) ?_
     ·intro _ y;go_simp
     refine wTk 1 62 (.pointer (some ⟨B,0,none⟩)) ?_ (bD Z) ?_
     ·intro _ y;go_simp
     refine wTk 2 63 (.pointer (some ⟨B,3,none⟩)) ?_ (bD Z) ?_
     ·intro _ y;go_simp
     refine wTk 3 64 (.map (some Mg)) ?_ (bD Z) ?_
     ·intro _ y;have c3:=kP y c3;have v0:=kP y v0;go_simp
     refine wTk 4 65 (.pointer (some ⟨N4,0,none⟩)) ?_ (bD Z) ?_
     ·intro _ y;go_simp
     refine wTk 5 66 (.string ⟨Dn.toArray⟩) ?_ (bD Z) ?_
     ·intro _ y;have v0:=kP y v0;go_simp
     refine wTk 6 67 (.pointer (some ⟨B,0,none⟩)) ?_ (bD Z) ?_
     ·intro _ y;go_simp
     refine wTk 7 68 (.pointer (some ⟨B,0,none⟩)) ?_ (bD Z) ?_
     ·intro _ y;go_simp
     refine wTk 8 69 (.pointer (some ⟨B,0,none⟩)) ?_ (bD Z) ?_
     ·intro _ y;go_simp
     refine wTk 9 70 (.pointer (some ⟨B,0,none⟩)) ?_ (bD Z) ?_
     ·intro _ y;go_simp
     refine wTk 10 71 (.slice vq ol vc) ?_ (bD Z) ?_
     ·intro _ y;have c0:=kP y c0;go_simp
     refine wTk 11 72 (.int .i64 ol) ?_ (bD Z) ?_
     ·intro _ y;go_simp
     refine wOn 12 fun K s=>?_
     go_simp;refine kD s ?_;clear s K;refine wDn ?_ _;have hM:=I.o.gm.isMap;have g5:=hI (show ∀ b,b < Z.1.size->b≠Mg->w6.1[b]? = Z.1[b]? from fun b hb f4=>m0.block b hb (fun e=>f4 (by injection e)));have f7:B≠Mg:=(vU hM I.o.kb).symm;have m7:N4≠Mg:=fun e=>by have:=H0.o.gm.lt;omega
     have kc:∀ {b o u},b < Z.1.size->b≠Mg->Z.cell? ⟨b,o,none⟩=some u->w6.cell? ⟨b,o,none⟩=some u:=fun hb f4 hc=>(cB (g5.o _ hb f4)).trans hc
     have g0:B < Z.1.size:=qJ I.o.c0;have c0:=kc g0 f7 c0;have v0:=kc d5.o.lt m7 d5.o.c0;have v1:=kc d5.o.lt m7 d5.o.c1;have v2:=kc d5.o.lt m7 d5.o.c2;have v3:=kc d5.o.lt m7 d5.o.c3;try simp only at v0 v1 v2 v3
     have D0:w.ownsRow L 42 4 (.slice vq ol vc) ol (xD qQe gs):=by
      have hr:=H0.o.grow;rw[n6.o]at hr;unfold qQI at hr;rw[<-p1.o]at hr;exact hr
     have r2:Z.ownsRow L 42 4 (.slice vq ol vc) ol (xD qQe gs):=by
      have hr:=I.o.grow;rw[n6.o]at hr;unfold qQI at hr;rw[<-p1.o]at hr;exact hr
     have f8:∀ g,(Value.slice vq ol vc).ownBlock=some g->jX Z g 42/\g < w.1.size:=fun g hg=>⟨zE r2 hg,(D0.lt g hg).2⟩
     have d4:some B≠(Value.slice vq ol vc).ownBlock:=fun e=>(I.o.kb.ne (f8 B e.symm).1 (by decide)) rfl
     have f5:some N4≠(Value.slice vq ol vc).ownBlock:=fun e=>by have:=(f8 _ e.symm).2;omega
     have r9:=hI (show w6.ownsRow L 42 4 (.slice vq ol vc) ol (xD qQe gs)from zU r2 (fun g hg=>g5.o g (by have:=(f8 g hg).2;omega) (vU hM (f8 g hg).1).symm));have N9:Z.1.size<=w6.1.size:=m0.size;have r1:=hI m0;have F5:=hI t6;clear m0 t6 kc n7 c3 D0 r2;go_wp2
     refine wRg (S:=fun w'=>∀ b,b < w6.1.size->some b≠(Value.slice vq ol vc).ownBlock->w'.1[b]? = w6.1[b]?) 12 ?_;refine wTk 0 73 (.pointer (some ⟨B,0,none⟩)) ?_ ((fun _ _ _=>rfl)) ?_
     ·intro _ y;go_simp
     refine wTk 1 74 (.pointer (some ⟨B,0,none⟩)) ?_ ((fun _ _ _=>rfl)) ?_
     ·intro _ y;go_simp
     refine wTk 2 75 (.pointer (some ⟨B,0,none⟩)) ?_ ((fun _ _ _=>rfl)) ?_
     ·intro _ y;go_simp
     refine wTk 3 76 (.pointer (some ⟨B,0,none⟩)) ?_ ((fun _ _ _=>rfl)) ?_
     ·intro _ y;go_simp
     refine wTk 4 77 (.pointer (some ⟨B,0,none⟩)) ?_ ((fun _ _ _=>rfl)) ?_
     ·intro _ y;go_simp
     refine wTk 5 78 (.slice vq ol vc) ?_ ((fun _ _ _=>rfl)) ?_
     ·intro _ y;have c0:=(cB (y _ (qJ c0) d4)).trans c0;go_simp
     refine wTk 6 79 (.agg #[.string ⟨Dn.toArray⟩, .int .i64 Dw, .bool Ds, .int .i64 J]) ?_ ((fun _ _ _=>rfl)) ?_
     ·intro _ y;have v0:=(cB (y _ (qJ v0) f5)).trans v0;have v1:=(cB (y _ (qJ v1) f5)).trans v1;have v2:=(cB (y _ (qJ v2) f5)).trans v2;have v3:=(cB (y _ (qJ v3) f5)).trans v3;go_simp
     refine wOn 7 fun K s=>?_
     go_simp;refine kK s (fun b hb _=>Below.heap_alloc w6.drew _ b hb) ?_;clear s K;refine wOn 8 fun K s=>?_
     refine qQJ (lo:=L) (dd:=81) (news:=qQe ⟨Dn,(Dw,Ds),J⟩) underlying27 info42 (by decide) rfl (by decide) _ _ rfl rfl r9.o.drew (by simp;omega) rfl rfl rfl rfl (qVo _) (by omega) (fun v9 w9 ho9 hg9 hbk9=>?_);obtain⟨q9,c9,rfl⟩:∃ q c,v9=.slice q (ol+1) c:=by
      rcases ho9.2 with⟨_,h0⟩ | ⟨g,M8,T2,rfl,_⟩
      ·omega
      ·exact⟨_,_,rfl⟩
     have S9:∀ b,b < w6.1.size->some b≠(Value.slice vq ol vc).ownBlock->w9.1[b]? = w6.1[b]?:=fun b hb f4=>(hg9.block b (by simp;omega) f4).trans (Below.heap_alloc w6.drew _ b hb)
     refine kK s S9 ?_;clear s K;refine wOn 9 fun K s=>?_
     go_simp;refine kK s S9 ?_;clear s K;try simp only[Act.put,pZa,pZb,pZc]
     refine wOn 10 fun K s=>?_
     go_simp;refine kK s S9 ?_;clear s K;try simp only[Act.put,pZa,pZb,pZc]
     refine wOn 11 fun K s=>?_
     go_simp;refine kK s S9 ?_;clear s K;try simp only[Act.put,pZa,pZb,pZc]
     have r8:B < w6.1.size:=qJ c0;have t8:=(cB (S9 B r8 d4)).trans c0;have G4:w9.frozen? ⟨B,0,none⟩=false:=(World.frozen?_of_block (S9 B r8 d4)).trans ((World.frozen?_of_block (g5.o B g0 f7)).trans (I.o.bf 0 (by omega)));have T0:w6.1.size+1<=w9.1.size:=by have:=hg9.size;simpa using this
     refine wOn 12 fun K s=>?_
     go_simp;refine kD s ?_;clear s K;refine wDn ?_ _;have F3:=hI ho9;have p5:=hI hg9;have n8:=hI hbk9;have r3:=hI S9;have N8:=hlo.2.1;have G3:=hI t8;clear c0 v0 v1 v2 v3 t8 G4 ho9 hg9 hbk9 S9;go_wp2
     go_end0;have base:∀ b,b < Z.1.size->b≠B->b≠Mg->some b≠gv.ownBlock->(w9.setCell ⟨B,0,none⟩ (.slice q9 (ol+1) c9)).1[b]? = Z.1[b]?:=fun b hb h1 h2 h3=>by
      rw[hS _ _ _ _ h1];refine(r3.o b (by omega) ?_).trans (g5.o b hb h2);rw[<-n6.o];exact h3
     have hT:jW L w (w9.setCell ⟨B,0,none⟩ (.slice q9 (ol+1) c9)):=G1.o.trans ⟨(rfl:(w9.setCell ⟨B,0,none⟩ (.slice q9 (ol+1) c9)).os=w9.os).trans (p5.o.os.trans r1.o.os),by simpa using p5.o.tape.trans r1.o.tape,(rfl:(w9.setCell ⟨B,0,none⟩ (.slice q9 (ol+1) c9)).output=w9.output).trans (p5.o.output.trans r1.o.output),by simp;omega,fun b hb hbL=>base b hb (by omega) (by have:=H0.o.lo;omega) (fun e=>by have:=(H0.o.grow.lt b e.symm).1;omega)⟩;refine wP.okI (gv:=.slice q9 (ol+1) c9) (fv:=fv) G6.o ?_ hT;have t7:(w9.setCell ⟨B,0,none⟩ (.slice q9 (ol+1) c9)).1.size=w9.1.size:=by simp
     have p4:∀ b,b < Z.1.size->b≠Mg->some b≠(Value.slice vq ol vc).ownBlock->w9.1[b]? = Z.1[b]?:=fun b hb h2 h3=>(r3.o b (by omega) h3).trans (g5.o b hb h2)
     refine I.o.glob (gv':=.slice q9 (ol+1) c9) (d:=⟨Dn,(Dw,Ds),J⟩) (by rw[t7];omega) base (World.cell?_setCell_same _ _ _ G3.o) ?_ ?_ ?_ ?_ ?_ ?_ ?_ F8
     ·intro o ho;exact(World.cell?_setCell_other _ _ _ _ (by simpa using Ne.symm ho)).trans (cB (p4 B g0 f7 d4))
     ·intro o;exact(World.frozen?_setCell _ _ _ _).trans (World.frozen?_of_block (p4 B g0 f7 d4))
     ·exact(I.o.kb.turn (p4 B g0 f7 d4)).set _ _ _
     ·refine wY.kept F5.o ?_;rw[hS _ _ _ _ f7.symm];exact r3.o Mg (by have:=I.o.gm.lt;omega) (fun e=>vU hM (f8 Mg e.symm).1 rfl)
     ·rw[<-p1.o];refine zU F3.o (fun g hg=>hS _ _ _ _ ?_);rcases n8.o with h1 | h1
      ·rw[h1]at hg;exact(I.o.kb.ne (f8 g hg).1 (by decide)).symm
      ·rw[h1]at hg;injection hg with hg;simp at hg;show g≠B
       omega
     ·rcases n8.o with h1 | h1
      ·left;rw[h1,n6.o]
      ·right;exact⟨_,by simp;omega,h1⟩
     ·rw[qWM,<-hn]
    ·have m1:ft=false:=by rw[D3.o,t1.o];simp[F1,G9]
     have M2:16 < J:=by omega
     have t3:=hI (D2.o.trans (by rw[m1];rfl:_=(yF ⟨gs,fs.map (fun f=>f.h)⟩ (.mk k x m ln co ks)).bind fun _=>.bad ll lc 42));obtain⟨n0,n1,n2,n3,n4,n5⟩:=p0.o.cells;have s9:=hI (fun w'=>qQ5 (.mk lk lx J ll lc D9) (.slice lq f6 f9) 42 w');try simp only[qZ,qS,qQ.kind,qQ.text,qQ.num,qQ.line,qQ.col,qQ.kids]at s9 n0 n1 n2 n3 n4 n5
     go_wp2
     refine wRg (S:=fun w'=>Below w3.1.size w3 w') 10 ?_;refine wTk 0 44 (.bool false) ?_ (bD w3) ?_
     ·intro _ y;go_simp
     refine wTk 1 45 (.bool true) ?_ (bD w3) ?_
     ·intro _ y;go_simp
     refine wTk 2 46 (.bool true) ?_ (bD w3) ?_
     ·intro _ y;go_simp
     refine xG (i:=3) (d:=47) rfl rfl (by kernel_rfl) (fun _ _ _ h=>h) (by rfl) ((Below.refl w3.1.size w3).drew) ?_;try simp only[Act.put,pZa,pZb,pZc]
     refine xG (i:=4) (d:=48) rfl rfl (by kernel_rfl) (fun _ _ _ h=>h) (by rfl) ((Below.refl w3.1.size w3).drew) ?_;try simp only[Act.put,pZa,pZb,pZc]
     refine xG (i:=5) (d:=49) rfl rfl (by kernel_rfl) (fun _ _ _ h=>h) (by rfl) ((Below.refl w3.1.size w3).drew) ?_;try simp only[Act.put,pZa,pZb,pZc]
     refine xG (i:=6) (d:=50) rfl rfl (by kernel_rfl) (fun _ _ _ h=>h) (by rfl) ((Below.refl w3.1.size w3).drew) ?_;try simp only[Act.put,pZa,pZb,pZc]
     refine xG (i:=7) (d:=51) rfl rfl (by kernel_rfl) (fun _ _ _ h=>h) (by rfl) ((Below.refl w3.1.size w3).drew) ?_;try simp only[Act.put,pZa,pZb,pZc]
     refine wTk 8 52 (.bool true) ?_ (bD w3) ?_
     ·intro _ y;go_simp
     refine wTk 9 53 (.agg #[.string ⟨k.toArray⟩, .string ⟨x.toArray⟩, .int .u64 m, .int .i64 ln, .int .i64 co, .slice (some ⟨g2,d2,none⟩) (p+1) c]) ?_ (bD w3) ?_
     ·intro _ y;obtain⟨n0,n1,n2,n3,n4,n5⟩:=kP6 y n0 n1 n2 n3 n4 n5;go_simp
     refine wOn 10 fun K s=>?_
     go_simp;refine(D7.o true 45 _).mono ?_;rintro e w4 (⟨_,rfl,hb4⟩ | ⟨hbt,_⟩);rotate_left
     ·cases hbt
     have hb4:=zF hb4;have g4:=hI (D6.o.below hb4);have O:=hI (Y.o.trans (hb4.mono (by omega)));have m5:=hI (p0.o.below hb4);have g3:=hI (n9.o.below hb4);have G0:=hb4.size;refine kD s ?_;clear s K hb4 n0 n1 n2 n3 n4 n5 y0 y2 v0 v1 v2 v3 D5;try simp only[Act.put,pZa,pZb,pZc]
     refine wDn ?_ _;obtain⟨n0,n1,n2,n3,n4,n5⟩:=m5.o.cells;try simp only[qQ.kind,qQ.text,qQ.num,qQ.line,qQ.col,qQ.kids]at n0 n1 n2 n3 n4 n5
     have⟨y0,y1,y2,y3,y4,y5,_⟩:=g3.o.a;go_wp2_with fail
     refine(D8.o _ _ g4.o).mono ?_;rintro e w5 hX;rcases hX.cases with⟨a,u',hp,rfl,rfl,hb5⟩ | ⟨l',c',code,hp,rfl,hb5⟩;rotate_left
     ·exact⟨rfl,wP.badI (by rw[t3.o,hp];rfl) (jW.of_below (O.o.trans (hb5.mono O.o.size)))⟩
     have F7:=hI (g3.o.below hb5);have m2:=hI (O.o.trans (hb5.mono O.o.size));have G2:=hI (t3.o.trans (by rw[hp];rfl:_=.bad ll lc 42));clear n0 n1 n2 n3 n4 n5 y0 y1 y2 y3 y4 y5 hX hp hb5;have⟨y0,y1,y2,y3,y4,y5,_⟩:=F7.o.a;go_wp2_with fail
     refine(s9.o _).mono ?_;rintro e w6 ⟨rfl,F9⟩;exact⟨rfl,wP.badI G2.o (jW.of_below (m2.o.trans (F9.mono m2.o.size)))⟩
   ·have m1:ft=false:=by rw[D3.o,t1.o];simp[F1]
    have M2:J < 1:=by omega
    have t3:=hI (D2.o.trans (by rw[m1];rfl:_=(yF ⟨gs,fs.map (fun f=>f.h)⟩ (.mk k x m ln co ks)).bind fun _=>.bad ll lc 42));obtain⟨n0,n1,n2,n3,n4,n5⟩:=p0.o.cells;have s9:=hI (fun w'=>qQ5 (.mk lk lx J ll lc D9) (.slice lq f6 f9) 42 w');try simp only[qZ,qS,qQ.kind,qQ.text,qQ.num,qQ.line,qQ.col,qQ.kids]at s9 n0 n1 n2 n3 n4 n5
    go_wp2
    refine wRg (S:=fun w'=>Below w3.1.size w3 w') 10 ?_;refine wTk 0 44 (.bool false) ?_ (bD w3) ?_
    ·intro _ y;go_simp
    refine wTk 1 45 (.bool true) ?_ (bD w3) ?_
    ·intro _ y;go_simp
    refine wTk 2 46 (.bool true) ?_ (bD w3) ?_
    ·intro _ y;go_simp
    refine xG (i:=3) (d:=47) rfl rfl (by kernel_rfl) (fun _ _ _ h=>h) (by rfl) ((Below.refl w3.1.size w3).drew) ?_;try simp only[Act.put,pZa,pZb,pZc]
    refine xG (i:=4) (d:=48) rfl rfl (by kernel_rfl) (fun _ _ _ h=>h) (by rfl) ((Below.refl w3.1.size w3).drew) ?_;try simp only[Act.put,pZa,pZb,pZc]
    refine xG (i:=5) (d:=49) rfl rfl (by kernel_rfl) (fun _ _ _ h=>h) (by rfl) ((Below.refl w3.1.size w3).drew) ?_;try simp only[Act.put,pZa,pZb,pZc]
    refine xG (i:=6) (d:=50) rfl rfl (by kernel_rfl) (fun _ _ _ h=>h) (by rfl) ((Below.refl w3.1.size w3).drew) ?_;try simp only[Act.put,pZa,pZb,pZc]
    refine xG (i:=7) (d:=51) rfl rfl (by kernel_rfl) (fun _ _ _ h=>h) (by rfl) ((Below.refl w3.1.size w3).drew) ?_;try simp only[Act.put,pZa,pZb,pZc]
    refine wTk 8 52 (.bool true) ?_ (bD w3) ?_
    ·intro _ y;go_simp
    refine wTk 9 53 (.agg #[.string ⟨k.toArray⟩, .string ⟨x.toArray⟩, .int .u64 m, .int .i64 ln, .int .i64 co, .slice (some ⟨g2,d2,none⟩) (p+1) c]) ?_ (bD w3) ?_
    ·intro _ y;obtain⟨n0,n1,n2,n3,n4,n5⟩:=kP6 y n0 n1 n2 n3 n4 n5;go_simp
    refine wOn 10 fun K s=>?_
    go_simp;refine(D7.o true 45 _).mono ?_;rintro e w4 (⟨_,rfl,hb4⟩ | ⟨hbt,_⟩);rotate_left
    ·cases hbt
    have hb4:=zF hb4;have g4:=hI (D6.o.below hb4);have O:=hI (Y.o.trans (hb4.mono (by omega)));have m5:=hI (p0.o.below hb4);have g3:=hI (n9.o.below hb4);have G0:=hb4.size;refine kD s ?_;clear s K hb4 n0 n1 n2 n3 n4 n5 y0 y2 v0 v1 v2 v3 D5;try simp only[Act.put,pZa,pZb,pZc]
    refine wDn ?_ _;obtain⟨n0,n1,n2,n3,n4,n5⟩:=m5.o.cells;try simp only[qQ.kind,qQ.text,qQ.num,qQ.line,qQ.col,qQ.kids]at n0 n1 n2 n3 n4 n5
    have⟨y0,y1,y2,y3,y4,y5,_⟩:=g3.o.a;go_wp2_with fail
    refine(D8.o _ _ g4.o).mono ?_;rintro e w5 hX;rcases hX.cases with⟨a,u',hp,rfl,rfl,hb5⟩ | ⟨l',c',code,hp,rfl,hb5⟩;rotate_left
    ·exact⟨rfl,wP.badI (by rw[t3.o,hp];rfl) (jW.of_below (O.o.trans (hb5.mono O.o.size)))⟩
    have F7:=hI (g3.o.below hb5);have m2:=hI (O.o.trans (hb5.mono O.o.size));have G2:=hI (t3.o.trans (by rw[hp];rfl:_=.bad ll lc 42));clear n0 n1 n2 n3 n4 n5 y0 y1 y2 y3 y4 y5 hX hp hb5;have⟨y0,y1,y2,y3,y4,y5,_⟩:=F7.o.a;go_wp2_with fail
    refine(s9.o _).mono ?_;rintro e w6 ⟨rfl,F9⟩;exact⟨rfl,wP.badI G2.o (jW.of_below (m2.o.trans (F9.mono m2.o.size)))⟩
end Go.Proofs.YtiajhekdhhhghaaGreatDoor
