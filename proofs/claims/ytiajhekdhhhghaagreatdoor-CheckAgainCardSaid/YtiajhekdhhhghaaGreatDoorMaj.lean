/- Walks. -/
import Derived.Test.YtiajhekdhhhghaaGreatDoorMai
set_option linter.all false
set_option maxHeartbeats 8000000
set_option maxRecDepth 100000
namespace Go.Proofs.YtiajhekdhhhghaaGreatDoor
open Tryz Go.Proofs.Tryz
open Go Go.RowKit
theorem jR{b N o:Nat}{a w:World}(h:Below b a w)(hN:b<=N)(u:Value):Below b a (w.setCell ⟨N,o,none⟩ u):=h.setCell (p:=⟨N,o,none⟩) hN u
theorem set9{b N:Nat}{a w:World}(h:Below b a w)(hN:b<=N)(u0 u1 u2 u3 u4 u5 u6 u7 u8:Value):Below b a (((((((((w.setCell ⟨N,0,none⟩ u0).setCell ⟨N,1,none⟩ u1).setCell ⟨N,2,none⟩ u2).setCell ⟨N,3,none⟩ u3).setCell ⟨N,4,none⟩ u4).setCell ⟨N,5,none⟩ u5).setCell ⟨N,6,none⟩ u6).setCell ⟨N,7,none⟩ u7).setCell ⟨N,8,none⟩ u8) :=
 jR (jR (jR (jR (jR (jR (jR (jR (jR h hN _) hN _) hN _) hN _) hN _) hN _) hN _) hN _) hN _
structure qQf(N:Nat)(op:List UInt8)(T:Ty)(n va:Int)(g:Bool)(l c:Int)(kv:Value)(w:World):Prop where
 c0:w.cell? ⟨N,0,none⟩=some (.string ⟨op.toArray⟩)
 c1:w.cell? ⟨N,1,none⟩=some (.int .i64 T.1)
 c2:w.cell? ⟨N,2,none⟩=some (.bool T.2)
 c3:w.cell? ⟨N,3,none⟩=some (.int .u64 n)
 c4:w.cell? ⟨N,4,none⟩=some (.int .i64 va)
 c5:w.cell? ⟨N,5,none⟩=some (.bool g)
 c6:w.cell? ⟨N,6,none⟩=some (.int .i64 l)
 c7:w.cell? ⟨N,7,none⟩=some (.int .i64 c)
 c8:w.cell? ⟨N,8,none⟩=some kv
 f:∀ k,k < 9->w.frozen? ⟨N,k,none⟩=false
theorem qQf.a{N:Nat}{op:List UInt8}{T:Ty}{n va:Int}{g:Bool}{l c:Int}{kv:Value}{w:World}(h:qQf N op T n va g l c kv w):w.cell? ⟨N,0,none⟩=some (.string ⟨op.toArray⟩)/\w.cell? ⟨N,1,none⟩=some (.int .i64 T.1)/\w.cell? ⟨N,2,none⟩=some (.bool T.2)/\w.cell? ⟨N,3,none⟩=some (.int .u64 n)/\w.cell? ⟨N,4,none⟩=some (.int .i64 va)/\w.cell? ⟨N,5,none⟩=some (.bool g)/\w.cell? ⟨N,6,none⟩=some (.int .i64 l)/\w.cell? ⟨N,7,none⟩=some (.int .i64 c)/\w.cell? ⟨N,8,none⟩=some kv/\True:=⟨h.c0,h.c1,h.c2,h.c3,h.c4,h.c5,h.c6,h.c7,h.c8,trivial⟩
theorem qQf.b{N:Nat}{op:List UInt8}{T:Ty}{n va:Int}{g:Bool}{l c:Int}{kv:Value}{w:World}(h:qQf N op T n va g l c kv w):w.frozen? ⟨N,0,none⟩=false/\w.frozen? ⟨N,1,none⟩=false/\w.frozen? ⟨N,2,none⟩=false/\w.frozen? ⟨N,3,none⟩=false/\w.frozen? ⟨N,4,none⟩=false/\w.frozen? ⟨N,5,none⟩=false/\w.frozen? ⟨N,6,none⟩=false/\w.frozen? ⟨N,7,none⟩=false/\w.frozen? ⟨N,8,none⟩=false/\True:=⟨h.f 0 (by decide),h.f 1 (by decide),h.f 2 (by decide),h.f 3 (by decide),h.f 4 (by decide),h.f 5 (by decide),h.f 6 (by decide),h.f 7 (by decide),h.f 8 (by decide),trivial⟩
def exO(op:List UInt8)(T:Ty)(n va:Int)(g:Bool)(l c:Int)(kv:Value):Obj:=.cells #[.string ⟨op.toArray⟩, .int .i64 T.1, .bool T.2, .int .u64 n, .int .i64 va, .bool g, .int .i64 l, .int .i64 c,kv] 76
section
variable {N:Nat} {op:List UInt8} {T:Ty} {n va:Int} {g:Bool} {l c:Int} {kv:Value} {w w':World}
theorem qQf.new(op:List UInt8)(T:Ty)(n va:Int)(g:Bool)(l c:Int)(kv:Value)(w:World):qQf w.1.size op T n va g l c kv (w.alloc (exO op T n va g l c kv)):=by
 unfold exO;constructor
 case f=>intro k hk;match k,hk with | 0,_=>simp[go_sem] | 1,_=>simp[go_sem] | 2,_=>simp[go_sem] | 3,_=>simp[go_sem] | 4,_=>simp[go_sem] | 5,_=>simp[go_sem] | 6,_=>simp[go_sem] | 7,_=>simp[go_sem] | 8,_=>simp[go_sem]
 all_goals simp[go_sem]
theorem qQf.lt(h:qQf N op T n va g l c kv w):N < w.1.size:=qJ h.c0
theorem qQf.below(h:qQf N op T n va g l c kv w)(hb:Below w.1.size w w'):qQf N op T n va g l c kv w' :=
 have k:∀ {p:Addr} {v:Value},w.cell? p=some v->w'.cell? p=some v:=fun e=>kP hb e
 ⟨k h.c0,k h.c1,k h.c2,k h.c3,k h.c4,k h.c5,k h.c6,k h.c7,k h.c8,fun j hj=>(hb.frozen h.lt).trans (h.f j hj)⟩
end
theorem qUq(B:Nat)(E:Env)(t:qQ)(v:Value)(w:World)(h:EAt B E w)(hx:t.text.length<=1000000) :
 Calls prog 153 #[.pointer (some ⟨B,0,none⟩),qZ t v] w (zP (qQ1 E t) (fun a u _=>u=exV a (.slice none 0 0)) w):=by
 have HB:=hI (bal (bal (Below.refl w.1.size w) (qB t v)) (exO [] noT 0 0 false 0 0 (.slice none 0 0)));have HC:=hI (qPz B E t v _ (h.below HB.o) hx);have HN:=hI ((Bx.new t v w).below (bal (Below.refl _ _) (exO [] noT 0 0 false 0 0 (.slice none 0 0))));have HT:=hI (qQf.new [] noT 0 0 false 0 0 (.slice none 0 0) (w.alloc (qB t v)));simp only[World.size_alloc]at HT;have hsz:((w.alloc (qB t v)).alloc (exO [] noT 0 0 false 0 0 (.slice none 0 0))).1.size=w.1.size+2:=by simp
 clear h;obtain⟨k,x,m,ln,co,ks⟩:=t;have HP:=hI (show qQ1 E (.mk k x m ln co ks)=(qZD E (.mk k x m ln co ks)).bind fun r=>(jQ ((k == qL) == decide (0 < r.1.size)) (.mk k x m ln co ks) 41).bind fun _=>.ok (.mk (if k == qL then qL else sVar) r.1.t 0 r.2.1 r.2.2 ln co [])from rfl);simp only[qZ,qB,exO,qS,noT,tQ]at *;go_enter func153,ntmps153
 go_wp2_with fail
 refine(HC.o).mono ?_;rintro e w2 hX;rcases hX.cases with⟨a,u,hp,rfl,rfl,hb2⟩ | ⟨l',c',code,hp,rfl,hb2⟩;rotate_left
 ·exact⟨rfl,zP.badI (by rw[HP.o,hp];rfl) ⟨rfl,HB.o.trans (hb2.mono HB.o.size)⟩⟩
 obtain⟨⟨nm,⟨T0,T1⟩,sz⟩,i,g⟩:=a;unfold qWS qXK;have HP:=hI (HP.o.trans (by rw[hp];rfl:_=(jQ ((k == qL) == decide (0 < sz)) (.mk k x m ln co ks) 41).bind fun _=>.ok (.mk (if k == qL then qL else sVar) (T0,T1) 0 i g ln co [])));have hN2:=HN.o.below hb2;have hT2:=HT.o.below hb2;have HW2:=hI (HB.o.trans (hb2.mono HB.o.size));have hl2:=hT2.lt;have hl1:=hN2.lt;have HY:=fun b=>hI (fun w'=>qQk b (.mk k x m ln co ks) v 41 w')
 simp only[qZ,tQ]at HY;have HN2:=hI hN2;have HT2:=hI hT2;obtain⟨n0,n1,n2,n3,n4,n5⟩:=hN2.cells;clear hX HC hp hb2 HN HT HB hN2 hT2;have HA:=hI (bal (Below.refl w2.1.size w2) (.cells #[.string ⟨nm.toArray⟩, .int .i64 T0, .bool T1, .int .i64 sz] 42));have HV:=hI (qQB.new ⟨nm,(T0,T1),sz⟩ w2);simp only[qQe]at HV;cases hk:(k == qL);case false =>
  have HK:=hI hk;unfold qL at hk;go_wp2_with fail
  refine((HY _).out _).mono ?_;rintro e w3 (⟨hbt,rfl,hb3⟩ | ⟨hbt,rfl,hb3⟩);rotate_left
  ·refine⟨rfl,zP.badI (ln:=ln) (co:=co) (code:=41) ?_ ⟨rfl,HW2.o.trans ((HA.o.trans (hb3.mono (by simp))).mono HW2.o.size)⟩⟩;rw[HP.o,HK.o];by_cases hs:0 < sz
   all_goals first | (exfalso;simp[hs]at hbt;done) | (exfalso;simp at hbt;omega) | simp[jQ,CR.bind,hs,qQ.line,qQ.col]
  have HQ:qQ1 E (.mk k x m ln co ks)=.ok (.mk (if k == qL then qL else sVar) (T0,T1) 0 i g ln co []):=by
   rw[HP.o,HK.o];by_cases hs:0 < sz
   all_goals first | (exfalso;simp[hs]at hbt;done) | (exfalso;simp at hbt;omega) | simp[jQ,CR.bind,hs,qQ.line,qQ.col]
  rw[HK.o]at HQ;simp only[bF,if_true,if_false,reduceIte]at HQ;have HQ:=hI HQ;have HB3:=hI (HA.o.trans (hb3.mono (by simp)));have hV3:=HV.o.below hb3;have⟨v0,v1,v2,v3,_⟩:=hV3.a;obtain⟨n0,n1,n2,n3,n4,n5⟩:=(HN2.o.below HB3.o).cells;have hT3:=HT2.o.below HB3.o;have⟨r0,r1,r2,r3,r4,r5,r6,r7,r8,_⟩:=hT3.a;have⟨g0,g1,g2,g3,g4,g5,g6,g7,g8,_⟩:=hT3.b;have HW3:=hI (HW2.o.trans (HB3.o.mono HW2.o.size));clear hbt hb3 hV3 hT3 HY HP;go_wp2
  refine bodyPost_ret (v:=exV (.mk sVar (T0,T1) 0 i g ln co []) (.slice none 0 0)) (by simp[results,results153,go_sem,exV,sVar,r0,r1,r2,r3,r4,r5,r6,r7,r8]) rfl (zP.okI HQ.o rfl ?_);exact set9 HW3.o (Nat.le_add_right _ _) _ _ _ _ _ _ _ _ _
 case true =>
  have HK:=hI hk;unfold qL at hk;go_wp2_with fail
  refine((HY _).out _).mono ?_;rintro e w3 (⟨hbt,rfl,hb3⟩ | ⟨hbt,rfl,hb3⟩);rotate_left
  ·refine⟨rfl,zP.badI (ln:=ln) (co:=co) (code:=41) ?_ ⟨rfl,HW2.o.trans ((HA.o.trans (hb3.mono (by simp))).mono HW2.o.size)⟩⟩;rw[HP.o,HK.o];by_cases hs:0 < sz
   all_goals first | (exfalso;simp[hs]at hbt;done) | (exfalso;simp at hbt;omega) | simp[jQ,CR.bind,hs,qQ.line,qQ.col]
  have HQ:qQ1 E (.mk k x m ln co ks)=.ok (.mk (if k == qL then qL else sVar) (T0,T1) 0 i g ln co []):=by
   rw[HP.o,HK.o];by_cases hs:0 < sz
   all_goals first | (exfalso;simp[hs]at hbt;done) | (exfalso;simp at hbt;omega) | simp[jQ,CR.bind,hs,qQ.line,qQ.col]
  rw[HK.o]at HQ;simp only[bF,if_true,if_false,reduceIte]at HQ;have HQ:=hI HQ;have HB3:=hI (HA.o.trans (hb3.mono (by simp)));have hV3:=HV.o.below hb3;have⟨v0,v1,v2,v3,_⟩:=hV3.a;obtain⟨n0,n1,n2,n3,n4,n5⟩:=(HN2.o.below HB3.o).cells;have hT3:=HT2.o.below HB3.o;have⟨r0,r1,r2,r3,r4,r5,r6,r7,r8,_⟩:=hT3.a;have⟨g0,g1,g2,g3,g4,g5,g6,g7,g8,_⟩:=hT3.b;have HW3:=hI (HW2.o.trans (HB3.o.mono HW2.o.size));clear hbt hb3 hV3 hT3 HY HP;go_wp2
  refine bodyPost_ret (v:=exV (.mk qL (T0,T1) 0 i g ln co []) (.slice none 0 0)) (by simp[results,results153,go_sem,exV,qL,r0,r1,r2,r3,r4,r5,r6,r7,r8]) rfl (zP.okI HQ.o rfl ?_);exact set9 HW3.o (Nat.le_add_right _ _) _ _ _ _ _ _ _ _ _
theorem qVE(B L:Nat)(E:Env)(ks:List qQ)(q:Option Addr)(c:Nat)(w:World)(hw:qZV ks=true)(hrec:∀ t∈ks,qXL t)(h:EAt B E w)(hL:L<=w.1.size)(hK:yD L w ks q)(hn:ks.length<=900000) :
 Calls prog 154 #[.pointer (some ⟨B,0,none⟩), .slice q ks.length c] w (zP (qQL E ks) (fun a u w'=>qU w' (fun g=>w.1.size<=g) a u) w):=by
 by_cases h0:ks.length=0
 ·have HP:=hI (show qQL E ks=.ok [] by unfold qQL;rw[if_pos h0]);rw[h0];go_enter func154,ntmps154
  go_wp2
  go_ret;exact zP.okI HP.o (qU.nil _ _) (Below.refl _ _)
 ·have HP:=hI (show qQL E ks=(yB E ks).bind fun u=>(jQ (decide (u≠zO)) (ks.headD (.mk [] [] 0 0 0 [])) 41).bind fun _=>vD E ks u by unfold qQL;rw[if_neg h0]);have HC:=hI (qKD B L E ks q c w (qJV ks hw) h hL hK (by omega));have H0:=hI h;have HK:=hI hK;have HR:=hI hrec;have hne:¬(ks.length:Int)=0:=by omega
  obtain⟨t,r,hks⟩:∃ t r,ks=t :: r:=by cases ks with | nil=>simp at h0 | cons t r=>exact⟨t,r,rfl⟩
  have HKS:=hI hks;have hlen:0 < ks.length:=by omega
  clear h hK hrec hw hks;go_enter func154,ntmps154
  go_wp2_with fail
  refine(HC.o).mono ?_;rintro e w2 hX;rcases hX.cases with⟨a,u,hp,rfl,rfl,hb2⟩ | ⟨l',c',code,hp,rfl,hb2⟩;rotate_left
  ·exact⟨rfl,zP.badI (by rw[HP.o,hp];rfl) ⟨rfl,hb2⟩⟩
  obtain⟨T0,T1⟩:=a;have HP:=hI (HP.o.trans (by rw[hp,show ks.headD (.mk [] [] 0 0 0 [])=t by rw[HKS.o];rfl];rfl:_=(jQ (decide (((T0,T1):Ty)≠zO)) t 41).bind fun _=>vD E ks (T0,T1)));have HB3:=hI (hb2.trans ((bal (Below.refl w2.1.size w2) (tyO (T0,T1))).mono hb2.size));have HT:=hI (qZ7.new (T0,T1) w2);have hs2:=hb2.size;have hsz:(w2.alloc (tyO (T0,T1))).1.size=w2.1.size+1:=by simp
  have HE:=hI (H0.o.below HB3.o);have HK3:=hI (HK.o.keep (HB3.o.mono hL));clear hX HC hp hb2;unfold tyV;unfold tyO at *;simp only at *;go_wp2
  generalize (w2.alloc _)=W at *;obtain⟨g,off,rfl,hR⟩:=HK3.o.resolve_left (fun e=>by rw[e]at hlen;simp at hlen);obtain⟨qa,na,ca,hla,hca⟩:=hR.2 0 hlen;have et:ks[0]=t:=by have:=HKS.o;subst this;rfl
  rw[et]at hca hla;simp only[Nat.zero_mul,Nat.add_zero]at hca;have⟨k0,k1,k2,k3,k4,k5,_⟩:=hca.a;have t0:=HT.o.c0;have t1:=HT.o.c1;obtain⟨gv,vv,Mg,Mo,Mr,F,o,cl,hE⟩:=HE.o;have d0:=hE.b0;have d1:=hE.b1;clear hE hca hla hR;have hG:1 < W.1.size:=qJ d0;have HNY:=hI (fun w'=>qQl t (.slice qa na ca) 41 w');have HNN:=hI (fun w'=>qQ5 t (.slice qa na ca) 41 w');unfold qZ at HNY HNN;by_cases hz:T0=1
  ·subst hz;cases T1
   ·skip
    refine wRg (S:=fun w'=>Below W.1.size W w') 6 ?_;refine wTk 0 12 (.agg #[.int .i64 1, .bool false]) ?_ (bD W) ?_
    ·intro _ y;obtain⟨t0,t1,d0,d1,k0,k1,k2,k3,k4,k5⟩:=kP10 y t0 t1 d0 d1 k0 k1 k2 k3 k4 k5;go_simp
    refine wTk 1 13 (.agg #[.int .i64 1, .bool false]) ?_ (bD W) ?_
    ·intro _ y;obtain⟨t0,t1,d0,d1,k0,k1,k2,k3,k4,k5⟩:=kP10 y t0 t1 d0 d1 k0 k1 k2 k3 k4 k5;go_simp
    refine wTk 2 14 (.bool false) ?_ (bD W) ?_
    ·intro _ y;obtain⟨t0,t1,d0,d1,k0,k1,k2,k3,k4,k5⟩:=kP10 y t0 t1 d0 d1 k0 k1 k2 k3 k4 k5;go_simp
    refine wTk 3 15 (.slice (some ⟨g,off,none⟩) ks.length c) ?_ (bD W) ?_
    ·intro _ y;go_simp
    refine wTk 4 16 (.pointer (some ⟨g,off,none⟩)) ?_ (bD W) ?_
    ·intro _ y;go_simp
    refine wTk 5 17 (.agg #[.string ⟨t.kind.toArray⟩, .string ⟨t.text.toArray⟩, .int .u64 t.num, .int .i64 t.line, .int .i64 t.col, .slice qa na ca]) ?_ (bD W) ?_
    ·intro _ y;obtain⟨t0,t1,d0,d1,k0,k1,k2,k3,k4,k5⟩:=kP10 y t0 t1 d0 d1 k0 k1 k2 k3 k4 k5;go_simp
    refine wOn 6 fun K hK=>?_
    go_simp;refine(HNN.o _).mono ?_;rintro e w3 ⟨rfl,hb3⟩;exact⟨rfl,zP.badI (by rw[HP.o];rfl) ⟨rfl,HB3.o.trans ((zF hb3).mono HB3.o.size)⟩⟩
   ·skip
    refine wRg (S:=fun w'=>Below W.1.size W w') 6 ?_;refine wTk 0 12 (.agg #[.int .i64 1, .bool true]) ?_ (bD W) ?_
    ·intro _ y;obtain⟨t0,t1,d0,d1,k0,k1,k2,k3,k4,k5⟩:=kP10 y t0 t1 d0 d1 k0 k1 k2 k3 k4 k5;go_simp
    refine wTk 1 13 (.agg #[.int .i64 1, .bool false]) ?_ (bD W) ?_
    ·intro _ y;obtain⟨t0,t1,d0,d1,k0,k1,k2,k3,k4,k5⟩:=kP10 y t0 t1 d0 d1 k0 k1 k2 k3 k4 k5;go_simp
    refine wTk 2 14 (.bool true) ?_ (bD W) ?_
    ·intro _ y;obtain⟨t0,t1,d0,d1,k0,k1,k2,k3,k4,k5⟩:=kP10 y t0 t1 d0 d1 k0 k1 k2 k3 k4 k5;go_simp
    refine wTk 3 15 (.slice (some ⟨g,off,none⟩) ks.length c) ?_ (bD W) ?_
    ·intro _ y;go_simp
    refine wTk 4 16 (.pointer (some ⟨g,off,none⟩)) ?_ (bD W) ?_
    ·intro _ y;go_simp
    refine wTk 5 17 (.agg #[.string ⟨t.kind.toArray⟩, .string ⟨t.text.toArray⟩, .int .u64 t.num, .int .i64 t.line, .int .i64 t.col, .slice qa na ca]) ?_ (bD W) ?_
    ·intro _ y;obtain⟨t0,t1,d0,d1,k0,k1,k2,k3,k4,k5⟩:=kP10 y t0 t1 d0 d1 k0 k1 k2 k3 k4 k5;go_simp
    refine wOn 6 fun K hK=>?_
    go_simp;refine(HNY.o _).mono ?_;rintro e w3 ⟨rfl,hb3⟩;refine kD hK ?_;clear hK K;refine wDn ?_ _;have hbW:=zF hb3;have HWW:=hI (HB3.o.trans (hbW.mono HB3.o.size));have HP:=hI (HP.o.trans (by rw[show decide (((1,true):Ty)≠zO)=true from by simp[zO]];rfl:_=vD E ks (1,true)));have HX:=hI (qZs B L E ks (some ⟨g,off,none⟩) c (1,true) w3 HR.o (HE.o.below hbW) (by have:=hbW.size;omega) (HK3.o.keep (hbW.mono (by omega))) hn);have tt:=HT.o.below hbW;have t0:=tt.c0;have t1:=tt.c1;have hsw:=HWW.o.size;unfold tyV at HX;clear hb3 hbW tt k0 k1 k2 k3 k4 k5 d0 d1 HE HK3 HNY HNN;go_wp2_with fail
    refine(HX.o).mono ?_;rintro e w4 hX;rcases hX.cases with⟨es,u,hp,rfl,hl,hb4⟩ | ⟨l',c',code,hp,rfl,hb4⟩
    ·have HL:=hI (hl.mono (ok':=fun g=>w.1.size<=g) (fun g hg=>by omega));have HW4:=hI (HWW.o.trans (hb4.mono hsw));have HQ:=hI (HP.o.trans hp);clear hX hl hb4 hp HX;go_wp2
     go_ret;exact zP.okI HQ.o HL.o HW4.o
    ·exact⟨rfl,zP.badI (by rw[HP.o,hp]) ⟨rfl,HWW.o.trans (hb4.mono hsw)⟩⟩
  ·have hd:decide (((T0,T1):Ty)≠zO)=true:=by simp[zO,hz]
   refine wRg (S:=fun w'=>Below W.1.size W w') 6 ?_;refine wTk 0 12 (.agg #[.int .i64 T0, .bool T1]) ?_ (bD W) ?_
   ·intro _ y;obtain⟨t0,t1,d0,d1,k0,k1,k2,k3,k4,k5⟩:=kP10 y t0 t1 d0 d1 k0 k1 k2 k3 k4 k5;go_simp
   refine wTk 1 13 (.agg #[.int .i64 1, .bool false]) ?_ (bD W) ?_
   ·intro _ y;obtain⟨t0,t1,d0,d1,k0,k1,k2,k3,k4,k5⟩:=kP10 y t0 t1 d0 d1 k0 k1 k2 k3 k4 k5;go_simp
   refine wTk 2 14 (.bool true) ?_ (bD W) ?_
   ·intro _ y;obtain⟨t0,t1,d0,d1,k0,k1,k2,k3,k4,k5⟩:=kP10 y t0 t1 d0 d1 k0 k1 k2 k3 k4 k5;go_simp
   refine wTk 3 15 (.slice (some ⟨g,off,none⟩) ks.length c) ?_ (bD W) ?_
   ·intro _ y;go_simp
   refine wTk 4 16 (.pointer (some ⟨g,off,none⟩)) ?_ (bD W) ?_
   ·intro _ y;go_simp
   refine wTk 5 17 (.agg #[.string ⟨t.kind.toArray⟩, .string ⟨t.text.toArray⟩, .int .u64 t.num, .int .i64 t.line, .int .i64 t.col, .slice qa na ca]) ?_ (bD W) ?_
   ·intro _ y;obtain⟨t0,t1,d0,d1,k0,k1,k2,k3,k4,k5⟩:=kP10 y t0 t1 d0 d1 k0 k1 k2 k3 k4 k5;go_simp
   refine wOn 6 fun K hK=>?_
   go_simp;refine(HNY.o _).mono ?_;rintro e w3 ⟨rfl,hb3⟩;refine kD hK ?_;clear hK K;refine wDn ?_ _;have hbW:=zF hb3;have HWW:=hI (HB3.o.trans (hbW.mono HB3.o.size));have HP:=hI (HP.o.trans (by rw[show decide (((T0,T1):Ty)≠zO)=true from hd];rfl:_=vD E ks (T0,T1)));have HX:=hI (qZs B L E ks (some ⟨g,off,none⟩) c (T0,T1) w3 HR.o (HE.o.below hbW) (by have:=hbW.size;omega) (HK3.o.keep (hbW.mono (by omega))) hn);have tt:=HT.o.below hbW;have t0:=tt.c0;have t1:=tt.c1;have hsw:=HWW.o.size;unfold tyV at HX;clear hb3 hbW tt k0 k1 k2 k3 k4 k5 d0 d1 HE HK3 HNY HNN;go_wp2_with fail
   refine(HX.o).mono ?_;rintro e w4 hX;rcases hX.cases with⟨es,u,hp,rfl,hl,hb4⟩ | ⟨l',c',code,hp,rfl,hb4⟩
   ·have HL:=hI (hl.mono (ok':=fun g=>w.1.size<=g) (fun g hg=>by omega));have HW4:=hI (HWW.o.trans (hb4.mono hsw));have HQ:=hI (HP.o.trans hp);clear hX hl hb4 hp HX;go_wp2
    go_ret;exact zP.okI HQ.o HL.o HW4.o
   ·exact⟨rfl,zP.badI (by rw[HP.o,hp]) ⟨rfl,HWW.o.trans (hb4.mono hsw)⟩⟩
theorem xG{P:Program}{ops:Array Oper}{Q:Exit->Act->World->Prop}{md:Region.Mode}{S:World->Prop}{tail:Nat->Bool}{i d:Nat}{oi:Oper}{fuel:Nat}{listed:Array Bool}{a:Act}{w:World}(hi:ops[i]? = some oi)(hd:oi.dst=some d)
 (hs:(Region.noSelect ops && Region.free md ops listed i && (Region.ready md ops listed).contains i && qXz md ops tail i && qZM md ops listed && !tail i)=true)
 (hQ:∀ c a w,Q (.panic c) (a.put oi.dst undef) w->Q (.panic c) a w) (hw:Region.wanted oi (yielded ops a.tmps)=false) (hS:S w)
 (h:vR P md ops Q S tail fuel (listed.setIfInBounds i true) (a.put (some d) undef) w):vR P md ops Q S tail (fuel+1) listed a w:=by
 simp only[bE,Bool.not_eq_true']at hs;exact qVp hi (Region.noSelect_spec hs.1.1.1.1.1) hQ hs.1.1.2 hs.2 fuel listed a w (Region.free_spec hi hs.1.1.1.1.2) hs.1.2 (by simpa using hs.1.1.1.2) (.inr ⟨hw,rfl⟩) hS (by rw[hd];exact h)
structure XIn(B L:Nat)(E:Env)(t:qQ)(v:Value)(T:Ty)(w W:World):Prop where
 bl:Below w.1.size w W
 sz:w.1.size+4<=W.1.size
 e0:EAt B E w
 nd:Bx w.1.size t v W
 ty:qZ7 (w.1.size+1) T W
 rs:qQf (w.1.size+1+1) [] (0,false) 0 0 false 0 0 (.slice none 0 0) W
 l0:xZ w (· < L) t v
 hL:L<=w.1.size
theorem XIn.en{B L:Nat}{E:Env}{t:qQ}{v:Value}{T:Ty}{w W:World}(h:XIn B L E t v T w W):EAt B E W:=h.e0.below h.bl
theorem XIn.li{B L:Nat}{E:Env}{t:qQ}{v:Value}{T:Ty}{w W:World}(h:XIn B L E t v T w W):xZ W (· < L) t v :=
 have hL:=h.hL;xZ.move (fun g hg hok=>⟨hok,h.bl.block g (by omega)⟩) t v h.l0
theorem XIn.kids{B L:Nat}{E:Env}{k x:List UInt8}{m ln co:Int}{ks:List qQ}{q:Option Addr}{n c:Nat}{T:Ty}{w W:World}(h:XIn B L E (.mk k x m ln co ks) (.slice q n c) T w W):yD L W ks q:=by
 obtain⟨q',c',e,_,_,hK⟩:=h.li.kids;injection e with e1 e2 e3;rw[e1];exact hK
theorem XIn.turn{B L:Nat}{E:Env}{t:qQ}{v:Value}{T:Ty}{w W W':World}(h:XIn B L E t v T w W)(hb:Below (w.1.size+3) W W'):XIn B L E t v T w W' :=
 have kc:∀ {g o:Nat} {u:Value},g < w.1.size+3->W.cell? ⟨g,o,none⟩=some u->W'.cell? ⟨g,o,none⟩=some u:=fun hg e=>(hb.cell (p:=⟨_,_,none⟩) hg).trans e
 have kf:∀ {g o:Nat} {b:Bool},g < w.1.size+3->W.frozen? ⟨g,o,none⟩=b->W'.frozen? ⟨g,o,none⟩=b:=fun hg e=>(hb.frozen (p:=⟨_,_,none⟩) hg).trans e
 ⟨h.bl.trans (hb.mono (by omega)),Nat.le_trans h.sz hb.size,h.e0,(hb.block _ (by omega)).trans h.nd,⟨kc (by omega) h.ty.c0,kc (by omega) h.ty.c1,kf (by omega) h.ty.f0,kf (by omega) h.ty.f1⟩,
  ⟨kc (by omega) h.rs.c0,kc (by omega) h.rs.c1,kc (by omega) h.rs.c2,kc (by omega) h.rs.c3,kc (by omega) h.rs.c4,kc (by omega) h.rs.c5,kc (by omega) h.rs.c6,kc (by omega) h.rs.c7,kc (by omega) h.rs.c8,fun k hk=>kf (by omega) (h.rs.f k hk)⟩,h.l0,h.hL⟩
def XB(k:Nat)(op:List UInt8)(T:Ty)(n va:Int)(g:Bool)(t:qQ)(kv:Value)(w W:World):Prop:=qQf (w.1.size+1+1+k) op T n va g t.line t.col kv W
theorem XIn.new{B L:Nat}{E:Env}{t:qQ}{v:Value}{T:Ty}{w:World}(h:EAt B E w)(hL:L<=w.1.size)(hl:xZ w (· < L) t v) :
 XIn B L E t v T w ((((w.alloc (qB t v)).alloc (tyO T)).alloc (exO [] (0,false) 0 0 false 0 0 (.slice none 0 0))).alloc (exO zD T 0 0 false t.line t.col (.slice none 0 0))) /\
 XB 1 zD T 0 0 false t (.slice none 0 0) w ((((w.alloc (qB t v)).alloc (tyO T)).alloc (exO [] (0,false) 0 0 false 0 0 (.slice none 0 0))).alloc (exO zD T 0 0 false t.line t.col (.slice none 0 0))):=by
 have b1:=bal (Below.refl w.1.size w) (qB t v);have b4:=bal (bal (bal b1 (tyO T)) (exO [] (0,false) 0 0 false 0 0 (.slice none 0 0))) (exO zD T 0 0 false t.line t.col (.slice none 0 0));have r:=fun w:World=>Below.refl w.1.size w
 refine⟨⟨b4,by simp,h,(Bx.new t v w).below (bal (bal (bal (r _) _) _) _),?_,?_,hl,hL⟩,?_⟩
 ·have:=(qZ7.new T (w.alloc (qB t v))).below (bal (bal (r _) (exO [] (0,false) 0 0 false 0 0 (.slice none 0 0))) (exO zD T 0 0 false t.line t.col (.slice none 0 0)));simpa using this
 ·have:=(qQf.new [] (0,false) 0 0 false 0 0 (.slice none 0 0) ((w.alloc (qB t v)).alloc (tyO T))).below (bal (r _) (exO zD T 0 0 false t.line t.col (.slice none 0 0)));simpa using this
 ·have:=qQf.new zD T 0 0 false t.line t.col (.slice none 0 0) (((w.alloc (qB t v)).alloc (tyO T)).alloc (exO [] (0,false) 0 0 false 0 0 (.slice none 0 0)));unfold XB;simpa using this
theorem XIn.below{B L:Nat}{E:Env}{t:qQ}{v:Value}{T:Ty}{w W W':World}(h:XIn B L E t v T w W)(hb:Below W.1.size W W'):XIn B L E t v T w W' :=
 have hs:=h.sz;h.turn (hb.mono (by omega))
theorem XB.set9{k:Nat}{op op':List UInt8}{T T':Ty}{n va n' va':Int}{g g':Bool}{t:qQ}{kv kv':Value}{w W:World}(h:XB k op T n va g t kv w W):XB k op' T' n' va' g' t kv' w (((((((((W.setCell ⟨w.1.size+1+1+k,0,none⟩ (.string ⟨op'.toArray⟩)).setCell ⟨w.1.size+1+1+k,1,none⟩ (.int .i64 T'.1)).setCell ⟨w.1.size+1+1+k,2,none⟩ (.bool T'.2)).setCell ⟨w.1.size+1+1+k,3,none⟩ (.int .u64 n')).setCell ⟨w.1.size+1+1+k,4,none⟩ (.int .i64 va')).setCell ⟨w.1.size+1+1+k,5,none⟩ (.bool g')).setCell ⟨w.1.size+1+1+k,6,none⟩ (.int .i64 t.line)).setCell ⟨w.1.size+1+1+k,7,none⟩ (.int .i64 t.col)).setCell ⟨w.1.size+1+1+k,8,none⟩ kv'):=by
 unfold XB at *;have⟨h0,h1,h2,h3,h4,h5,h6,h7,h8,_⟩:=h.a;have hf:=h.f;generalize w.1.size+1+1+k=N at *;constructor
 case f=>intro j hj;have:=hf j hj;simp[go_sem, *]
 all_goals simp[go_sem, *]
theorem XB.below{k:Nat}{op:List UInt8}{T:Ty}{n va:Int}{g:Bool}{t:qQ}{kv:Value}{w W W':World}(h:XB k op T n va g t kv w W)(hb:Below W.1.size W W'):XB k op T n va g t kv w W':=qQf.below h hb
theorem qU.setN{w:World}{b N o:Nat}{es:List Ex}{v:Value}(h:qU w (fun g=>b<=g) es v)(hN:N < b)(u:Value):qU (w.setCell ⟨N,o,none⟩ u) (fun g=>b<=g) es v :=
 h.move fun g _ hg=>⟨hg,hS w ⟨N,o,none⟩ u g (by simp;omega)⟩
theorem qU.set9{w:World}{b N:Nat}{es:List Ex}{v:Value}(h:qU w (fun g=>b<=g) es v)(hN:N < b)(u0 u1 u2 u3 u4 u5 u6 u7 u8:Value) :
 qU (((((((((w.setCell ⟨N,0,none⟩ u0).setCell ⟨N,1,none⟩ u1).setCell ⟨N,2,none⟩ u2).setCell ⟨N,3,none⟩ u3).setCell ⟨N,4,none⟩ u4).setCell ⟨N,5,none⟩ u5).setCell ⟨N,6,none⟩ u6).setCell ⟨N,7,none⟩ u7).setCell ⟨N,8,none⟩ u8) (fun g=>b<=g) es v :=
 ((((((((h.setN hN _).setN hN _).setN hN _).setN hN _).setN hN _).setN hN _).setN hN _).setN hN _).setN hN _
theorem qK3(E:Env)(k x:List UInt8)(m ln co:Int)(ks:List qQ)(T:Ty):qQT E (.mk k x m ln co ks) T =
 if k == zD then(jQ (decide (T≠zO) && decide (qUl T.1 T.2 m=m)) (.mk k x m ln co ks) 41).bind fun _=>.ok (.mk zD T m 0 false ln co [])
 else if k == zL || k == qH then(jQ (decide (T=zO)) (.mk k x m ln co ks) 41).bind fun _=>.ok (.mk zD T (if k == zL then 1 else 0) 0 false ln co [])
 else if k == zM || k == qL then
  (qQ1 E (.mk k x m ln co ks)).bind fun p=>(jQ (decide (p.ty=T)) (.mk k x m ln co ks) 41).bind fun _ =>
   if ks.length=0 then .ok (p.withKids [])
   else(yB E ks).bind fun u=>(jQ (decide (u≠zO)) (ks.headD (.mk k x m ln co ks)) 41).bind fun _=>(vD E ks u).bind fun es=>.ok (p.withKids es)
 else if k == zK then(jQ (decide (tyL x=T)) (.mk k x m ln co ks) 41).bind fun _=>(yB E ks).bind fun u=>(vD E ks u).bind fun es=>.ok (.mk zK T 0 0 false ln co es)
 else(qQr E (qXs k x) ks T).bind fun u=>(jQ u.2 (.mk k x m ln co ks) 41).bind fun _=>(vD E ks u.1).bind fun es=>.ok (.mk (qXs k x) T 0 0 false ln co es):=by
 conv=>lhs;unfold qQT
theorem exp_bool(k x:List UInt8)(m ln co:Int)(ks:List qQ)(hw:wfE (.mk k x m ln co ks)=true)(h1:(k == zD)=false)(h2:(k == zL || k == qH)=true):qXL (.mk k x m ln co ks):=by
 intro B L E v T w h hL hl;obtain⟨q,c,rfl,hc1,hc2,hK⟩:=hl.kids;have HX:=hI (XIn.new (T:=T) h hL hl);have hw2:2 < w.1.size:=by
  obtain⟨gv,vv,Mg,Mo,Mr,F,o,cl,hE⟩:=h;exact qJ hE.d0
 obtain⟨hx,⟨hm0,hm1⟩,hwk,hwf⟩:=qQs hw;have hkl:ks.length<=2:=by rcases hwf with⟨_,h⟩ | ⟨_,h⟩ | ⟨_,_,h⟩ <;> first | omega | simp[h]
 clear h hl hK;obtain⟨T0,T1⟩:=T;have HP:=hI (qK3 E k x m ln co ks (T0,T1));have HPB:=hI (show qQT E (.mk k x m ln co ks) (T0,T1)=(jQ (decide (((T0,T1):Ty)=zO)) (.mk k x m ln co ks) 41).bind fun _=>.ok (.mk zD (T0,T1) (if k == zL then 1 else 0) 0 false ln co []) by rw[HP.o,h1,h2];rfl);clear HP;simp only[qZ,tyV,qB,tyO,exO,qS,zD,tQ]at HX ⊢;unfold zD at h1;unfold zL qH at h2;have HNY:=hI (fun w'=>qQl (.mk k x m ln co ks) (.slice q ks.length c) 41 w');have HNN:=hI (fun w'=>qQ5 (.mk k x m ln co ks) (.slice q ks.length c) 41 w');simp only[qZ,tQ]at HNY HNN;cases h3:(k == [116,114,117,101]);case false =>
  simp only[h3,bO,bU]at h2;go_enter func134,ntmps134
  go_wp2
  generalize ((((w.alloc _).alloc _).alloc _).alloc _)=W at *;obtain⟨HX,HXB⟩:=HX.o;have HX:=hI HX;have HXB:=hI HXB;obtain⟨n0,n1,n2,n3,n4,n5⟩:=HX.o.nd.cells;have t0:=HX.o.ty.c0;have t1:=HX.o.ty.c1;obtain⟨gv,vv,Mg,Mo,Mr,F,o,cl,hE⟩:=HX.o.en;have d0:=hE.b0;have d1:=hE.b1;have hs4:=HX.o.sz;have hna:¬w.1.size+1+1+1=w.1.size+1+1:=by omega
  have hG:1 < W.1.size:=qJ d0;clear hE;by_cases hz:T0=1
  ·subst hz;cases T1
   ·skip
    refine wRg (S:=fun w'=>Below W.1.size W w') 4 ?_;refine wTk 0 67 (.agg #[.int .i64 1, .bool false]) ?_ (bD W) ?_
    ·intro _ y;obtain⟨t0,t1,d0,d1,n0,n1,n2,n3,n4,n5⟩:=kP10 y t0 t1 d0 d1 n0 n1 n2 n3 n4 n5;go_simp
    refine wTk 1 68 (.agg #[.int .i64 1, .bool false]) ?_ (bD W) ?_
    ·intro _ y;obtain⟨t0,t1,d0,d1,n0,n1,n2,n3,n4,n5⟩:=kP10 y t0 t1 d0 d1 n0 n1 n2 n3 n4 n5;go_simp
    refine wTk 2 69 (.bool true) ?_ (bD W) ?_
    ·intro _ y;obtain⟨t0,t1,d0,d1,n0,n1,n2,n3,n4,n5⟩:=kP10 y t0 t1 d0 d1 n0 n1 n2 n3 n4 n5;go_simp
    refine wTk 3 70 (.agg #[.string ⟨k.toArray⟩, .string ⟨x.toArray⟩, .int .u64 m, .int .i64 ln, .int .i64 co, .slice q ks.length c]) ?_ (bD W) ?_
    ·intro _ y;obtain⟨t0,t1,d0,d1,n0,n1,n2,n3,n4,n5⟩:=kP10 y t0 t1 d0 d1 n0 n1 n2 n3 n4 n5;go_simp
    refine wOn 4 fun K hK=>?_
    go_simp;refine(HNY.o _).mono ?_;rintro e w3 ⟨rfl,hb3⟩;refine kD hK ?_;clear hK K;refine wDn ?_ _;have hbW:=zF hb3;have HQ:=hI (show qQT E (.mk k x m ln co ks) (1,false)=.ok (.mk zD (1,false) 0 0 false ln co []) by rw[HPB.o];simp only[zL,h3];rfl);have HX:=hI (HX.o.below hbW);have HXB:=hI (HXB.o.below hbW);clear n0 n1 n2 n3 n4 n5 t0 t1 d0 d1 hb3 hbW HNY HNN;obtain⟨n0,n1,n2,n3,n4,n5⟩:=HX.o.nd.cells;have⟨r0,r1,r2,r3,r4,r5,r6,r7,r8,_⟩:=HX.o.rs.a;have⟨rf0,rf1,rf2,rf3,rf4,rf5,rf6,rf7,rf8,_⟩:=HX.o.rs.b;have xb:=HXB.o;unfold XB at xb;simp only[qQ.line,qQ.col,Nat.add_zero]at xb;have⟨x0,x1,x2,x3,x4,x5,x6,x7,x8,_⟩:=xb.a;have⟨xf0,xf1,xf2,xf3,xf4,xf5,xf6,xf7,xf8,_⟩:=xb.b;clear xb;have rl:=HX.o.rs.lt;have xl:=HXB.o.lt;go_wp2
    refine bodyPost_ret (v:=exV (.mk zD (1,false) 0 0 false ln co []) (.slice none 0 0)) (by simp[results,results134,go_sem,exV,zD,r0,r1,r2,r3,r4,r5,r6,r7,r8,rl]) rfl (zP.okI HQ.o ⟨_,rfl,?_⟩ ?_)
    ·exact qU.mono (qU.set9 (qU.nil _ (fun g=>w.1.size+4<=g)) (by omega) _ _ _ _ _ _ _ _ _) (fun g hg=>by omega)
    ·exact set9 HX.o.bl (by omega) _ _ _ _ _ _ _ _ _
   ·skip
    refine wRg (S:=fun w'=>Below W.1.size W w') 4 ?_;refine wTk 0 67 (.agg #[.int .i64 1, .bool true]) ?_ (bD W) ?_
    ·intro _ y;obtain⟨t0,t1,d0,d1,n0,n1,n2,n3,n4,n5⟩:=kP10 y t0 t1 d0 d1 n0 n1 n2 n3 n4 n5;go_simp
    refine wTk 1 68 (.agg #[.int .i64 1, .bool false]) ?_ (bD W) ?_
    ·intro _ y;obtain⟨t0,t1,d0,d1,n0,n1,n2,n3,n4,n5⟩:=kP10 y t0 t1 d0 d1 n0 n1 n2 n3 n4 n5;go_simp
    refine wTk 2 69 (.bool false) ?_ (bD W) ?_
    ·intro _ y;obtain⟨t0,t1,d0,d1,n0,n1,n2,n3,n4,n5⟩:=kP10 y t0 t1 d0 d1 n0 n1 n2 n3 n4 n5;go_simp
    refine wTk 3 70 (.agg #[.string ⟨k.toArray⟩, .string ⟨x.toArray⟩, .int .u64 m, .int .i64 ln, .int .i64 co, .slice q ks.length c]) ?_ (bD W) ?_
    ·intro _ y;obtain⟨t0,t1,d0,d1,n0,n1,n2,n3,n4,n5⟩:=kP10 y t0 t1 d0 d1 n0 n1 n2 n3 n4 n5;go_simp
    refine wOn 4 fun K hK=>?_
    go_simp;refine(HNN.o _).mono ?_;rintro e w3 ⟨rfl,hb3⟩;exact⟨rfl,zP.badI (by rw[HPB.o];rfl) ⟨rfl,HX.o.bl.trans ((zF hb3).mono HX.o.bl.size)⟩⟩
  ·skip
   refine wRg (S:=fun w'=>Below W.1.size W w') 4 ?_;refine wTk 0 67 (.agg #[.int .i64 T0, .bool T1]) ?_ (bD W) ?_
   ·intro _ y;obtain⟨t0,t1,d0,d1,n0,n1,n2,n3,n4,n5⟩:=kP10 y t0 t1 d0 d1 n0 n1 n2 n3 n4 n5;go_simp
   refine wTk 1 68 (.agg #[.int .i64 1, .bool false]) ?_ (bD W) ?_
   ·intro _ y;obtain⟨t0,t1,d0,d1,n0,n1,n2,n3,n4,n5⟩:=kP10 y t0 t1 d0 d1 n0 n1 n2 n3 n4 n5;go_simp
   refine wTk 2 69 (.bool false) ?_ (bD W) ?_
   ·intro _ y;obtain⟨t0,t1,d0,d1,n0,n1,n2,n3,n4,n5⟩:=kP10 y t0 t1 d0 d1 n0 n1 n2 n3 n4 n5;go_simp
   refine wTk 3 70 (.agg #[.string ⟨k.toArray⟩, .string ⟨x.toArray⟩, .int .u64 m, .int .i64 ln, .int .i64 co, .slice q ks.length c]) ?_ (bD W) ?_
   ·intro _ y;obtain⟨t0,t1,d0,d1,n0,n1,n2,n3,n4,n5⟩:=kP10 y t0 t1 d0 d1 n0 n1 n2 n3 n4 n5;go_simp
   refine wOn 4 fun K hK=>?_
   go_simp;refine(HNN.o _).mono ?_;rintro e w3 ⟨rfl,hb3⟩;exact⟨rfl,zP.badI (by rw[HPB.o,show decide (((T0,T1):Ty)=zO)=false by simp[zO,hz]];rfl) ⟨rfl,HX.o.bl.trans ((zF hb3).mono HX.o.bl.size)⟩⟩
 case true =>
  simp only[h3,bO,bU]at h2;go_enter func134,ntmps134
  go_wp2
  generalize ((((w.alloc _).alloc _).alloc _).alloc _)=W at *;obtain⟨HX,HXB⟩:=HX.o;have HX:=hI HX;have HXB:=hI HXB;obtain⟨n0,n1,n2,n3,n4,n5⟩:=HX.o.nd.cells;have t0:=HX.o.ty.c0;have t1:=HX.o.ty.c1;obtain⟨gv,vv,Mg,Mo,Mr,F,o,cl,hE⟩:=HX.o.en;have d0:=hE.b0;have d1:=hE.b1;have hs4:=HX.o.sz;have hna:¬w.1.size+1+1+1=w.1.size+1+1:=by omega
  have hG:1 < W.1.size:=qJ d0;clear hE;by_cases hz:T0=1
  ·subst hz;cases T1
   ·skip
    refine wRg (S:=fun w'=>Below W.1.size W w') 4 ?_;refine wTk 0 67 (.agg #[.int .i64 1, .bool false]) ?_ (bD W) ?_
    ·intro _ y;obtain⟨t0,t1,d0,d1,n0,n1,n2,n3,n4,n5⟩:=kP10 y t0 t1 d0 d1 n0 n1 n2 n3 n4 n5;go_simp
    refine wTk 1 68 (.agg #[.int .i64 1, .bool false]) ?_ (bD W) ?_
    ·intro _ y;obtain⟨t0,t1,d0,d1,n0,n1,n2,n3,n4,n5⟩:=kP10 y t0 t1 d0 d1 n0 n1 n2 n3 n4 n5;go_simp
    refine wTk 2 69 (.bool true) ?_ (bD W) ?_
    ·intro _ y;obtain⟨t0,t1,d0,d1,n0,n1,n2,n3,n4,n5⟩:=kP10 y t0 t1 d0 d1 n0 n1 n2 n3 n4 n5;go_simp
    refine wTk 3 70 (.agg #[.string ⟨k.toArray⟩, .string ⟨x.toArray⟩, .int .u64 m, .int .i64 ln, .int .i64 co, .slice q ks.length c]) ?_ (bD W) ?_
    ·intro _ y;obtain⟨t0,t1,d0,d1,n0,n1,n2,n3,n4,n5⟩:=kP10 y t0 t1 d0 d1 n0 n1 n2 n3 n4 n5;go_simp
    refine wOn 4 fun K hK=>?_
    go_simp;refine(HNY.o _).mono ?_;rintro e w3 ⟨rfl,hb3⟩;refine kD hK ?_;clear hK K;refine wDn ?_ _;have hbW:=zF hb3;have HQ:=hI (show qQT E (.mk k x m ln co ks) (1,false)=.ok (.mk zD (1,false) 1 0 false ln co []) by rw[HPB.o];simp only[zL,h3];rfl);have HX:=hI (HX.o.below hbW);have HXB:=hI (HXB.o.below hbW);clear n0 n1 n2 n3 n4 n5 t0 t1 d0 d1 hb3 hbW HNY HNN;obtain⟨n0,n1,n2,n3,n4,n5⟩:=HX.o.nd.cells;have⟨r0,r1,r2,r3,r4,r5,r6,r7,r8,_⟩:=HX.o.rs.a;have⟨rf0,rf1,rf2,rf3,rf4,rf5,rf6,rf7,rf8,_⟩:=HX.o.rs.b;have xb:=HXB.o;unfold XB at xb;simp only[qQ.line,qQ.col,Nat.add_zero]at xb;have⟨x0,x1,x2,x3,x4,x5,x6,x7,x8,_⟩:=xb.a;have⟨xf0,xf1,xf2,xf3,xf4,xf5,xf6,xf7,xf8,_⟩:=xb.b;clear xb;have rl:=HX.o.rs.lt;have xl:=HXB.o.lt;go_wp2
    refine bodyPost_ret (v:=exV (.mk zD (1,false) 1 0 false ln co []) (.slice none 0 0)) (by simp[results,results134,go_sem,exV,zD,r0,r1,r2,r3,r4,r5,r6,r7,r8,rl]) rfl (zP.okI HQ.o ⟨_,rfl,?_⟩ ?_)
    ·exact qU.mono (qU.set9 (qU.setN (qU.nil _ (fun g=>w.1.size+4<=g)) (by omega) _) (by omega) _ _ _ _ _ _ _ _ _) (fun g hg=>by omega)
    ·exact set9 (jR HX.o.bl (by omega) _) (by omega) _ _ _ _ _ _ _ _ _
   ·skip
    refine wRg (S:=fun w'=>Below W.1.size W w') 4 ?_;refine wTk 0 67 (.agg #[.int .i64 1, .bool true]) ?_ (bD W) ?_
    ·intro _ y;obtain⟨t0,t1,d0,d1,n0,n1,n2,n3,n4,n5⟩:=kP10 y t0 t1 d0 d1 n0 n1 n2 n3 n4 n5;go_simp
    refine wTk 1 68 (.agg #[.int .i64 1, .bool false]) ?_ (bD W) ?_
    ·intro _ y;obtain⟨t0,t1,d0,d1,n0,n1,n2,n3,n4,n5⟩:=kP10 y t0 t1 d0 d1 n0 n1 n2 n3 n4 n5;go_simp
    refine wTk 2 69 (.bool false) ?_ (bD W) ?_
    ·intro _ y;obtain⟨t0,t1,d0,d1,n0,n1,n2,n3,n4,n5⟩:=kP10 y t0 t1 d0 d1 n0 n1 n2 n3 n4 n5;go_simp
    refine wTk 3 70 (.agg #[.string ⟨k.toArray⟩, .string ⟨x.toArray⟩, .int .u64 m, .int .i64 ln, .int .i64 co, .slice q ks.length c]) ?_ (bD W) ?_
    ·intro _ y;obtain⟨t0,t1,d0,d1,n0,n1,n2,n3,n4,n5⟩:=kP10 y t0 t1 d0 d1 n0 n1 n2 n3 n4 n5;go_simp
    refine wOn 4 fun K hK=>?_
    go_simp;refine(HNN.o _).mono ?_;rintro e w3 ⟨rfl,hb3⟩;exact⟨rfl,zP.badI (by rw[HPB.o];rfl) ⟨rfl,HX.o.bl.trans ((zF hb3).mono HX.o.bl.size)⟩⟩
  ·skip
   refine wRg (S:=fun w'=>Below W.1.size W w') 4 ?_;refine wTk 0 67 (.agg #[.int .i64 T0, .bool T1]) ?_ (bD W) ?_
   ·intro _ y;obtain⟨t0,t1,d0,d1,n0,n1,n2,n3,n4,n5⟩:=kP10 y t0 t1 d0 d1 n0 n1 n2 n3 n4 n5;go_simp
   refine wTk 1 68 (.agg #[.int .i64 1, .bool false]) ?_ (bD W) ?_
   ·intro _ y;obtain⟨t0,t1,d0,d1,n0,n1,n2,n3,n4,n5⟩:=kP10 y t0 t1 d0 d1 n0 n1 n2 n3 n4 n5;go_simp
   refine wTk 2 69 (.bool false) ?_ (bD W) ?_
   ·intro _ y;obtain⟨t0,t1,d0,d1,n0,n1,n2,n3,n4,n5⟩:=kP10 y t0 t1 d0 d1 n0 n1 n2 n3 n4 n5;go_simp
   refine wTk 3 70 (.agg #[.string ⟨k.toArray⟩, .string ⟨x.toArray⟩, .int .u64 m, .int .i64 ln, .int .i64 co, .slice q ks.length c]) ?_ (bD W) ?_
   ·intro _ y;obtain⟨t0,t1,d0,d1,n0,n1,n2,n3,n4,n5⟩:=kP10 y t0 t1 d0 d1 n0 n1 n2 n3 n4 n5;go_simp
   refine wOn 4 fun K hK=>?_
   go_simp;refine(HNN.o _).mono ?_;rintro e w3 ⟨rfl,hb3⟩;exact⟨rfl,zP.badI (by rw[HPB.o,show decide (((T0,T1):Ty)=zO)=false by simp[zO,hz]];rfl) ⟨rfl,HX.o.bl.trans ((zF hb3).mono HX.o.bl.size)⟩⟩
theorem exp_num(k x:List UInt8)(m ln co:Int)(ks:List qQ)(hw:wfE (.mk k x m ln co ks)=true)(h1:(k == zD)=true):qXL (.mk k x m ln co ks):=by
 intro B L E v T w h hL hl;obtain⟨q,c,rfl,hc1,hc2,hK⟩:=hl.kids;have HX:=hI (XIn.new (T:=T) h hL hl);have hw2:2 < w.1.size:=by
  obtain⟨gv,vv,Mg,Mo,Mr,F,o,cl,hE⟩:=h;exact qJ hE.d0
 obtain⟨hx,⟨hm0,hm1⟩,hwk,hwf⟩:=qQs hw;have hkl:ks.length<=2:=by rcases hwf with⟨_,h⟩ | ⟨_,h⟩ | ⟨_,_,h⟩ <;> first | omega | simp[h]
 clear h hl hK;obtain⟨T0,T1⟩:=T;have HP:=hI (qK3 E k x m ln co ks (T0,T1));have HPB:=hI (show qQT E (.mk k x m ln co ks) (T0,T1)=(jQ (decide (((T0,T1):Ty)≠zO) && decide (qUl T0 T1 m=m)) (.mk k x m ln co ks) 41).bind fun _=>.ok (.mk zD (T0,T1) m 0 false ln co []) by rw[HP.o,h1];rfl);clear HP;simp only[qZ,tyV,qB,tyO,exO,qS,zD,tQ]at HX ⊢;have HNY:=hI (fun w'=>qQl (.mk k x m ln co ks) (.slice q ks.length c) 41 w');have HNN:=hI (fun w'=>qQ5 (.mk k x m ln co ks) (.slice q ks.length c) 41 w');have HNA:=hI (fun b w'=>qQk b (.mk k x m ln co ks) (.slice q ks.length c) 41 w');simp only[qZ,tQ]at HNY HNN HNA;unfold zD at h1;go_enter func134,ntmps134
 go_wp2
 generalize ((((w.alloc _).alloc _).alloc _).alloc _)=W at *;obtain⟨HX,HXB⟩:=HX.o;have HX:=hI HX;have HXB:=hI HXB;obtain⟨n0,n1,n2,n3,n4,n5⟩:=HX.o.nd.cells;have t0:=HX.o.ty.c0;have t1:=HX.o.ty.c1;obtain⟨gv,vv,Mg,Mo,Mr,F,o,cl,hE⟩:=HX.o.en;have d0:=hE.b0;have d1:=hE.b1;have hs4:=HX.o.sz;have hna:¬w.1.size+1+1+1=w.1.size+1+1:=by omega
 have hG:1 < W.1.size:=qJ d0;have HNO:=hI (fun w' (hb:Below W.1.size W w')=>norm_any T0 T1 m w' (hE.wt.below hb) hm0 hm1);clear hE;by_cases hz:((T0,T1):Ty)=zO
 ·unfold zO at hz;injection hz with hz1 hz2;subst hz1 hz2;refine wRg (S:=fun w'=>Below W.1.size W w') 13 ?_;refine wTk 0 47 (.agg #[.int .i64 1, .bool false]) ?_ (bD W) ?_
  ·intro _ y;obtain⟨t0,t1,d0,d1,n0,n1,n2,n3,n4,n5⟩:=kP10 y t0 t1 d0 d1 n0 n1 n2 n3 n4 n5;go_simp
  refine wTk 1 48 (.agg #[.int .i64 1, .bool false]) ?_ (bD W) ?_
  ·intro _ y;obtain⟨t0,t1,d0,d1,n0,n1,n2,n3,n4,n5⟩:=kP10 y t0 t1 d0 d1 n0 n1 n2 n3 n4 n5;go_simp
  refine wTk 2 49 (.bool false) ?_ (bD W) ?_
  ·intro _ y;obtain⟨t0,t1,d0,d1,n0,n1,n2,n3,n4,n5⟩:=kP10 y t0 t1 d0 d1 n0 n1 n2 n3 n4 n5;go_simp
  refine wTk 3 50 (.bool false) ?_ (bD W) ?_
  ·intro _ y;obtain⟨t0,t1,d0,d1,n0,n1,n2,n3,n4,n5⟩:=kP10 y t0 t1 d0 d1 n0 n1 n2 n3 n4 n5;go_simp
  refine xG (i:=4) (d:=51) rfl rfl (by kernel_rfl) (fun _ _ _ h=>h) (by rfl) ((Below.refl W.1.size W).drew) ?_;try simp only[Act.put,pZa,pZb,pZc]
  refine xG (i:=5) (d:=52) rfl rfl (by kernel_rfl) (fun _ _ _ h=>h) (by rfl) ((Below.refl W.1.size W).drew) ?_;try simp only[Act.put,pZa,pZb,pZc]
  refine xG (i:=6) (d:=53) rfl rfl (by kernel_rfl) (fun _ _ _ h=>h) (by rfl) ((Below.refl W.1.size W).drew) ?_;try simp only[Act.put,pZa,pZb,pZc]
  refine xG (i:=7) (d:=54) rfl rfl (by kernel_rfl) (fun _ _ _ h=>h) (by rfl) ((Below.refl W.1.size W).drew) ?_;try simp only[Act.put,pZa,pZb,pZc]
  refine xG (i:=8) (d:=55) rfl rfl (by kernel_rfl) (fun _ _ _ h=>h) (by rfl) ((Below.refl W.1.size W).drew) ?_;try simp only[Act.put,pZa,pZb,pZc]
  refine xG (i:=9) (d:=56) rfl rfl (by kernel_rfl) (fun _ _ _ h=>h) (by rfl) ((Below.refl W.1.size W).drew) ?_;try simp only[Act.put,pZa,pZb,pZc]
  refine xG (i:=10) (d:=57) rfl rfl (by kernel_rfl) (fun _ _ _ h=>h) (by rfl) ((Below.refl W.1.size W).drew) ?_;try simp only[Act.put,pZa,pZb,pZc]
  refine wTk 11 58 (.bool false) ?_ (bD W) ?_
  ·intro _ y;obtain⟨t0,t1,d0,d1,n0,n1,n2,n3,n4,n5⟩:=kP10 y t0 t1 d0 d1 n0 n1 n2 n3 n4 n5;go_simp
  refine wTk 12 59 (.agg #[.string ⟨k.toArray⟩, .string ⟨x.toArray⟩, .int .u64 m, .int .i64 ln, .int .i64 co, .slice q ks.length c]) ?_ (bD W) ?_
  ·intro _ y;obtain⟨t0,t1,d0,d1,n0,n1,n2,n3,n4,n5⟩:=kP10 y t0 t1 d0 d1 n0 n1 n2 n3 n4 n5;go_simp
  refine wOn 13 fun K hK=>?_
  go_simp;refine(HNN.o _).mono ?_;rintro e w3 ⟨rfl,hb3⟩;exact⟨rfl,zP.badI (by rw[HPB.o];rfl) ⟨rfl,HX.o.bl.trans ((zF hb3).mono HX.o.bl.size)⟩⟩
 ·skip
  refine wRg (S:=fun w'=>Below W.1.size W w') 13 ?_;refine wTk 0 47 (.agg #[.int .i64 T0, .bool T1]) ?_ (bD W) ?_
  ·intro _ y;obtain⟨t0,t1,d0,d1,n0,n1,n2,n3,n4,n5⟩:=kP10 y t0 t1 d0 d1 n0 n1 n2 n3 n4 n5;go_simp
  refine wTk 1 48 (.agg #[.int .i64 1, .bool false]) ?_ (bD W) ?_
  ·intro _ y;obtain⟨t0,t1,d0,d1,n0,n1,n2,n3,n4,n5⟩:=kP10 y t0 t1 d0 d1 n0 n1 n2 n3 n4 n5;go_simp
  refine wTk 2 49 (.bool true) ?_ (bD W) ?_
  ·intro _ y;clear y;by_cases hz1:T0=1
   ·subst hz1;cases T1
    ·exact absurd rfl hz
    ·go_simp
   ·go_simp
  refine wTk 3 50 (.bool true) ?_ (bD W) ?_
  ·intro _ y;obtain⟨t0,t1,d0,d1,n0,n1,n2,n3,n4,n5⟩:=kP10 y t0 t1 d0 d1 n0 n1 n2 n3 n4 n5;go_simp
  refine wTk 4 51 (.agg #[.int .i64 T0, .bool T1]) ?_ (bD W) ?_
  ·intro _ y;obtain⟨t0,t1,d0,d1,n0,n1,n2,n3,n4,n5⟩:=kP10 y t0 t1 d0 d1 n0 n1 n2 n3 n4 n5;go_simp
  refine wTk 5 52 (.pointer (some ⟨w.1.size,2,none⟩)) ?_ (bD W) ?_
  ·intro _ y;obtain⟨t0,t1,d0,d1,n0,n1,n2,n3,n4,n5⟩:=kP10 y t0 t1 d0 d1 n0 n1 n2 n3 n4 n5;go_simp
  refine wTk 6 53 (.int .u64 m) ?_ (bD W) ?_
  ·intro _ y;obtain⟨t0,t1,d0,d1,n0,n1,n2,n3,n4,n5⟩:=kP10 y t0 t1 d0 d1 n0 n1 n2 n3 n4 n5;go_simp
  refine wTk 8 55 (.pointer (some ⟨w.1.size,2,none⟩)) ?_ (bD W) ?_
  ·intro _ y;obtain⟨t0,t1,d0,d1,n0,n1,n2,n3,n4,n5⟩:=kP10 y t0 t1 d0 d1 n0 n1 n2 n3 n4 n5;go_simp
  refine wTk 9 56 (.int .u64 m) ?_ (bD W) ?_
  ·intro _ y;obtain⟨t0,t1,d0,d1,n0,n1,n2,n3,n4,n5⟩:=kP10 y t0 t1 d0 d1 n0 n1 n2 n3 n4 n5;go_simp
  refine wTk 12 59 (.agg #[.string ⟨k.toArray⟩, .string ⟨x.toArray⟩, .int .u64 m, .int .i64 ln, .int .i64 co, .slice q ks.length c]) ?_ (bD W) ?_
  ·intro _ y;obtain⟨t0,t1,d0,d1,n0,n1,n2,n3,n4,n5⟩:=kP10 y t0 t1 d0 d1 n0 n1 n2 n3 n4 n5;go_simp
  refine wOn 7 fun K hK=>?_
  go_simp;refine(HNO.o _ (Below.refl _ _).drew).mono ?_;rintro e w3 ⟨rfl,hb3⟩;have hbW:=zF hb3;refine kK hK hbW ?_;clear hK K;refine wOn 10 fun K hK=>?_
  go_simp;refine kK hK hbW ?_;clear hK K;refine wOn 11 fun K hK=>?_
  go_simp;refine kK hK hbW ?_;clear hK K;refine wOn 13 fun K hK=>?_
  go_simp;refine(HNA.o _ _).mono ?_;rintro e w4 (⟨hbt,rfl,hb4⟩ | ⟨hbt,rfl,hb4⟩);rotate_left
  ·refine⟨rfl,zP.badI (ln:=ln) (co:=co) (code:=41) ?_ ⟨rfl,HX.o.bl.trans ((hbW.trans (hb4.mono hbW.size)).mono HX.o.bl.size)⟩⟩;rw[HPB.o,show decide (((T0,T1):Ty)≠zO)=true from decide_eq_true hz];simp at hbt;simp[jQ,CR.bind,hbt,qQ.line,qQ.col]
  refine kD hK ?_;clear hK K;refine wDn ?_ _;have HQ:=hI (show qQT E (.mk k x m ln co ks) (T0,T1)=.ok (.mk zD (T0,T1) m 0 false ln co []) by
   rw[HPB.o,show decide (((T0,T1):Ty)≠zO)=true from decide_eq_true hz];simp at hbt;simp[jQ,CR.bind,hbt])
  have hbW2:=hbW.trans (hb4.mono hbW.size);have HX:=hI (HX.o.below hbW2);have HXB:=hI (HXB.o.below hbW2);clear n0 n1 n2 n3 n4 n5 t0 t1 d0 d1 hb3 hbW hb4 hbW2 HNY HNN HNA HNO hbt;obtain⟨n0,n1,n2,n3,n4,n5⟩:=HX.o.nd.cells;have⟨r0,r1,r2,r3,r4,r5,r6,r7,r8,_⟩:=HX.o.rs.a;have⟨rf0,rf1,rf2,rf3,rf4,rf5,rf6,rf7,rf8,_⟩:=HX.o.rs.b;have xb:=HXB.o;unfold XB at xb;simp only[qQ.line,qQ.col,Nat.add_zero]at xb;have⟨x0,x1,x2,x3,x4,x5,x6,x7,x8,_⟩:=xb.a;have⟨xf0,xf1,xf2,xf3,xf4,xf5,xf6,xf7,xf8,_⟩:=xb.b;clear xb;have rl:=HX.o.rs.lt;have xl:=HXB.o.lt;go_wp2
  refine bodyPost_ret (v:=exV (.mk zD (T0,T1) m 0 false ln co []) (.slice none 0 0)) (by simp[results,results134,go_sem,exV,zD,r0,r1,r2,r3,r4,r5,r6,r7,r8,rl]) rfl (zP.okI HQ.o ⟨_,rfl,?_⟩ ?_)
  ·exact qU.mono (qU.set9 (qU.setN (qU.nil _ (fun g=>w.1.size+4<=g)) (by omega) _) (by omega) _ _ _ _ _ _ _ _ _) (fun g hg=>by omega)
  ·exact set9 (jR HX.o.bl (by omega) _) (by omega) _ _ _ _ _ _ _ _ _
theorem exp_name(k x:List UInt8)(m ln co:Int)(ks:List qQ)(hw:wfE (.mk k x m ln co ks)=true)(hrec:∀ u∈ks,qXL u)(h1:(k == zD)=false)(h2:(k == zL || k == qH)=false)(h3:(k == zM || k == qL)=true):qXL (.mk k x m ln co ks):=by
 intro B L E v T w h hL hl;obtain⟨q,c,rfl,hc1,hc2,hK⟩:=hl.kids;have HX:=hI (XIn.new (T:=T) h hL hl);have hw2:2 < w.1.size:=by
  obtain⟨gv,vv,Mg,Mo,Mr,F,o,cl,hE⟩:=h;exact qJ hE.d0
 obtain⟨hx,⟨hm0,hm1⟩,hwk,hwf⟩:=qQs hw;have hkl:ks.length<=2:=by rcases hwf with⟨_,h⟩ | ⟨_,h⟩ | ⟨_,_,h⟩ <;> first | omega | simp[h]
 clear h hl hK;obtain⟨T0,T1⟩:=T;have HP:=hI (qK3 E k x m ln co ks (T0,T1));have HPB:=hI (show qQT E (.mk k x m ln co ks) (T0,T1)=(qQ1 E (.mk k x m ln co ks)).bind fun p=>(jQ (decide (p.ty=(T0,T1))) (.mk k x m ln co ks) 41).bind fun _=>(qQL E ks).bind fun es=>.ok (p.withKids es) by
  rw[HP.o,h1,h2,h3];simp only[bF,if_false,if_true,reduceIte];congr 1
  funext p
  congr 1
  funext _
  unfold qQL;split
  ·rfl
  ·rename_i h0;obtain⟨u,r,rfl⟩:∃ u r,ks=u :: r:=by cases ks with | nil=>simp at h0 | cons u r=>exact⟨u,r,rfl⟩
   simp only[CR.bind_assoc,List.headD_cons])
 have HPL:=hI (qUq B E (.mk k x m ln co ks) (.slice q ks.length c) _ HX.o.1.en hx);have HREC:=hI hrec;have HWK:=hI hwk;clear HP hrec hwk hwf;simp only[Bool.or_eq_false_iff]at h2;obtain⟨h2a,h2b⟩:=h2;simp only[qZ,tyV,qB,tyO,exO,qS,zD,tQ]at HX ⊢;have HNY:=hI (fun w'=>qQl (.mk k x m ln co ks) (.slice q ks.length c) 41 w');have HNN:=hI (fun w'=>qQ5 (.mk k x m ln co ks) (.slice q ks.length c) 41 w');have HNA:=hI (fun b w'=>qQk b (.mk k x m ln co ks) (.slice q ks.length c) 41 w');simp only[qZ,tQ]at HNY HNN HNA;simp only[qZ,qB,tyO,exO,qS,zD,tQ]at HPL;unfold zD at h1;unfold zL at h2a;unfold qH at h2b;unfold zM qL at h3;cases h4:(k == [110,97,109,101]);case false =>
  simp only[h4,bO,bU]at h3;go_enter func134,ntmps134
  go_wp2_with fail
  generalize ((((w.alloc _).alloc _).alloc _).alloc _)=W at *;obtain⟨HX,HXB⟩:=HX.o;have HX:=hI HX;have HXB:=hI HXB;refine(HPL.o).mono ?_;rintro e w2 hX;rcases hX.cases with⟨a,u,hp,rfl,rfl,hb2⟩ | ⟨l',c',code,hp,rfl,hb2⟩;rotate_left
  ·exact⟨rfl,zP.badI (by rw[HPB.o,hp];rfl) ⟨rfl,HX.o.bl.trans (hb2.mono HX.o.bl.size)⟩⟩
  obtain⟨aop,⟨A0,A1⟩,an,av,ag,al,ac,ak⟩:=a;obtain⟨rfl,rfl,rfl⟩:al=ln/\ac=co/\ak=[]:=by
   unfold qQ1 at hp;cases hf:qZD E (.mk k x m ln co ks)with
   | bad _ _ _=>rw[hf]at hp;cases hp
   | ok r =>
    rw[hf]at hp;simp only[CR.bind,jQ]at hp;split at hp
    ·simp only[qQ.line,qQ.col,CR.ok.injEq,Ex.mk.injEq]at hp;exact⟨hp.2.2.2.2.2.1.symm,hp.2.2.2.2.2.2.1.symm,hp.2.2.2.2.2.2.2.symm⟩
    ·cases hp
  unfold exV;have HPC:=hI (HPB.o.trans (by rw[hp];rfl:_=(jQ (decide (((A0,A1):Ty)=(T0,T1))) (.mk k x m al ac ks) 41).bind fun _=>(qQL E ks).bind fun es=>.ok (.mk aop (A0,A1) an av ag al ac es)));have HX2:=hI (HX.o.below hb2);have HXB2:=hI (HXB.o.below hb2);have hbs:=hb2.size;clear hX HPL hp hb2 HX HXB;obtain⟨n0,n1,n2,n3,n4,n5⟩:=HX2.o.nd.cells;have t0:=HX2.o.ty.c0;have t1:=HX2.o.ty.c1;have xb:=HXB2.o;unfold XB at xb;simp only[qQ.line,qQ.col,Nat.add_zero]at xb;have⟨x0,x1,x2,x3,x4,x5,x6,x7,x8,_⟩:=xb.a;have⟨xf0,xf1,xf2,xf3,xf4,xf5,xf6,xf7,xf8,_⟩:=xb.b;clear xb;have hs4:=HX2.o.sz;have hna:¬w.1.size+1+1+1=w.1.size+1+1:=by omega
  go_wp2
  have HX3:=hI (HX2.o.turn (set9 (N:=w.1.size+1+1+1) (Below.refl (w.1.size+3) w2) (by omega) (.string ⟨aop.toArray⟩) (.int .i64 A0) (.bool A1) (.int .u64 an) (.int .i64 av) (.bool ag) (.int .i64 al) (.int .i64 ac) (.slice none 0 0)));have HXB3:=hI (XB.set9 (op':=aop) (T':=(A0,A1)) (n':=an) (va':=av) (g':=ag) (kv':=.slice none 0 0) HXB2.o);simp only[qQ.line,qQ.col]at HXB3;clear n0 n1 n2 n3 n4 n5 t0 t1 x0 x1 x2 x3 x4 x5 x6 x7 x8 xf0 xf1 xf2 xf3 xf4 xf5 xf6 xf7 xf8 HX2 HXB2;generalize (World.setCell (World.setCell (World.setCell (World.setCell (World.setCell (World.setCell (World.setCell (World.setCell (World.setCell w2 ⟨w.1.size+1+1+1,0,none⟩ (.string ⟨aop.toArray⟩)) ⟨w.1.size+1+1+1,1,none⟩ (.int .i64 A0)) ⟨w.1.size+1+1+1,2,none⟩ (.bool A1)) ⟨w.1.size+1+1+1,3,none⟩ (.int .u64 an)) ⟨w.1.size+1+1+1,4,none⟩ (.int .i64 av)) ⟨w.1.size+1+1+1,5,none⟩ (.bool ag)) ⟨w.1.size+1+1+1,6,none⟩ (.int .i64 al)) ⟨w.1.size+1+1+1,7,none⟩ (.int .i64 ac)) ⟨w.1.size+1+1+1,8,none⟩ (.slice none 0 0))=V at *;obtain⟨n0,n1,n2,n3,n4,n5⟩:=HX3.o.nd.cells;have t0:=HX3.o.ty.c0;have t1:=HX3.o.ty.c1;have xb:=HXB3.o;unfold XB at xb;simp only[qQ.line,qQ.col,Nat.add_zero]at xb;have⟨x0,x1,x2,x3,x4,x5,x6,x7,x8,_⟩:=xb.a;have⟨xf0,xf1,xf2,xf3,xf4,xf5,xf6,xf7,xf8,_⟩:=xb.b;clear xb;by_cases hz:((A0,A1):Ty)=(T0,T1)
  ·injection hz with hz1 hz2;subst hz1 hz2;refine wRg (S:=fun w'=>Below V.1.size V w') 5 ?_;refine wTk 0 82 (.pointer (some ⟨w.1.size+1+1+1,1,none⟩)) ?_ (bD V) ?_
   ·intro _ y;go_simp
   refine wTk 1 83 (.agg #[.int .i64 A0, .bool A1]) ?_ (bD V) ?_
   ·intro _ y;obtain⟨t0,t1,x0,x1,x2,n0,n1,n2,n3,n4,n5⟩:=kP11 y t0 t1 x0 x1 x2 n0 n1 n2 n3 n4 n5;go_simp
   refine wTk 2 84 (.agg #[.int .i64 A0, .bool A1]) ?_ (bD V) ?_
   ·intro _ y;obtain⟨t0,t1,x0,x1,x2,n0,n1,n2,n3,n4,n5⟩:=kP11 y t0 t1 x0 x1 x2 n0 n1 n2 n3 n4 n5;go_simp
   refine wTk 3 85 (.bool true) ?_ (bD V) ?_
   ·intro _ y;obtain⟨t0,t1,x0,x1,x2,n0,n1,n2,n3,n4,n5⟩:=kP11 y t0 t1 x0 x1 x2 n0 n1 n2 n3 n4 n5;go_simp
   refine wTk 4 86 (.agg #[.string ⟨k.toArray⟩, .string ⟨x.toArray⟩, .int .u64 m, .int .i64 al, .int .i64 ac, .slice q ks.length c]) ?_ (bD V) ?_
   ·intro _ y;obtain⟨t0,t1,x0,x1,x2,n0,n1,n2,n3,n4,n5⟩:=kP11 y t0 t1 x0 x1 x2 n0 n1 n2 n3 n4 n5;go_simp
   refine wOn 5 fun K hK=>?_
   go_simp;refine(HNY.o _).mono ?_;rintro e w4 ⟨rfl,hb4⟩;refine kD hK ?_;clear hK K;refine wDn ?_ _;have hbW:=zF hb4;have HX4:=hI (HX3.o.below hbW);have HXB4:=hI (HXB3.o.below hbW);have HPD:=hI (HPC.o.trans (by rw[show decide (((A0,A1):Ty)=(A0,A1))=true from decide_eq_true rfl];rfl:_=(qQL E ks).bind fun es=>.ok (.mk aop (A0,A1) an av ag al ac es)));have hK4:=HX4.o.kids;have HI:=hI (qVE B L E ks q c w4 HWK.o HREC.o HX4.o.en (by have:=HX4.o.bl.size;have:=HX4.o.hL;omega) hK4 (by omega));clear n0 n1 n2 n3 n4 n5 t0 t1 x0 x1 x2 x3 x4 x5 x6 x7 x8 xf0 xf1 xf2 xf3 xf4 xf5 xf6 xf7 xf8 hb4 hbW HX3 HXB3 HNY HNN HNA hK4;obtain⟨n0,n1,n2,n3,n4,n5⟩:=HX4.o.nd.cells;go_wp2_with fail
   refine(HI.o).mono ?_;rintro e w5 hX;rcases hX.cases with⟨es,u,hp,rfl,hles,hb5⟩ | ⟨l',c',code,hp,rfl,hb5⟩;rotate_left
   ·exact⟨rfl,zP.badI (by rw[HPD.o,hp];rfl) ⟨rfl,HX4.o.bl.trans (hb5.mono HX4.o.bl.size)⟩⟩
   obtain⟨uq,uc,rfl⟩:=hles.shape;have HQ:=hI (HPD.o.trans (by rw[hp];rfl:_=.ok (.mk aop (A0,A1) an av ag al ac es)));have hs5:=HX4.o.sz;have HLS:=hI (hles.mono (ok':=fun g=>w.1.size+4<=g) (fun g hg=>by omega));have HX:=hI (HX4.o.below hb5);have HXB:=hI (HXB4.o.below hb5);clear n0 n1 n2 n3 n4 n5 hX hp hles hb5 HI HX4 HXB4;have⟨r0,r1,r2,r3,r4,r5,r6,r7,r8,_⟩:=HX.o.rs.a;have⟨rf0,rf1,rf2,rf3,rf4,rf5,rf6,rf7,rf8,_⟩:=HX.o.rs.b;have xb:=HXB.o;unfold XB at xb;simp only[qQ.line,qQ.col,Nat.add_zero]at xb;have⟨x0,x1,x2,x3,x4,x5,x6,x7,x8,_⟩:=xb.a;have⟨xf0,xf1,xf2,xf3,xf4,xf5,xf6,xf7,xf8,_⟩:=xb.b;clear xb;have rl:=HX.o.rs.lt;have xl:=HXB.o.lt;go_wp2
   refine bodyPost_ret (v:=exV (.mk aop (A0,A1) an av ag al ac es) (.slice uq es.length uc)) (by simp[results,results134,go_sem,exV,r0,r1,r2,r3,r4,r5,r6,r7,r8,rl]) rfl (zP.okI HQ.o ⟨_,rfl,?_⟩ ?_)
   ·exact qU.mono (qU.set9 (qU.setN HLS.o (by omega) _) (by omega) _ _ _ _ _ _ _ _ _) (fun g hg=>by omega)
   ·exact set9 (jR HX.o.bl (by omega) _) (by omega) _ _ _ _ _ _ _ _ _
  ·skip
   refine wRg (S:=fun w'=>Below V.1.size V w') 5 ?_;refine wTk 0 82 (.pointer (some ⟨w.1.size+1+1+1,1,none⟩)) ?_ (bD V) ?_
   ·intro _ y;go_simp
   refine wTk 1 83 (.agg #[.int .i64 A0, .bool A1]) ?_ (bD V) ?_
   ·intro _ y;obtain⟨t0,t1,x0,x1,x2,n0,n1,n2,n3,n4,n5⟩:=kP11 y t0 t1 x0 x1 x2 n0 n1 n2 n3 n4 n5;go_simp
   refine wTk 2 84 (.agg #[.int .i64 T0, .bool T1]) ?_ (bD V) ?_
   ·intro _ y;obtain⟨t0,t1,x0,x1,x2,n0,n1,n2,n3,n4,n5⟩:=kP11 y t0 t1 x0 x1 x2 n0 n1 n2 n3 n4 n5;go_simp
   refine wTk 3 85 (.bool false) ?_ (bD V) ?_
   ·intro _ y;clear y;by_cases hz1:A0=T0
    ·have hz2:¬A1=T1:=fun e=>hz (by rw[hz1,e])
     subst hz1;cases A1 <;> cases T1 <;> first | exact absurd rfl hz2 | go_simp
    ·go_simp
   refine wTk 4 86 (.agg #[.string ⟨k.toArray⟩, .string ⟨x.toArray⟩, .int .u64 m, .int .i64 al, .int .i64 ac, .slice q ks.length c]) ?_ (bD V) ?_
   ·intro _ y;obtain⟨t0,t1,x0,x1,x2,n0,n1,n2,n3,n4,n5⟩:=kP11 y t0 t1 x0 x1 x2 n0 n1 n2 n3 n4 n5;go_simp
   refine wOn 5 fun K hK=>?_
   go_simp;refine(HNN.o _).mono ?_;rintro e w4 ⟨rfl,hb4⟩;exact⟨rfl,zP.badI (by rw[HPC.o,show decide (((A0,A1):Ty)=(T0,T1))=false from decide_eq_false hz];rfl) ⟨rfl,HX3.o.bl.trans ((zF hb4).mono HX3.o.bl.size)⟩⟩
 case true =>
  simp only[h4,bO,bU]at h3;go_enter func134,ntmps134
  go_wp2_with fail
  generalize ((((w.alloc _).alloc _).alloc _).alloc _)=W at *;obtain⟨HX,HXB⟩:=HX.o;have HX:=hI HX;have HXB:=hI HXB;refine(HPL.o).mono ?_;rintro e w2 hX;rcases hX.cases with⟨a,u,hp,rfl,rfl,hb2⟩ | ⟨l',c',code,hp,rfl,hb2⟩;rotate_left
  ·exact⟨rfl,zP.badI (by rw[HPB.o,hp];rfl) ⟨rfl,HX.o.bl.trans (hb2.mono HX.o.bl.size)⟩⟩
  obtain⟨aop,⟨A0,A1⟩,an,av,ag,al,ac,ak⟩:=a;obtain⟨rfl,rfl,rfl⟩:al=ln/\ac=co/\ak=[]:=by
   unfold qQ1 at hp;cases hf:qZD E (.mk k x m ln co ks)with
   | bad _ _ _=>rw[hf]at hp;cases hp
   | ok r =>
    rw[hf]at hp;simp only[CR.bind,jQ]at hp;split at hp
    ·simp only[qQ.line,qQ.col,CR.ok.injEq,Ex.mk.injEq]at hp;exact⟨hp.2.2.2.2.2.1.symm,hp.2.2.2.2.2.2.1.symm,hp.2.2.2.2.2.2.2.symm⟩
    ·cases hp
  unfold exV;have HPC:=hI (HPB.o.trans (by rw[hp];rfl:_=(jQ (decide (((A0,A1):Ty)=(T0,T1))) (.mk k x m al ac ks) 41).bind fun _=>(qQL E ks).bind fun es=>.ok (.mk aop (A0,A1) an av ag al ac es)));have HX2:=hI (HX.o.below hb2);have HXB2:=hI (HXB.o.below hb2);have hbs:=hb2.size;clear hX HPL hp hb2 HX HXB;obtain⟨n0,n1,n2,n3,n4,n5⟩:=HX2.o.nd.cells;have t0:=HX2.o.ty.c0;have t1:=HX2.o.ty.c1;have xb:=HXB2.o;unfold XB at xb;simp only[qQ.line,qQ.col,Nat.add_zero]at xb;have⟨x0,x1,x2,x3,x4,x5,x6,x7,x8,_⟩:=xb.a;have⟨xf0,xf1,xf2,xf3,xf4,xf5,xf6,xf7,xf8,_⟩:=xb.b;clear xb;have hs4:=HX2.o.sz;have hna:¬w.1.size+1+1+1=w.1.size+1+1:=by omega
  go_wp2
  have HX3:=hI (HX2.o.turn (set9 (N:=w.1.size+1+1+1) (Below.refl (w.1.size+3) w2) (by omega) (.string ⟨aop.toArray⟩) (.int .i64 A0) (.bool A1) (.int .u64 an) (.int .i64 av) (.bool ag) (.int .i64 al) (.int .i64 ac) (.slice none 0 0)));have HXB3:=hI (XB.set9 (op':=aop) (T':=(A0,A1)) (n':=an) (va':=av) (g':=ag) (kv':=.slice none 0 0) HXB2.o);simp only[qQ.line,qQ.col]at HXB3;clear n0 n1 n2 n3 n4 n5 t0 t1 x0 x1 x2 x3 x4 x5 x6 x7 x8 xf0 xf1 xf2 xf3 xf4 xf5 xf6 xf7 xf8 HX2 HXB2;generalize (World.setCell (World.setCell (World.setCell (World.setCell (World.setCell (World.setCell (World.setCell (World.setCell (World.setCell w2 ⟨w.1.size+1+1+1,0,none⟩ (.string ⟨aop.toArray⟩)) ⟨w.1.size+1+1+1,1,none⟩ (.int .i64 A0)) ⟨w.1.size+1+1+1,2,none⟩ (.bool A1)) ⟨w.1.size+1+1+1,3,none⟩ (.int .u64 an)) ⟨w.1.size+1+1+1,4,none⟩ (.int .i64 av)) ⟨w.1.size+1+1+1,5,none⟩ (.bool ag)) ⟨w.1.size+1+1+1,6,none⟩ (.int .i64 al)) ⟨w.1.size+1+1+1,7,none⟩ (.int .i64 ac)) ⟨w.1.size+1+1+1,8,none⟩ (.slice none 0 0))=V at *;obtain⟨n0,n1,n2,n3,n4,n5⟩:=HX3.o.nd.cells;have t0:=HX3.o.ty.c0;have t1:=HX3.o.ty.c1;have xb:=HXB3.o;unfold XB at xb;simp only[qQ.line,qQ.col,Nat.add_zero]at xb;have⟨x0,x1,x2,x3,x4,x5,x6,x7,x8,_⟩:=xb.a;have⟨xf0,xf1,xf2,xf3,xf4,xf5,xf6,xf7,xf8,_⟩:=xb.b;clear xb;by_cases hz:((A0,A1):Ty)=(T0,T1)
  ·injection hz with hz1 hz2;subst hz1 hz2;refine wRg (S:=fun w'=>Below V.1.size V w') 5 ?_;refine wTk 0 82 (.pointer (some ⟨w.1.size+1+1+1,1,none⟩)) ?_ (bD V) ?_
   ·intro _ y;go_simp
   refine wTk 1 83 (.agg #[.int .i64 A0, .bool A1]) ?_ (bD V) ?_
   ·intro _ y;obtain⟨t0,t1,x0,x1,x2,n0,n1,n2,n3,n4,n5⟩:=kP11 y t0 t1 x0 x1 x2 n0 n1 n2 n3 n4 n5;go_simp
   refine wTk 2 84 (.agg #[.int .i64 A0, .bool A1]) ?_ (bD V) ?_
   ·intro _ y;obtain⟨t0,t1,x0,x1,x2,n0,n1,n2,n3,n4,n5⟩:=kP11 y t0 t1 x0 x1 x2 n0 n1 n2 n3 n4 n5;go_simp
   refine wTk 3 85 (.bool true) ?_ (bD V) ?_
   ·intro _ y;obtain⟨t0,t1,x0,x1,x2,n0,n1,n2,n3,n4,n5⟩:=kP11 y t0 t1 x0 x1 x2 n0 n1 n2 n3 n4 n5;go_simp
   refine wTk 4 86 (.agg #[.string ⟨k.toArray⟩, .string ⟨x.toArray⟩, .int .u64 m, .int .i64 al, .int .i64 ac, .slice q ks.length c]) ?_ (bD V) ?_
   ·intro _ y;obtain⟨t0,t1,x0,x1,x2,n0,n1,n2,n3,n4,n5⟩:=kP11 y t0 t1 x0 x1 x2 n0 n1 n2 n3 n4 n5;go_simp
   refine wOn 5 fun K hK=>?_
   go_simp;refine(HNY.o _).mono ?_;rintro e w4 ⟨rfl,hb4⟩;refine kD hK ?_;clear hK K;refine wDn ?_ _;have hbW:=zF hb4;have HX4:=hI (HX3.o.below hbW);have HXB4:=hI (HXB3.o.below hbW);have HPD:=hI (HPC.o.trans (by rw[show decide (((A0,A1):Ty)=(A0,A1))=true from decide_eq_true rfl];rfl:_=(qQL E ks).bind fun es=>.ok (.mk aop (A0,A1) an av ag al ac es)));have hK4:=HX4.o.kids;have HI:=hI (qVE B L E ks q c w4 HWK.o HREC.o HX4.o.en (by have:=HX4.o.bl.size;have:=HX4.o.hL;omega) hK4 (by omega));clear n0 n1 n2 n3 n4 n5 t0 t1 x0 x1 x2 x3 x4 x5 x6 x7 x8 xf0 xf1 xf2 xf3 xf4 xf5 xf6 xf7 xf8 hb4 hbW HX3 HXB3 HNY HNN HNA hK4;obtain⟨n0,n1,n2,n3,n4,n5⟩:=HX4.o.nd.cells;go_wp2_with fail
   refine(HI.o).mono ?_;rintro e w5 hX;rcases hX.cases with⟨es,u,hp,rfl,hles,hb5⟩ | ⟨l',c',code,hp,rfl,hb5⟩;rotate_left
   ·exact⟨rfl,zP.badI (by rw[HPD.o,hp];rfl) ⟨rfl,HX4.o.bl.trans (hb5.mono HX4.o.bl.size)⟩⟩
   obtain⟨uq,uc,rfl⟩:=hles.shape;have HQ:=hI (HPD.o.trans (by rw[hp];rfl:_=.ok (.mk aop (A0,A1) an av ag al ac es)));have hs5:=HX4.o.sz;have HLS:=hI (hles.mono (ok':=fun g=>w.1.size+4<=g) (fun g hg=>by omega));have HX:=hI (HX4.o.below hb5);have HXB:=hI (HXB4.o.below hb5);clear n0 n1 n2 n3 n4 n5 hX hp hles hb5 HI HX4 HXB4;have⟨r0,r1,r2,r3,r4,r5,r6,r7,r8,_⟩:=HX.o.rs.a;have⟨rf0,rf1,rf2,rf3,rf4,rf5,rf6,rf7,rf8,_⟩:=HX.o.rs.b;have xb:=HXB.o;unfold XB at xb;simp only[qQ.line,qQ.col,Nat.add_zero]at xb;have⟨x0,x1,x2,x3,x4,x5,x6,x7,x8,_⟩:=xb.a;have⟨xf0,xf1,xf2,xf3,xf4,xf5,xf6,xf7,xf8,_⟩:=xb.b;clear xb;have rl:=HX.o.rs.lt;have xl:=HXB.o.lt;go_wp2
   refine bodyPost_ret (v:=exV (.mk aop (A0,A1) an av ag al ac es) (.slice uq es.length uc)) (by simp[results,results134,go_sem,exV,r0,r1,r2,r3,r4,r5,r6,r7,r8,rl]) rfl (zP.okI HQ.o ⟨_,rfl,?_⟩ ?_)
   ·exact qU.mono (qU.set9 (qU.setN HLS.o (by omega) _) (by omega) _ _ _ _ _ _ _ _ _) (fun g hg=>by omega)
   ·exact set9 (jR HX.o.bl (by omega) _) (by omega) _ _ _ _ _ _ _ _ _
  ·skip
   refine wRg (S:=fun w'=>Below V.1.size V w') 5 ?_;refine wTk 0 82 (.pointer (some ⟨w.1.size+1+1+1,1,none⟩)) ?_ (bD V) ?_
   ·intro _ y;go_simp
   refine wTk 1 83 (.agg #[.int .i64 A0, .bool A1]) ?_ (bD V) ?_
   ·intro _ y;obtain⟨t0,t1,x0,x1,x2,n0,n1,n2,n3,n4,n5⟩:=kP11 y t0 t1 x0 x1 x2 n0 n1 n2 n3 n4 n5;go_simp
   refine wTk 2 84 (.agg #[.int .i64 T0, .bool T1]) ?_ (bD V) ?_
   ·intro _ y;obtain⟨t0,t1,x0,x1,x2,n0,n1,n2,n3,n4,n5⟩:=kP11 y t0 t1 x0 x1 x2 n0 n1 n2 n3 n4 n5;go_simp
   refine wTk 3 85 (.bool false) ?_ (bD V) ?_
   ·intro _ y;clear y;by_cases hz1:A0=T0
    ·have hz2:¬A1=T1:=fun e=>hz (by rw[hz1,e])
     subst hz1;cases A1 <;> cases T1 <;> first | exact absurd rfl hz2 | go_simp
    ·go_simp
   refine wTk 4 86 (.agg #[.string ⟨k.toArray⟩, .string ⟨x.toArray⟩, .int .u64 m, .int .i64 al, .int .i64 ac, .slice q ks.length c]) ?_ (bD V) ?_
   ·intro _ y;obtain⟨t0,t1,x0,x1,x2,n0,n1,n2,n3,n4,n5⟩:=kP11 y t0 t1 x0 x1 x2 n0 n1 n2 n3 n4 n5;go_simp
   refine wOn 5 fun K hK=>?_
   go_simp;refine(HNN.o _).mono ?_;rintro e w4 ⟨rfl,hb4⟩;exact⟨rfl,zP.badI (by rw[HPC.o,show decide (((A0,A1):Ty)=(T0,T1))=false from decide_eq_false hz];rfl) ⟨rfl,HX3.o.bl.trans ((zF hb4).mono HX3.o.bl.size)⟩⟩
theorem exp_cast(k x:List UInt8)(m ln co:Int)(ks:List qQ)(hw:wfE (.mk k x m ln co ks)=true)(hrec:∀ u∈ks,qXL u)(h1:(k == zD)=false)(h2:(k == zL || k == qH)=false)(h3:(k == zM || k == qL)=false)(h5:(k == zK)=true):qXL (.mk k x m ln co ks):=by
 intro B L E v T w h hL hl;obtain⟨q,c,rfl,hc1,hc2,hK⟩:=hl.kids;have HX:=hI (XIn.new (T:=T) h hL hl);have hw2:2 < w.1.size:=by
  obtain⟨gv,vv,Mg,Mo,Mr,F,o,cl,hE⟩:=h;exact qJ hE.d0
 obtain⟨hx,⟨hm0,hm1⟩,hwk,hwf⟩:=qQs hw;have hkl:ks.length<=2:=by rcases hwf with⟨_,h⟩ | ⟨_,h⟩ | ⟨_,_,h⟩ <;> first | omega | simp[h]
 clear h hl hK;obtain⟨T0,T1⟩:=T;have HP:=hI (qK3 E k x m ln co ks (T0,T1));have HPB:=hI (show qQT E (.mk k x m ln co ks) (T0,T1)=(jQ (decide (tyL x=(T0,T1))) (.mk k x m ln co ks) 41).bind fun _=>(yB E ks).bind fun u=>(vD E ks u).bind fun es=>.ok (.mk zK (T0,T1) 0 0 false ln co es) by rw[HP.o,h1,h2,h3,h5];rfl);have HTY:=hI (fun w' (hb:Below w.1.size w w')=>(qKd (.mk k x m ln co ks) (.slice q ks.length c) w' (by obtain⟨gv,vv,Mg,Mo,Mr,F,o,cl,hE⟩:=HX.o.1.e0;exact hE.wt.below hb)));have HREC:=hI hrec;have HWK:=hI hwk;clear HP hrec hwk hwf;simp only[Bool.or_eq_false_iff]at h2 h3;obtain⟨h2a,h2b⟩:=h2;obtain⟨h3a,h3b⟩:=h3;simp only[qZ,tyV,qB,tyO,exO,qS,zD,tQ]at HX ⊢;have HNY:=hI (fun w'=>qQl (.mk k x m ln co ks) (.slice q ks.length c) 41 w');have HNN:=hI (fun w'=>qQ5 (.mk k x m ln co ks) (.slice q ks.length c) 41 w');simp only[qZ,tQ]at HNY HNN;simp only[qZ,tQ]at HTY;generalize hU:tyL x=U at *;obtain⟨U0,U1⟩:=U;unfold tyV at HTY;simp only at HTY;unfold zD at h1;unfold zL at h2a;unfold qH at h2b;unfold zM at h3a;unfold qL at h3b;unfold zK at h5;go_enter func134,ntmps134
 go_wp2
 generalize ((((w.alloc _).alloc _).alloc _).alloc _)=W at *;obtain⟨HX,HXB⟩:=HX.o;have HX:=hI HX;have HXB:=hI HXB;obtain⟨n0,n1,n2,n3,n4,n5⟩:=HX.o.nd.cells;have t0:=HX.o.ty.c0;have t1:=HX.o.ty.c1;have hs4:=HX.o.sz;have hna:¬w.1.size+1+1+1=w.1.size+1+1:=by omega
 by_cases hz:((U0,U1):Ty)=(T0,T1)
 ·injection hz with hz1 hz2;subst hz1 hz2;refine wRg (S:=fun w'=>Below W.1.size W w') 5 ?_;refine wTk 0 95 (.agg #[.string ⟨k.toArray⟩, .string ⟨x.toArray⟩, .int .u64 m, .int .i64 ln, .int .i64 co, .slice q ks.length c]) ?_ (bD W) ?_
  ·intro _ y;obtain⟨t0,t1,n0,n1,n2,n3,n4,n5⟩:=kP8 y t0 t1 n0 n1 n2 n3 n4 n5;go_simp
  refine wTk 2 97 (.agg #[.int .i64 U0, .bool U1]) ?_ (bD W) ?_
  ·intro _ y;obtain⟨t0,t1,n0,n1,n2,n3,n4,n5⟩:=kP8 y t0 t1 n0 n1 n2 n3 n4 n5;go_simp
  refine wTk 4 99 (.agg #[.string ⟨k.toArray⟩, .string ⟨x.toArray⟩, .int .u64 m, .int .i64 ln, .int .i64 co, .slice q ks.length c]) ?_ (bD W) ?_
  ·intro _ y;obtain⟨t0,t1,n0,n1,n2,n3,n4,n5⟩:=kP8 y t0 t1 n0 n1 n2 n3 n4 n5;go_simp
  refine wOn 1 fun K hK=>?_
  go_simp;refine(HTY.o _ HX.o.bl.drew).mono ?_;rintro e w3 ⟨rfl,hb3⟩;have hbW:=zF hb3;refine kK hK hbW ?_;clear hK K;refine wTk 3 98 (.bool true) ?_ (hbW) ?_
  ·intro _ y;go_simp
  refine wOn 5 fun K hK=>?_
  go_simp;refine(HNY.o _).mono ?_;rintro e w4 ⟨rfl,hb4⟩;refine kD hK ?_;clear hK K;refine wDn ?_ _;have hbW2:=hbW.trans (hb4.mono hbW.size);have HX4:=hI (HX.o.below hbW2);have HXB4:=hI (HXB.o.below hbW2);have HPD:=hI (HPB.o.trans (by rw[show decide (((U0,U1):Ty)=(U0,U1))=true from decide_eq_true rfl];rfl:_=(yB E ks).bind fun u=>(vD E ks u).bind fun es=>.ok (.mk zK (U0,U1) 0 0 false ln co es)));have hs4':=HX4.o.sz;have hL4:=HX4.o.hL;clear n0 n1 n2 n3 n4 n5 t0 t1 hb3 hb4 hbW hbW2 HX HXB HNY HNN HTY HPB;obtain⟨n0,n1,n2,n3,n4,n5⟩:=HX4.o.nd.cells;go_wp2
  refine wW (S:=fun w'=>Below (w.1.size+3) w4 w') (tail:=fun _=>false) (by kernel_rfl) ?_;change vR _ _ _ _ _ _ _ _ _ (World.drew _);refine wTk 0 101 (.pointer (some ⟨B,0,none⟩)) ?_ ((Below.refl (w.1.size+3) w4).drew) ?_
  ·intro _ y;go_simp
  refine wTk 1 102 (.pointer (some ⟨w.1.size,5,none⟩)) ?_ ((Below.refl (w.1.size+3) w4).drew) ?_
  ·intro _ y;go_simp
  refine wTk 2 103 (.slice q ks.length c) ?_ ((Below.refl (w.1.size+3) w4).drew) ?_
  ·intro _ y;have n5:=(y.cell (p:=⟨_,_,none⟩) (by simp)).trans n5;go_simp
  refine wTk 3 104 (.pointer (some ⟨B,0,none⟩)) ?_ ((Below.refl (w.1.size+3) w4).drew) ?_
  ·intro _ y;go_simp
  refine wTk 4 105 (.pointer (some ⟨w.1.size,5,none⟩)) ?_ ((Below.refl (w.1.size+3) w4).drew) ?_
  ·intro _ y;go_simp
  refine wTk 5 106 (.slice q ks.length c) ?_ ((Below.refl (w.1.size+3) w4).drew) ?_
  ·intro _ y;have n5:=(y.cell (p:=⟨_,_,none⟩) (by simp)).trans n5;go_simp
  refine wTk 8 109 (.pointer (some ⟨w.1.size+1+1+1,0,none⟩)) ?_ ((Below.refl (w.1.size+3) w4).drew) ?_
  ·intro _ y;go_simp
  refine wOn 6 fun K hK=>?_
  go_simp;refine(qKD B L E ks q c _ (qJV ks HWK.o) HX4.o.en.drew (by simp;omega) (HX4.o.kids.keep (Below.refl _ _).drew) (by omega)).mono ?_;rintro e w5 hX;rcases hX.cases with⟨⟨V0,V1⟩,u,hp,rfl,rfl,hb5⟩ | ⟨l',c',code,hp,rfl,hb5⟩;rotate_left
  ·exact⟨rfl,zP.badI (by rw[HPD.o,hp];rfl) ⟨rfl,HX4.o.bl.trans ((zF hb5).mono HX4.o.bl.size)⟩⟩
  have hb5:=zF hb5;have HX5:=hI (HX4.o.below hb5);have HXB5:=hI (HXB4.o.below hb5);have hs5:=hb5.size;have HPE:=hI (HPD.o.trans (by rw[hp];rfl:_=(vD E ks (V0,V1)).bind fun es=>.ok (.mk zK (U0,U1) 0 0 false ln co es)));unfold tyV;clear hX hp;refine kK hK (hb5.mono (by omega)) ?_;clear hK K;refine wOn 7 fun K hK=>?_
  go_simp;refine(qZs B L E ks q c (V0,V1) _ HREC.o HX5.o.en (by omega) HX5.o.kids (by omega)).mono ?_;rintro e w6 hX;rcases hX.cases with⟨es,u,hp,rfl,hles,hb6⟩ | ⟨l',c',code,hp,rfl,hb6⟩;rotate_left
  ·exact⟨rfl,zP.badI (by rw[HPE.o,hp];rfl) ⟨rfl,HX5.o.bl.trans (hb6.mono HX5.o.bl.size)⟩⟩
  obtain⟨uq,uc,rfl⟩:=hles.shape;have HX:=hI (HX5.o.below hb6);have HXB:=hI (HXB5.o.below hb6);have hs6:=hb6.size;have HQ:=hI (HPE.o.trans (by rw[hp];rfl:_=.ok (.mk zK (U0,U1) 0 0 false ln co es)));have HLS:=hI (hles.mono (ok':=fun g=>w.1.size+4<=g) (fun g hg=>by omega));have hbs6:Below (w.1.size+3) w4 w6:=(hb5.mono (by omega)).trans (hb6.mono (by omega));clear hX hp hles;have⟨r0,r1,r2,r3,r4,r5,r6,r7,r8,_⟩:=HX.o.rs.a;have⟨rf0,rf1,rf2,rf3,rf4,rf5,rf6,rf7,rf8,_⟩:=HX.o.rs.b;have xb:=HXB.o;unfold XB at xb;simp only[qQ.line,qQ.col,Nat.add_zero]at xb;have⟨x0,x1,x2,x3,x4,x5,x6,x7,x8,_⟩:=xb.a;have⟨xf0,xf1,xf2,xf3,xf4,xf5,xf6,xf7,xf8,_⟩:=xb.b;clear xb;have rl:=HX.o.rs.lt;have xl:=HXB.o.lt;refine kK hK hbs6 ?_;clear hK K;refine wOn 9 fun K hK=>?_
  go_simp;refine kK hK (jR hbs6 (by omega) _) ?_;clear hK K;refine wOn 10 fun K hK=>?_
  go_simp;refine kK hK (jR hbs6 (by omega) _) ?_;clear hK K;refine wOn 11 fun K hK=>?_
  go_simp;refine kK hK (jR (jR hbs6 (by omega) _) (by omega) _) ?_;clear hK K;refine wDn ?_ _;go_wp2
  refine bodyPost_ret (v:=exV (.mk zK (U0,U1) 0 0 false ln co es) (.slice uq es.length uc)) (by simp[results,results134,go_sem,exV,zK,r0,r1,r2,r3,r4,r5,r6,r7,r8,rl]) rfl (zP.okI HQ.o ⟨_,rfl,?_⟩ ?_)
  ·exact qU.mono (qU.set9 (qU.setN (qU.setN HLS.o (by omega) _) (by omega) _) (by omega) _ _ _ _ _ _ _ _ _) (fun g hg=>by omega)
  ·exact set9 (jR (jR HX.o.bl (by omega) _) (by omega) _) (by omega) _ _ _ _ _ _ _ _ _
 ·skip
  refine wRg (S:=fun w'=>Below W.1.size W w') 5 ?_;refine wTk 0 95 (.agg #[.string ⟨k.toArray⟩, .string ⟨x.toArray⟩, .int .u64 m, .int .i64 ln, .int .i64 co, .slice q ks.length c]) ?_ (bD W) ?_
  ·intro _ y;obtain⟨t0,t1,n0,n1,n2,n3,n4,n5⟩:=kP8 y t0 t1 n0 n1 n2 n3 n4 n5;go_simp
  refine wTk 2 97 (.agg #[.int .i64 T0, .bool T1]) ?_ (bD W) ?_
  ·intro _ y;obtain⟨t0,t1,n0,n1,n2,n3,n4,n5⟩:=kP8 y t0 t1 n0 n1 n2 n3 n4 n5;go_simp
  refine wTk 4 99 (.agg #[.string ⟨k.toArray⟩, .string ⟨x.toArray⟩, .int .u64 m, .int .i64 ln, .int .i64 co, .slice q ks.length c]) ?_ (bD W) ?_
  ·intro _ y;obtain⟨t0,t1,n0,n1,n2,n3,n4,n5⟩:=kP8 y t0 t1 n0 n1 n2 n3 n4 n5;go_simp
  refine wOn 1 fun K hK=>?_
  go_simp;refine(HTY.o _ HX.o.bl.drew).mono ?_;rintro e w3 ⟨rfl,hb3⟩;have hbW:=zF hb3;refine kK hK hbW ?_;clear hK K;refine wTk 3 98 (.bool false) ?_ (hbW) ?_
  ·intro _ y;clear y;by_cases hz1:U0=T0
   ·have hz2:¬U1=T1:=fun e=>hz (by rw[hz1,e])
    subst hz1;cases U1 <;> cases T1 <;> first | exact absurd rfl hz2 | go_simp
   ·go_simp
  refine wOn 5 fun K hK=>?_
  go_simp;refine(HNN.o _).mono ?_;rintro e w4 ⟨rfl,hb4⟩;exact⟨rfl,zP.badI (by rw[HPB.o,show decide (((U0,U1):Ty)=(T0,T1))=false from decide_eq_false hz];rfl) ⟨rfl,HX.o.bl.trans ((hbW.trans (hb4.mono hbW.size)).mono HX.o.bl.size)⟩⟩
end Go.Proofs.YtiajhekdhhhghaaGreatDoor
