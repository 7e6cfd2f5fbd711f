/- Walks. -/
import Derived.Test.YtiajhekdhhhghaaGreatDoorMaf
set_option linter.all false
set_option maxHeartbeats 8000000
set_option maxRecDepth 100000
namespace Go.Proofs.YtiajhekdhhhghaaGreatDoor
open Tryz Go.Proofs.Tryz
open Go Go.RowKit
theorem xG{P:Program}{ops:Array Oper}{Q:Exit->Act->World->Prop}{md:Region.Mode}{S:World->Prop}{tail:Nat->Bool}{i d:Nat}{oi:Oper}{fuel:Nat}{listed:Array Bool}{a:Act}{w:World}(hi:ops[i]? = some oi)(hd:oi.dst=some d)
 (hs:(Region.noSelect ops && Region.free md ops listed i && (Region.ready md ops listed).contains i && qXz md ops tail i && qZM md ops listed && !tail i)=true)
 (hQ:∀ c a w,Q (.panic c) (a.put oi.dst undef) w->Q (.panic c) a w) (hw:Region.wanted oi (yielded ops a.tmps)=false) (hS:S w)
 (h:vR P md ops Q S tail fuel (listed.setIfInBounds i true) (a.put (some d) undef) w):vR P md ops Q S tail (fuel+1) listed a w:=by
 simp only[bE,Bool.not_eq_true']at hs;exact qVp hi (Region.noSelect_spec hs.1.1.1.1.1) hQ hs.1.1.2 hs.2 fuel listed a w (Region.free_spec hi hs.1.1.1.1.2) hs.1.2 (by simpa using hs.1.1.1.2) (.inr ⟨hw,rfl⟩) hS (by rw[hd];exact h)
structure XIn(B L:Nat)(E:Env)(t:qQ)(v:Value)(T:Ty)(w W:World):Prop where
 bl:Below w.1.size w W
 sz:w.1.size+4<=W.1.size
 e0:EAt B E w
 nd:Bx w.1.size t v W
 ty:qZ7 (w.1.size+1) T W
 rs:qQf (w.1.size+1+1) [] (0,false) 0 0 false 0 0 (.slice none 0 0) W
 l0:xZ w (· < L) t v
 hL:L<=w.1.size
theorem XIn.en{B L:Nat}{E:Env}{t:qQ}{v:Value}{T:Ty}{w W:World}(h:XIn B L E t v T w W):EAt B E W:=h.e0.below h.bl
theorem XIn.li{B L:Nat}{E:Env}{t:qQ}{v:Value}{T:Ty}{w W:World}(h:XIn B L E t v T w W):xZ W (· < L) t v :=
 have hL:=h.hL;xZ.move (fun g hg hok=>⟨hok,h.bl.block g (by omega)⟩) t v h.l0
theorem XIn.kids{B L:Nat}{E:Env}{k x:List UInt8}{m ln co:Int}{ks:List qQ}{q:Option Addr}{n c:Nat}{T:Ty}{w W:World}(h:XIn B L E (.mk k x m ln co ks) (.slice q n c) T w W):yD L W ks q:=by
 obtain⟨q',c',e,_,_,hK⟩:=h.li.kids;injection e with e1 e2 e3;rw[e1];exact hK
theorem XIn.turn{B L:Nat}{E:Env}{t:qQ}{v:Value}{T:Ty}{w W W':World}(h:XIn B L E t v T w W)(hb:Below (w.1.size+3) W W'):XIn B L E t v T w W' :=
 have kc:∀ {g o:Nat} {u:Value},g < w.1.size+3->W.cell? ⟨g,o,none⟩=some u->W'.cell? ⟨g,o,none⟩=some u:=fun hg e=>(hb.cell (p:=⟨_,_,none⟩) hg).trans e
 have kf:∀ {g o:Nat} {b:Bool},g < w.1.size+3->W.frozen? ⟨g,o,none⟩=b->W'.frozen? ⟨g,o,none⟩=b:=fun hg e=>(hb.frozen (p:=⟨_,_,none⟩) hg).trans e
 ⟨h.bl.trans (hb.mono (by omega)),Nat.le_trans h.sz hb.size,h.e0,(hb.block _ (by omega)).trans h.nd,⟨kc (by omega) h.ty.c0,kc (by omega) h.ty.c1,kf (by omega) h.ty.f0,kf (by omega) h.ty.f1⟩,
  ⟨kc (by omega) h.rs.c0,kc (by omega) h.rs.c1,kc (by omega) h.rs.c2,kc (by omega) h.rs.c3,kc (by omega) h.rs.c4,kc (by omega) h.rs.c5,kc (by omega) h.rs.c6,kc (by omega) h.rs.c7,kc (by omega) h.rs.c8,fun k hk=>kf (by omega) (h.rs.f k hk)⟩,h.l0,h.hL⟩
def XB(k:Nat)(op:List UInt8)(T:Ty)(n va:Int)(g:Bool)(t:qQ)(kv:Value)(w W:World):Prop:=qQf (w.1.size+1+1+k) op T n va g t.line t.col kv W
theorem XIn.new{B L:Nat}{E:Env}{t:qQ}{v:Value}{T:Ty}{w:World}(h:EAt B E w)(hL:L<=w.1.size)(hl:xZ w (· < L) t v) :
 XIn B L E t v T w ((((w.alloc (qB t v)).alloc (tyO T)).alloc (exO [] (0,false) 0 0 false 0 0 (.slice none 0 0))).alloc (exO zD T 0 0 false t.line t.col (.slice none 0 0))) /\
 XB 1 zD T 0 0 false t (.slice none 0 0) w ((((w.alloc (qB t v)).alloc (tyO T)).alloc (exO [] (0,false) 0 0 false 0 0 (.slice none 0 0))).alloc (exO zD T 0 0 false t.line t.col (.slice none 0 0))):=by
 have b1:=bal (Below.refl w.1.size w) (qB t v);have b4:=bal (bal (bal b1 (tyO T)) (exO [] (0,false) 0 0 false 0 0 (.slice none 0 0))) (exO zD T 0 0 false t.line t.col (.slice none 0 0));have r:=fun w:World=>Below.refl w.1.size w
 refine⟨⟨b4,by simp,h,(Bx.new t v w).below (bal (bal (bal (r _) _) _) _),?_,?_,hl,hL⟩,?_⟩
 ·have:=(qZ7.new T (w.alloc (qB t v))).below (bal (bal (r _) (exO [] (0,false) 0 0 false 0 0 (.slice none 0 0))) (exO zD T 0 0 false t.line t.col (.slice none 0 0)));simpa using this
 ·have:=(qQf.new [] (0,false) 0 0 false 0 0 (.slice none 0 0) ((w.alloc (qB t v)).alloc (tyO T))).below (bal (r _) (exO zD T 0 0 false t.line t.col (.slice none 0 0)));simpa using this
 ·have:=qQf.new zD T 0 0 false t.line t.col (.slice none 0 0) (((w.alloc (qB t v)).alloc (tyO T)).alloc (exO [] (0,false) 0 0 false 0 0 (.slice none 0 0)));unfold XB;simpa using this
theorem XIn.below{B L:Nat}{E:Env}{t:qQ}{v:Value}{T:Ty}{w W W':World}(h:XIn B L E t v T w W)(hb:Below W.1.size W W'):XIn B L E t v T w W' :=
 have hs:=h.sz;h.turn (hb.mono (by omega))
theorem XB.set9{k:Nat}{op op':List UInt8}{T T':Ty}{n va n' va':Int}{g g':Bool}{t:qQ}{kv kv':Value}{w W:World}(h:XB k op T n va g t kv w W):XB k op' T' n' va' g' t kv' w (((((((((W.setCell ⟨w.1.size+1+1+k,0,none⟩ (.string ⟨op'.toArray⟩)).setCell ⟨w.1.size+1+1+k,1,none⟩ (.int .i64 T'.1)).setCell ⟨w.1.size+1+1+k,2,none⟩ (.bool T'.2)).setCell ⟨w.1.size+1+1+k,3,none⟩ (.int .u64 n')).setCell ⟨w.1.size+1+1+k,4,none⟩ (.int .i64 va')).setCell ⟨w.1.size+1+1+k,5,none⟩ (.bool g')).setCell ⟨w.1.size+1+1+k,6,none⟩ (.int .i64 t.line)).setCell ⟨w.1.size+1+1+k,7,none⟩ (.int .i64 t.col)).setCell ⟨w.1.size+1+1+k,8,none⟩ kv'):=by
 unfold XB at *;have⟨h0,h1,h2,h3,h4,h5,h6,h7,h8,_⟩:=h.a;have hf:=h.f;generalize w.1.size+1+1+k=N at *;constructor
 case f=>intro j hj;have:=hf j hj;simp[go_sem, *]
 all_goals simp[go_sem, *]
theorem XB.below{k:Nat}{op:List UInt8}{T:Ty}{n va:Int}{g:Bool}{t:qQ}{kv:Value}{w W W':World}(h:XB k op T n va g t kv w W)(hb:Below W.1.size W W'):XB k op T n va g t kv w W':=qQf.below h hb
theorem qU.setN{w:World}{b N o:Nat}{es:List Ex}{v:Value}(h:qU w (fun g=>b<=g) es v)(hN:N < b)(u:Value):qU (w.setCell ⟨N,o,none⟩ u) (fun g=>b<=g) es v :=
 h.move fun g _ hg=>⟨hg,hS w ⟨N,o,none⟩ u g (by simp;omega)⟩
theorem qU.set9{w:World}{b N:Nat}{es:List Ex}{v:Value}(h:qU w (fun g=>b<=g) es v)(hN:N < b)(u0 u1 u2 u3 u4 u5 u6 u7 u8:Value) :
 qU (((((((((w.setCell ⟨N,0,none⟩ u0).setCell ⟨N,1,none⟩ u1).setCell ⟨N,2,none⟩ u2).setCell ⟨N,3,none⟩ u3).setCell ⟨N,4,none⟩ u4).setCell ⟨N,5,none⟩ u5).setCell ⟨N,6,none⟩ u6).setCell ⟨N,7,none⟩ u7).setCell ⟨N,8,none⟩ u8) (fun g=>b<=g) es v :=
 ((((((((h.setN hN _).setN hN _).setN hN _).setN hN _).setN hN _).setN hN _).setN hN _).setN hN _).setN hN _
theorem qK3(E:Env)(k x:List UInt8)(m ln co:Int)(ks:List qQ)(T:Ty):qQT E (.mk k x m ln co ks) T =
 if k == zD then(jQ (decide (T≠zO) && decide (qUl T.1 T.2 m=m)) (.mk k x m ln co ks) 41).bind fun _=>.ok (.mk zD T m 0 false ln co [])
 else if k == zL || k == qH then(jQ (decide (T=zO)) (.mk k x m ln co ks) 41).bind fun _=>.ok (.mk zD T (if k == zL then 1 else 0) 0 false ln co [])
 else if k == zM || k == qL then
  (qQ1 E (.mk k x m ln co ks)).bind fun p=>(jQ (decide (p.ty=T)) (.mk k x m ln co ks) 41).bind fun _ =>
   if ks.length=0 then .ok (p.withKids [])
   else(yB E ks).bind fun u=>(jQ (decide (u≠zO)) (ks.headD (.mk k x m ln co ks)) 41).bind fun _=>(vD E ks u).bind fun es=>.ok (p.withKids es)
 else if k == zK then(jQ (decide (tyL x=T)) (.mk k x m ln co ks) 41).bind fun _=>(yB E ks).bind fun u=>(vD E ks u).bind fun es=>.ok (.mk zK T 0 0 false ln co es)
 else(qQr E (qXs k x) ks T).bind fun u=>(jQ u.2 (.mk k x m ln co ks) 41).bind fun _=>(vD E ks u.1).bind fun es=>.ok (.mk (qXs k x) T 0 0 false ln co es):=by
 conv=>lhs;unfold qQT
theorem exp_bool(k x:List UInt8)(m ln co:Int)(ks:List qQ)(hw:wfE (.mk k x m ln co ks)=true)(h1:(k == zD)=false)(h2:(k == zL || k == qH)=true):qXL (.mk k x m ln co ks):=by
 intro B L E v T w h hL hl;obtain⟨q,c,rfl,hc1,hc2,hK⟩:=hl.kids;have HX:=hI (XIn.new (T:=T) h hL hl);have hw2:2 < w.1.size:=by
  obtain⟨gv,vv,Mg,Mo,Mr,F,o,cl,hE⟩:=h;exact qJ hE.d0
 obtain⟨hx,⟨hm0,hm1⟩,hwk,hwf⟩:=qQs hw;have hkl:ks.length<=2:=by rcases hwf with⟨_,h⟩ | ⟨_,h⟩ | ⟨_,_,h⟩ <;> first | omega | simp[h]
 clear h hl hK;obtain⟨T0,T1⟩:=T;have HP:=hI (qK3 E k x m ln co ks (T0,T1));have HPB:=hI (show qQT E (.mk k x m ln co ks) (T0,T1)=(jQ (decide (((T0,T1):Ty)=zO)) (.mk k x m ln co ks) 41).bind fun _=>.ok (.mk zD (T0,T1) (if k == zL then 1 else 0) 0 false ln co []) by rw[HP.o,h1,h2];rfl);clear HP;simp only[qZ,tyV,qB,tyO,exO,qS,zD,qQ.kind,qQ.text,qQ.num,qQ.line,qQ.col,qQ.kids]at HX ⊢;unfold zD at h1;unfold zL qH at h2;have HNY:=hI (fun w'=>qQl (.mk k x m ln co ks) (.slice q ks.length c) 41 w');have HNN:=hI (fun w'=>qQ5 (.mk k x m ln co ks) (.slice q ks.length c) 41 w');simp only[qZ,qQ.kind,qQ.text,qQ.num,qQ.line,qQ.col,qQ.kids]at HNY HNN;cases h3:(k == [116,114,117,101]);case false =>
  simp only[h3,bO,bU]at h2;go_enter func134,ntmps134
  go_wp2
  generalize ((((w.alloc _).alloc _).alloc _).alloc _)=W at *;obtain⟨HX,HXB⟩:=HX.o;have HX:=hI HX;have HXB:=hI HXB;obtain⟨n0,n1,n2,n3,n4,n5⟩:=HX.o.nd.cells;have t0:=HX.o.ty.c0;have t1:=HX.o.ty.c1;obtain⟨gv,vv,Mg,Mo,Mr,F,o,cl,hE⟩:=HX.o.en;have d0:=hE.b0;have d1:=hE.b1;have hs4:=HX.o.sz;have hna:¬w.1.size+1+1+1=w.1.size+1+1:=by omega
  have hG:1 < W.1.size:=qJ d0;clear hE;by_cases hz:T0=1
  ·subst hz;cases T1
   ·skip
    refine wRg (S:=fun w'=>Below W.1.size W w') 4 ?_;refine wTk 0 67 (.agg #[.int .i64 1, .bool false]) ?_ (bD W) ?_
    ·intro _ y;obtain⟨t0,t1,d0,d1,n0,n1,n2,n3,n4,n5⟩:=kP10 y t0 t1 d0 d1 n0 n1 n2 n3 n4 n5;go_simp
    refine wTk 1 68 (.agg #[.int .i64 1, .bool false]) ?_ (bD W) ?_
    ·intro _ y;obtain⟨t0,t1,d0,d1,n0,n1,n2,n3,n4,n5⟩:=kP10 y t0 t1 d0 d1 n0 n1 n2 n3 n4 n5;go_simp
    refine wTk 2 69 (.bool true) ?_ (bD W) ?_
    ·intro _ y;obtain⟨t0,t1,d0,d1,n0,n1,n2,n3,n4,n5⟩:=kP10 y t0 t1 d0 d1 n0 n1 n2 n3 n4 n5;go_simp
    refine wTk 3 70 (.agg #[.string ⟨k.toArray⟩, .string ⟨x.toArray⟩, .int .u64 m, .int .i64 ln, .int .i64 co, .slice q ks.length c]) ?_ (bD W) ?_
    ·intro _ y;obtain⟨t0,t1,d0,d1,n0,n1,n2,n3,n4,n5⟩:=kP10 y t0 t1 d0 d1 n0 n1 n2 n3 n4 n5;go_simp
    refine wOn 4 fun K hK=>?_
    go_simp;refine(HNY.o _).mono ?_;rintro e w3 ⟨rfl,hb3⟩;refine kD hK ?_;clear hK K;refine wDn ?_ _;have hbW:=zF hb3;have HQ:=hI (show qQT E (.mk k x m ln co ks) (1,false)=.ok (.mk zD (1,false) 0 0 false ln co []) by rw[HPB.o];simp only[zL,h3];rfl);have HX:=hI (HX.o.below hbW);have HXB:=hI (HXB.o.below hbW);clear n0 n1 n2 n3 n4 n5 t0 t1 d0 d1 hb3 hbW HNY HNN;obtain⟨n0,n1,n2,n3,n4,n5⟩:=HX.o.nd.cells;have⟨r0,r1,r2,r3,r4,r5,r6,r7,r8,_⟩:=HX.o.rs.a;have⟨rf0,rf1,rf2,rf3,rf4,rf5,rf6,rf7,rf8,_⟩:=HX.o.rs.b;have xb:=HXB.o;unfold XB at xb;simp only[qQ.line,qQ.col,Nat.add_zero]at xb;have⟨x0,x1,x2,x3,x4,x5,x6,x7,x8,_⟩:=xb.a;have⟨xf0,xf1,xf2,xf3,xf4,xf5,xf6,xf7,xf8,_⟩:=xb.b;clear xb;have rl:=HX.o.rs.lt;have xl:=HXB.o.lt;go_wp2
    refine bodyPost_ret (v:=exV (.mk zD (1,false) 0 0 false ln co []) (.slice none 0 0)) (by simp[results,results134,go_sem,exV,zD,r0,r1,r2,r3,r4,r5,r6,r7,r8,rl]) rfl (zP.okI HQ.o ⟨_,rfl,?_⟩ ?_)
    ·exact qU.mono (qU.set9 (qU.nil _ (fun g=>w.1.size+4<=g)) (by omega) _ _ _ _ _ _ _ _ _) (fun g hg=>by omega)
    ·exact set9 HX.o.bl (by omega) _ _ _ _ _ _ _ _ _
   ·skip
    refine wRg (S:=fun w'=>Below W.1.size W w') 4 ?_;refine wTk 0 67 (.agg #[.int .i64 1, .bool true]) ?_ (bD W) ?_
    ·intro _ y;obtain⟨t0,t1,d0,d1,n0,n1,n2,n3,n4,n5⟩:=kP10 y t0 t1 d0 d1 n0 n1 n2 n3 n4 n5;go_simp
    refine wTk 1 68 (.agg #[.int .i64 1, .bool false]) ?_ (bD W) ?_
    ·intro _ y;obtain⟨t0,t1,d0,d1,n0,n1,n2,n3,n4,n5⟩:=kP10 y t0 t1 d0 d1 n0 n1 n2 n3 n4 n5;go_simp
    refine wTk 2 69 (.bool false) ?_ (bD W) ?_
    ·intro _ y;obtain⟨t0,t1,d0,d1,n0,n1,n2,n3,n4,n5⟩:=kP10 y t0 t1 d0 d1 n0 n1 n2 n3 n4 n5;go_simp
    refine wTk 3 70 (.agg #[.string ⟨k.toArray⟩, .string ⟨x.toArray⟩, .int .u64 m, .int .i64 ln, .int .i64 co, .slice q ks.length c]) ?_ (bD W) ?_
    ·intro _ y;obtain⟨t0,t1,d0,d1,n0,n1,n2,n3,n4,n5⟩:=kP10 y t0 t1 d0 d1 n0 n1 n2 n3 n4 n5;go_simp
    refine wOn 4 fun K hK=>?_
    go_simp;refine(HNN.o _).mono ?_;rintro e w3 ⟨rfl,hb3⟩;exact⟨rfl,zP.badI (by rw[HPB.o];rfl) ⟨rfl,HX.o.bl.trans ((zF hb3).mono HX.o.bl.size)⟩⟩
  ·skip
   refine wRg (S:=fun w'=>Below W.1.size W w') 4 ?_;refine wTk 0 67 (.agg #[.int .i64 T0, .bool T1]) ?_ (bD W) ?_
   ·intro _ y;obtain⟨t0,t1,d0,d1,n0,n1,n2,n3,n4,n5⟩:=kP10 y t0 t1 d0 d1 n0 n1 n2 n3 n4 n5;go_simp
   refine wTk 1 68 (.agg #[.int .i64 1, .bool false]) ?_ (bD W) ?_
   ·intro _ y;obtain⟨t0,t1,d0,d1,n0,n1,n2,n3,n4,n5⟩:=kP10 y t0 t1 d0 d1 n0 n1 n2 n3 n4 n5;go_simp
   refine wTk 2 69 (.bool false) ?_ (bD W) ?_
   ·intro _ y;obtain⟨t0,t1,d0,d1,n0,n1,n2,n3,n4,n5⟩:=kP10 y t0 t1 d0 d1 n0 n1 n2 n3 n4 n5;go_simp
   refine wTk 3 70 (.agg #[.string ⟨k.toArray⟩, .string ⟨x.toArray⟩, .int .u64 m, .int .i64 ln, .int .i64 co, .slice q ks.length c]) ?_ (bD W) ?_
   ·intro _ y;obtain⟨t0,t1,d0,d1,n0,n1,n2,n3,n4,n5⟩:=kP10 y t0 t1 d0 d1 n0 n1 n2 n3 n4 n5;go_simp
   refine wOn 4 fun K hK=>?_
   go_simp;refine(HNN.o _).mono ?_;rintro e w3 ⟨rfl,hb3⟩;exact⟨rfl,zP.badI (by rw[HPB.o,show decide (((T0,T1):Ty)=zO)=false by simp[zO,hz]];rfl) ⟨rfl,HX.o.bl.trans ((zF hb3).mono HX.o.bl.size)⟩⟩
 case true =>
  simp only[h3,bO,bU]at h2;go_enter func134,ntmps134
  go_wp2
  generalize ((((w.alloc _).alloc _).alloc _).alloc _)=W at *;obtain⟨HX,HXB⟩:=HX.o;have HX:=hI HX;have HXB:=hI HXB;obtain⟨n0,n1,n2,n3,n4,n5⟩:=HX.o.nd.cells;have t0:=HX.o.ty.c0;have t1:=HX.o.ty.c1;obtain⟨gv,vv,Mg,Mo,Mr,F,o,cl,hE⟩:=HX.o.en;have d0:=hE.b0;have d1:=hE.b1;have hs4:=HX.o.sz;have hna:¬w.1.size+1+1+1=w.1.size+1+1:=by omega
  have hG:1 < W.1.size:=qJ d0;clear hE;by_cases hz:T0=1
  ·subst hz;cases T1
   ·skip
    refine wRg (S:=fun w'=>Below W.1.size W w') 4 ?_;refine wTk 0 67 (.agg #[.int .i64 1, .bool false]) ?_ (bD W) ?_
    ·intro _ y;obtain⟨t0,t1,d0,d1,n0,n1,n2,n3,n4,n5⟩:=kP10 y t0 t1 d0 d1 n0 n1 n2 n3 n4 n5;go_simp
    refine wTk 1 68 (.agg #[.int .i64 1, .bool false]) ?_ (bD W) ?_
    ·intro _ y;obtain⟨t0,t1,d0,d1,n0,n1,n2,n3,n4,n5⟩:=kP10 y t0 t1 d0 d1 n0 n1 n2 n3 n4 n5;go_simp
    refine wTk 2 69 (.bool true) ?_ (bD W) ?_
    ·intro _ y;obtain⟨t0,t1,d0,d1,n0,n1,n2,n3,n4,n5⟩:=kP10 y t0 t1 d0 d1 n0 n1 n2 n3 n4 n5;go_simp
    refine wTk 3 70 (.agg #[.string ⟨k.toArray⟩, .string ⟨x.toArray⟩, .int .u64 m, .int .i64 ln, .int .i64 co, .slice q ks.length c]) ?_ (bD W) ?_
    ·intro _ y;obtain⟨t0,t1,d0,d1,n0,n1,n2,n3,n4,n5⟩:=kP10 y t0 t1 d0 d1 n0 n1 n2 n3 n4 n5;go_simp
    refine wOn 4 fun K hK=>?_
    go_simp;refine(HNY.o _).mono ?_;rintro e w3 ⟨rfl,hb3⟩;refine kD hK ?_;clear hK K;refine wDn ?_ _;have hbW:=zF hb3;have HQ:=hI (show qQT E (.mk k x m ln co ks) (1,false)=.ok (.mk zD (1,false) 1 0 false ln co []) by rw[HPB.o];simp only[zL,h3];rfl);have HX:=hI (HX.o.below hbW);have HXB:=hI (HXB.o.below hbW);clear n0 n1 n2 n3 n4 n5 t0 t1 d0 d1 hb3 hbW HNY HNN;obtain⟨n0,n1,n2,n3,n4,n5⟩:=HX.o.nd.cells;have⟨r0,r1,r2,r3,r4,r5,r6,r7,r8,_⟩:=HX.o.rs.a;have⟨rf0,rf1,rf2,rf3,rf4,rf5,rf6,rf7,rf8,_⟩:=HX.o.rs.b;have xb:=HXB.o;unfold XB at xb;simp only[qQ.line,qQ.col,Nat.add_zero]at xb;have⟨x0,x1,x2,x3,x4,x5,x6,x7,x8,_⟩:=xb.a;have⟨xf0,xf1,xf2,xf3,xf4,xf5,xf6,xf7,xf8,_⟩:=xb.b;clear xb;have rl:=HX.o.rs.lt;have xl:=HXB.o.lt;go_wp2
    refine bodyPost_ret (v:=exV (.mk zD (1,false) 1 0 false ln co []) (.slice none 0 0)) (by simp[results,results134,go_sem,exV,zD,r0,r1,r2,r3,r4,r5,r6,r7,r8,rl]) rfl (zP.okI HQ.o ⟨_,rfl,?_⟩ ?_)
    ·exact qU.mono (qU.set9 (qU.setN (qU.nil _ (fun g=>w.1.size+4<=g)) (by omega) _) (by omega) _ _ _ _ _ _ _ _ _) (fun g hg=>by omega)
    ·exact set9 (jR HX.o.bl (by omega) _) (by omega) _ _ _ _ _ _ _ _ _
   ·skip
    refine wRg (S:=fun w'=>Below W.1.size W w') 4 ?_;refine wTk 0 67 (.agg #[.int .i64 1, .bool true]) ?_ (bD W) ?_
    ·intro _ y;obtain⟨t0,t1,d0,d1,n0,n1,n2,n3,n4,n5⟩:=kP10 y t0 t1 d0 d1 n0 n1 n2 n3 n4 n5;go_simp
    refine wTk 1 68 (.agg #[.int .i64 1, .bool false]) ?_ (bD W) ?_
    ·intro _ y;obtain⟨t0,t1,d0,d1,n0,n1,n2,n3,n4,n5⟩:=kP10 y t0 t1 d0 d1 n0 n1 n2 n3 n4 n5;go_simp
    refine wTk 2 69 (.bool false) ?_ (bD W) ?_
    ·intro _ y;obtain⟨t0,t1,d0,d1,n0,n1,n2,n3,n4,n5⟩:=kP10 y t0 t1 d0 d1 n0 n1 n2 n3 n4 n5;go_simp
    refine wTk 3 70 (.agg #[.string ⟨k.toArray⟩, .string ⟨x.toArray⟩, .int .u64 m, .int .i64 ln, .int .i64 co, .slice q ks.length c]) ?_ (bD W) ?_
    ·intro _ y;obtain⟨t0,t1,d0,d1,n0,n1,n2,n3,n4,n5⟩:=kP10 y t0 t1 d0 d1 n0 n1 n2 n3 n4 n5;go_simp
    refine wOn 4 fun K hK=>?_
    go_simp;refine(HNN.o _).mono ?_;rintro e w3 ⟨rfl,hb3⟩;exact⟨rfl,zP.badI (by rw[HPB.o];rfl) ⟨rfl,HX.o.bl.trans ((zF hb3).mono HX.o.bl.size)⟩⟩
  ·skip
   refine wRg (S:=fun w'=>Below W.1.size W w') 4 ?_;refine wTk 0 67 (.agg #[.int .i64 T0, .bool T1]) ?_ (bD W) ?_
   ·intro _ y;obtain⟨t0,t1,d0,d1,n0,n1,n2,n3,n4,n5⟩:=kP10 y t0 t1 d0 d1 n0 n1 n2 n3 n4 n5;go_simp
   refine wTk 1 68 (.agg #[.int .i64 1, .bool false]) ?_ (bD W) ?_
   ·intro _ y;obtain⟨t0,t1,d0,d1,n0,n1,n2,n3,n4,n5⟩:=kP10 y t0 t1 d0 d1 n0 n1 n2 n3 n4 n5;go_simp
   refine wTk 2 69 (.bool false) ?_ (bD W) ?_
   ·intro _ y;obtain⟨t0,t1,d0,d1,n0,n1,n2,n3,n4,n5⟩:=kP10 y t0 t1 d0 d1 n0 n1 n2 n3 n4 n5;go_simp
   refine wTk 3 70 (.agg #[.string ⟨k.toArray⟩, .string ⟨x.toArray⟩, .int .u64 m, .int .i64 ln, .int .i64 co, .slice q ks.length c]) ?_ (bD W) ?_
   ·intro _ y;obtain⟨t0,t1,d0,d1,n0,n1,n2,n3,n4,n5⟩:=kP10 y t0 t1 d0 d1 n0 n1 n2 n3 n4 n5;go_simp
   refine wOn 4 fun K hK=>?_
   go_simp;refine(HNN.o _).mono ?_;rintro e w3 ⟨rfl,hb3⟩;exact⟨rfl,zP.badI (by rw[HPB.o,show decide (((T0,T1):Ty)=zO)=false by simp[zO,hz]];rfl) ⟨rfl,HX.o.bl.trans ((zF hb3).mono HX.o.bl.size)⟩⟩
theorem exp_num(k x:List UInt8)(m ln co:Int)(ks:List qQ)(hw:wfE (.mk k x m ln co ks)=true)(h1:(k == zD)=true):qXL (.mk k x m ln co ks):=by
 intro B L E v T w h hL hl;obtain⟨q,c,rfl,hc1,hc2,hK⟩:=hl.kids;have HX:=hI (XIn.new (T:=T) h hL hl);have hw2:2 < w.1.size:=by
  obtain⟨gv,vv,Mg,Mo,Mr,F,o,cl,hE⟩:=h;exact qJ hE.d0
 obtain⟨hx,⟨hm0,hm1⟩,hwk,hwf⟩:=qQs hw;have hkl:ks.length<=2:=by rcases hwf with⟨_,h⟩ | ⟨_,h⟩ | ⟨_,_,h⟩ <;> first | omega | simp[h]
 clear h hl hK;obtain⟨T0,T1⟩:=T;have HP:=hI (qK3 E k x m ln co ks (T0,T1));have HPB:=hI (show qQT E (.mk k x m ln co ks) (T0,T1)=(jQ (decide (((T0,T1):Ty)≠zO) && decide (qUl T0 T1 m=m)) (.mk k x m ln co ks) 41).bind fun _=>.ok (.mk zD (T0,T1) m 0 false ln co []) by rw[HP.o,h1];rfl);clear HP;simp only[qZ,tyV,qB,tyO,exO,qS,zD,qQ.kind,qQ.text,qQ.num,qQ.line,qQ.col,qQ.kids]at HX ⊢;have HNY:=hI (fun w'=>qQl (.mk k x m ln co ks) (.slice q ks.length c) 41 w');have HNN:=hI (fun w'=>qQ5 (.mk k x m ln co ks) (.slice q ks.length c) 41 w');have HNA:=hI (fun b w'=>qQk b (.mk k x m ln co ks) (.slice q ks.length c) 41 w');simp only[qZ,qQ.kind,qQ.text,qQ.num,qQ.line,qQ.col,qQ.kids]at HNY HNN HNA;unfold zD at h1;go_enter func134,ntmps134
 go_wp2
 generalize ((((w.alloc _).alloc _).alloc _).alloc _)=W at *;obtain⟨HX,HXB⟩:=HX.o;have HX:=hI HX;have HXB:=hI HXB;obtain⟨n0,n1,n2,n3,n4,n5⟩:=HX.o.nd.cells;have t0:=HX.o.ty.c0;have t1:=HX.o.ty.c1;obtain⟨gv,vv,Mg,Mo,Mr,F,o,cl,hE⟩:=HX.o.en;have d0:=hE.b0;have d1:=hE.b1;have hs4:=HX.o.sz;have hna:¬w.1.size+1+1+1=w.1.size+1+1:=by omega
 have hG:1 < W.1.size:=qJ d0;have HNO:=hI (fun w' (hb:Below W.1.size W w')=>norm_any T0 T1 m w' (hE.wt.below hb) hm0 hm1);clear hE;by_cases hz:((T0,T1):Ty)=zO
 ·unfold zO at hz;injection hz with hz1 hz2;subst hz1 hz2;refine wRg (S:=fun w'=>Below W.1.size W w') 13 ?_;refine wTk 0 47 (.agg #[.int .i64 1, .bool false]) ?_ (bD W) ?_
  ·intro _ y;obtain⟨t0,t1,d0,d1,n0,n1,n2,n3,n4,n5⟩:=kP10 y t0 t1 d0 d1 n0 n1 n2 n3 n4 n5;go_simp
  refine wTk 1 48 (.agg #[.int .i64 1, .bool false]) ?_ (bD W) ?_
  ·intro _ y;obtain⟨t0,t1,d0,d1,n0,n1,n2,n3,n4,n5⟩:=kP10 y t0 t1 d0 d1 n0 n1 n2 n3 n4 n5;go_simp
  refine wTk 2 49 (.bool false) ?_ (bD W) ?_
  ·intro _ y;obtain⟨t0,t1,d0,d1,n0,n1,n2,n3,n4,n5⟩:=kP10 y t0 t1 d0 d1 n0 n1 n2 n3 n4 n5;go_simp
  refine wTk 3 50 (.bool false) ?_ (bD W) ?_
  ·intro _ y;obtain⟨t0,t1,d0,d1,n0,n1,n2,n3,n4,n5⟩:=kP10 y t0 t1 d0 d1 n0 n1 n2 n3 n4 n5;go_simp
  refine xG (i:=4) (d:=51) rfl rfl (by kernel_rfl) (fun _ _ _ h=>h) (by rfl) ((Below.refl W.1.size W).drew) ?_;try simp only[Act.put,pZa,pZb,pZc]
  refine xG (i:=5) (d:=52) rfl rfl (by kernel_rfl) (fun _ _ _ h=>h) (by rfl) ((Below.refl W.1.size W).drew) ?_;try simp only[Act.put,pZa,pZb,pZc]
  refine xG (i:=6) (d:=53) rfl rfl (by kernel_rfl) (fun _ _ _ h=>h) (by rfl) ((Below.refl W.1.size W).drew) ?_;try simp only[Act.put,pZa,pZb,pZc]
  refine xG (i:=7) (d:=54) rfl rfl (by kernel_rfl) (fun _ _ _ h=>h) (by rfl) ((Below.refl W.1.size W).drew) ?_;try simp only[Act.put,pZa,pZb,pZc]
  refine xG (i:=8) (d:=55) rfl rfl (by kernel_rfl) (fun _ _ _ h=>h) (by rfl) ((Below.refl W.1.size W).drew) ?_;try simp only[Act.put,pZa,pZb,pZc]
  refine xG (i:=9) (d:=56) rfl rfl (by kernel_rfl) (fun _ _ _ h=>h) (by rfl) ((Below.refl W.1.size W).drew) ?_;try simp only[Act.put,pZa,pZb,pZc]
  refine xG (i:=10) (d:=57) rfl rfl (by kernel_rfl) (fun _ _ _ h=>h) (by rfl) ((Below.refl W.1.size W).drew) ?_;try simp only[Act.put,pZa,pZb,pZc]
  refine wTk 11 58 (.bool false) ?_ (bD W) ?_
  ·intro _ y;obtain⟨t0,t1,d0,d1,n0,n1,n2,n3,n4,n5⟩:=kP10 y t0 t1 d0 d1 n0 n1 n2 n3 n4 n5;go_simp
  refine wTk 12 59 (.agg #[.string ⟨k.toArray⟩, .string ⟨x.toArray⟩, .int .u64 m, .int .i64 ln, .int .i64 co, .slice q ks.length c]) ?_ (bD W) ?_
  ·intro _ y;obtain⟨t0,t1,d0,d1,n0,n1,n2,n3,n4,n5⟩:=kP10 y t0 t1 d0 d1 n0 n1 n2 n3 n4 n5;go_simp
  refine wOn 13 fun K hK=>?_
  go_simp;refine(HNN.o _).mono ?_;rintro e w3 ⟨rfl,hb3⟩;exact⟨rfl,zP.badI (by rw[HPB.o];rfl) ⟨rfl,HX.o.bl.trans ((zF hb3).mono HX.o.bl.size)⟩⟩
 ·skip
  refine wRg (S:=fun w'=>Below W.1.size W w') 13 ?_;refine wTk 0 47 (.agg #[.int .i64 T0, .bool T1]) ?_ (bD W) ?_
  ·intro _ y;obtain⟨t0,t1,d0,d1,n0,n1,n2,n3,n4,n5⟩:=kP10 y t0 t1 d0 d1 n0 n1 n2 n3 n4 n5;go_simp
  refine wTk 1 48 (.agg #[.int .i64 1, .bool false]) ?_ (bD W) ?_
  ·intro _ y;obtain⟨t0,t1,d0,d1,n0,n1,n2,n3,n4,n5⟩:=kP10 y t0 t1 d0 d1 n0 n1 n2 n3 n4 n5;go_simp
  refine wTk 2 49 (.bool true) ?_ (bD W) ?_
  ·intro _ y;clear y;by_cases hz1:T0=1
   ·subst hz1;cases T1
    ·exact absurd rfl hz
    ·go_simp
   ·go_simp
  refine wTk 3 50 (.bool true) ?_ (bD W) ?_
  ·intro _ y;obtain⟨t0,t1,d0,d1,n0,n1,n2,n3,n4,n5⟩:=kP10 y t0 t1 d0 d1 n0 n1 n2 n3 n4 n5;go_simp
  refine wTk 4 51 (.agg #[.int .i64 T0, .bool T1]) ?_ (bD W) ?_
  ·intro _ y;obtain⟨t0,t1,d0,d1,n0,n1,n2,n3,n4,n5⟩:=kP10 y t0 t1 d0 d1 n0 n1 n2 n3 n4 n5;go_simp
  refine wTk 5 52 (.pointer (some ⟨w.1.size,2,none⟩)) ?_ (bD W) ?_
  ·intro _ y;obtain⟨t0,t1,d0,d1,n0,n1,n2,n3,n4,n5⟩:=kP10 y t0 t1 d0 d1 n0 n1 n2 n3 n4 n5;go_simp
  refine wTk 6 53 (.int .u64 m) ?_ (bD W) ?_
  ·intro _ y;obtain⟨t0,t1,d0,d1,n0,n1,n2,n3,n4,n5⟩:=kP10 y t0 t1 d0 d1 n0 n1 n2 n3 n4 n5;go_simp
  refine wTk 8 55 (.pointer (some ⟨w.1.size,2,none⟩)) ?_ (bD W) ?_
  ·intro _ y;obtain⟨t0,t1,d0,d1,n0,n1,n2,n3,n4,n5⟩:=kP10 y t0 t1 d0 d1 n0 n1 n2 n3 n4 n5;go_simp
  refine wTk 9 56 (.int .u64 m) ?_ (bD W) ?_
  ·intro _ y;obtain⟨t0,t1,d0,d1,n0,n1,n2,n3,n4,n5⟩:=kP10 y t0 t1 d0 d1 n0 n1 n2 n3 n4 n5;go_simp
  refine wTk 12 59 (.agg #[.string ⟨k.toArray⟩, .string ⟨x.toArray⟩, .int .u64 m, .int .i64 ln, .int .i64 co, .slice q ks.length c]) ?_ (bD W) ?_
  ·intro _ y;obtain⟨t0,t1,d0,d1,n0,n1,n2,n3,n4,n5⟩:=kP10 y t0 t1 d0 d1 n0 n1 n2 n3 n4 n5;go_simp
  refine wOn 7 fun K hK=>?_
  go_simp;refine(HNO.o _ (Below.refl _ _).drew).mono ?_;rintro e w3 ⟨rfl,hb3⟩;have hbW:=zF hb3;refine kK hK hbW ?_;clear hK K;refine wOn 10 fun K hK=>?_
  go_simp;refine kK hK hbW ?_;clear hK K;refine wOn 11 fun K hK=>?_
  go_simp;refine kK hK hbW ?_;clear hK K;refine wOn 13 fun K hK=>?_
  go_simp;refine(HNA.o _ _).mono ?_;rintro e w4 (⟨hbt,rfl,hb4⟩ | ⟨hbt,rfl,hb4⟩);rotate_left
  ·refine⟨rfl,zP.badI (ln:=ln) (co:=co) (code:=41) ?_ ⟨rfl,HX.o.bl.trans ((hbW.trans (hb4.mono hbW.size)).mono HX.o.bl.size)⟩⟩;rw[HPB.o,show decide (((T0,T1):Ty)≠zO)=true from decide_eq_true hz];simp at hbt;simp[jQ,CR.bind,hbt,qQ.line,qQ.col]
  refine kD hK ?_;clear hK K;refine wDn ?_ _;have HQ:=hI (show qQT E (.mk k x m ln co ks) (T0,T1)=.ok (.mk zD (T0,T1) m 0 false ln co []) by
   rw[HPB.o,show decide (((T0,T1):Ty)≠zO)=true from decide_eq_true hz];simp at hbt;simp[jQ,CR.bind,hbt])
  have hbW2:=hbW.trans (hb4.mono hbW.size);have HX:=hI (HX.o.below hbW2);have HXB:=hI (HXB.o.below hbW2);clear n0 n1 n2 n3 n4 n5 t0 t1 d0 d1 hb3 hbW hb4 hbW2 HNY HNN HNA HNO hbt;obtain⟨n0,n1,n2,n3,n4,n5⟩:=HX.o.nd.cells;have⟨r0,r1,r2,r3,r4,r5,r6,r7,r8,_⟩:=HX.o.rs.a;have⟨rf0,rf1,rf2,rf3,rf4,rf5,rf6,rf7,rf8,_⟩:=HX.o.rs.b;have xb:=HXB.o;unfold XB at xb;simp only[qQ.line,qQ.col,Nat.add_zero]at xb;have⟨x0,x1,x2,x3,x4,x5,x6,x7,x8,_⟩:=xb.a;have⟨xf0,xf1,xf2,xf3,xf4,xf5,xf6,xf7,xf8,_⟩:=xb.b;clear xb;have rl:=HX.o.rs.lt;have xl:=HXB.o.lt;go_wp2
  refine bodyPost_ret (v:=exV (.mk zD (T0,T1) m 0 false ln co []) (.slice none 0 0)) (by simp[results,results134,go_sem,exV,zD,r0,r1,r2,r3,r4,r5,r6,r7,r8,rl]) rfl (zP.okI HQ.o ⟨_,rfl,?_⟩ ?_)
  ·exact qU.mono (qU.set9 (qU.setN (qU.nil _ (fun g=>w.1.size+4<=g)) (by omega) _) (by omega) _ _ _ _ _ _ _ _ _) (fun g hg=>by omega)
  ·exact set9 (jR HX.o.bl (by omega) _) (by omega) _ _ _ _ _ _ _ _ _
theorem exp_name(k x:List UInt8)(m ln co:Int)(ks:List qQ)(hw:wfE (.mk k x m ln co ks)=true)(hrec:∀ u∈ks,qXL u)(h1:(k == zD)=false)(h2:(k == zL || k == qH)=false)(h3:(k == zM || k == qL)=true):qXL (.mk k x m ln co ks):=by
 intro B L E v T w h hL hl;obtain⟨q,c,rfl,hc1,hc2,hK⟩:=hl.kids;have HX:=hI (XIn.new (T:=T) h hL hl);have hw2:2 < w.1.size:=by
  obtain⟨gv,vv,Mg,Mo,Mr,F,o,cl,hE⟩:=h;exact qJ hE.d0
 obtain⟨hx,⟨hm0,hm1⟩,hwk,hwf⟩:=qQs hw;have hkl:ks.length<=2:=by rcases hwf with⟨_,h⟩ | ⟨_,h⟩ | ⟨_,_,h⟩ <;> first | omega | simp[h]
 clear h hl hK;obtain⟨T0,T1⟩:=T;have HP:=hI (qK3 E k x m ln co ks (T0,T1));have HPB:=hI (show qQT E (.mk k x m ln co ks) (T0,T1)=(qQ1 E (.mk k x m ln co ks)).bind fun p=>(jQ (decide (p.ty=(T0,T1))) (.mk k x m ln co ks) 41).bind fun _=>(qQL E ks).bind fun es=>.ok (p.withKids es) by
  rw[HP.o,h1,h2,h3];simp only[bF,if_false,if_true,reduceIte];congr 1
  funext p
  congr 1
  funext _
  unfold qQL;split
  ·rfl
  ·rename_i h0;obtain⟨u,r,rfl⟩:∃ u r,ks=u :: r:=by cases ks with | nil=>simp at h0 | cons u r=>exact⟨u,r,rfl⟩
   simp only[CR.bind_assoc,List.headD_cons])
 have HPL:=hI (qUq B E (.mk k x m ln co ks) (.slice q ks.length c) _ HX.o.1.en hx);have HREC:=hI hrec;have HWK:=hI hwk;clear HP hrec hwk hwf;simp only[Bool.or_eq_false_iff]at h2;obtain⟨h2a,h2b⟩:=h2;simp only[qZ,tyV,qB,tyO,exO,qS,zD,qQ.kind,qQ.text,qQ.num,qQ.line,qQ.col,qQ.kids]at HX ⊢;have HNY:=hI (fun w'=>qQl (.mk k x m ln co ks) (.slice q ks.length c) 41 w');have HNN:=hI (fun w'=>qQ5 (.mk k x m ln co ks) (.slice q ks.length c) 41 w');have HNA:=hI (fun b w'=>qQk b (.mk k x m ln co ks) (.slice q ks.length c) 41 w');simp only[qZ,qQ.kind,qQ.text,qQ.num,qQ.line,qQ.col,qQ.kids]at HNY HNN HNA;simp only[qZ,qB,tyO,exO,qS,zD,qQ.kind,qQ.text,qQ.num,qQ.line,qQ.col,qQ.kids]at HPL;unfold zD at h1;unfold zL at h2a;unfold qH at h2b;unfold zM qL at h3;cases h4:(k == [110,97,109,101]);case false =>
  simp only[h4,bO,bU]at h3;go_enter func134,ntmps134
  go_wp2_with fail
  generalize ((((w.alloc _).alloc _).alloc _).alloc _)=W at *;obtain⟨HX,HXB⟩:=HX.o;have HX:=hI HX;have HXB:=hI HXB;refine(HPL.o).mono ?_;rintro e w2 hX;rcases hX.cases with⟨a,u,hp,rfl,rfl,hb2⟩ | ⟨l',c',code,hp,rfl,hb2⟩;rotate_left
  ·exact⟨rfl,zP.badI (by rw[HPB.o,hp];rfl) ⟨rfl,HX.o.bl.trans (hb2.mono HX.o.bl.size)⟩⟩
  obtain⟨aop,⟨A0,A1⟩,an,av,ag,al,ac,ak⟩:=a;obtain⟨rfl,rfl,rfl⟩:al=ln/\ac=co/\ak=[]:=by
   unfold qQ1 at hp;cases hf:qZD E (.mk k x m ln co ks)with
   | bad _ _ _=>rw[hf]at hp;cases hp
   | ok r =>
    rw[hf]at hp;simp only[CR.bind,jQ]at hp;split at hp
    ·simp only[qQ.line,qQ.col,CR.ok.injEq,Ex.mk.injEq]at hp;exact⟨hp.2.2.2.2.2.1.symm,hp.2.2.2.2.2.2.1.symm,hp.2.2.2.2.2.2.2.symm⟩
    ·cases hp
  unfold exV;have HPC:=hI (HPB.o.trans (by rw[hp];rfl:_=(jQ (decide (((A0,A1):Ty)=(T0,T1))) (.mk k x m al ac ks) 41).bind fun _=>(qQL E ks).bind fun es=>.ok (.mk aop (A0,A1) an av ag al ac es)));have HX2:=hI (HX.o.below hb2);have HXB2:=hI (HXB.o.below hb2);have hbs:=hb2.size;clear hX HPL hp hb2 HX HXB;obtain⟨n0,n1,n2,n3,n4,n5⟩:=HX2.o.nd.cells;have t0:=HX2.o.ty.c0;have t1:=HX2.o.ty.c1;have xb:=HXB2.o;unfold XB at xb;simp only[qQ.line,qQ.col,Nat.add_zero]at xb;have⟨x0,x1,x2,x3,x4,x5,x6,x7,x8,_⟩:=xb.a;have⟨xf0,xf1,xf2,xf3,xf4,xf5,xf6,xf7,xf8,_⟩:=xb.b;clear xb;have hs4:=HX2.o.sz;have hna:¬w.1.size+1+1+1=w.1.size+1+1:=by omega
  go_wp2
  have HX3:=hI (HX2.o.turn (set9 (N:=w.1.size+1+1+1) (Below.refl (w.1.size+3) w2) (by omega) (.string ⟨aop.toArray⟩) (.int .i64 A0) (.bool A1) (.int .u64 an) (.int .i64 av) (.bool ag) (.int .i64 al) (.int .i64 ac) (.slice none 0 0)));have HXB3:=hI (XB.set9 (op':=aop) (T':=(A0,A1)) (n':=an) (va':=av) (g':=ag) (kv':=.slice none 0 0) HXB2.o);simp only[qQ.line,qQ.col]at HXB3;clear n0 n1 n2 n3 n4 n5 t0 t1 x0 x1 x2 x3 x4 x5 x6 x7 x8 xf0 xf1 xf2 xf3 xf4 xf5 xf6 xf7 xf8 HX2 HXB2;generalize (World.setCell (World.setCell (World.setCell (World.setCell (World.setCell (World.setCell (World.setCell (World.setCell (World.setCell w2 ⟨w.1.size+1+1+1,0,none⟩ (.string ⟨aop.toArray⟩)) ⟨w.1.size+1+1+1,1,none⟩ (.int .i64 A0)) ⟨w.1.size+1+1+1,2,none⟩ (.bool A1)) ⟨w.1.size+1+1+1,3,none⟩ (.int .u64 an)) ⟨w.1.size+1+1+1,4,none⟩ (.int .i64 av)) ⟨w.1.size+1+1+1,5,none⟩ (.bool ag)) ⟨w.1.size+1+1+1,6,none⟩ (.int .i64 al)) ⟨w.1.size+1+1+1,7,none⟩ (.int .i64 ac)) ⟨w.1.size+1+1+1,8,none⟩ (.slice none 0 0))=V at *;obtain⟨n0,n1,n2,n3,n4,n5⟩:=HX3.o.nd.cells;have t0:=HX3.o.ty.c0;have t1:=HX3.o.ty.c1;have xb:=HXB3.o;unfold XB at xb;simp only[qQ.line,qQ.col,Nat.add_zero]at xb;have⟨x0,x1,x2,x3,x4,x5,x6,x7,x8,_⟩:=xb.a;have⟨xf0,xf1,xf2,xf3,xf4,xf5,xf6,xf7,xf8,_⟩:=xb.b;clear xb;by_cases hz:((A0,A1):Ty)=(T0,T1)
  ·injection hz with hz1 hz2;subst hz1 hz2;refine wRg (S:=fun w'=>Below V.1.size V w') 5 ?_;refine wTk 0 82 (.pointer (some ⟨w.1.size+1+1+1,1,none⟩)) ?_ (bD V) ?_
   ·intro _ y;go_simp
   refine wTk 1 83 (.agg #[.int .i64 A0, .bool A1]) ?_ (bD V) ?_
   ·intro _ y;obtain⟨t0,t1,x0,x1,x2,n0,n1,n2,n3,n4,n5⟩:=kP11 y t0 t1 x0 x1 x2 n0 n1 n2 n3 n4 n5;go_simp
   refine wTk 2 84 (.agg #[.int .i64 A0, .bool A1]) ?_ (bD V) ?_
   ·intro _ y;obtain⟨t0,t1,x0,x1,x2,n0,n1,n2,n3,n4,n5⟩:=kP11 y t0 t1 x0 x1 x2 n0 n1 n2 n3 n4 n5;go_simp
   refine wTk 3 85 (.bool true) ?_ (bD V) ?_
   ·intro _ y;obtain⟨t0,t1,x0,x1,x2,n0,n1,n2,n3,n4,n5⟩:=kP11 y t0 t1 x0 x1 x2 n0 n1 n2 n3 n4 n5;go_simp
   refine wTk 4 86 (.agg #[.string ⟨k.toArray⟩, .string ⟨x.toArray⟩, .int .u64 m, .int .i64 al, .int .i64 ac, .slice q ks.length c]) ?_ (bD V) ?_
   ·intro _ y;obtain⟨t0,t1,x0,x1,x2,n0,n1,n2,n3,n4,n5⟩:=kP11 y t0 t1 x0 x1 x2 n0 n1 n2 n3 n4 n5;go_simp
   refine wOn 5 fun K hK=>?_
   go_simp;refine(HNY.o _).mono ?_;rintro e w4 ⟨rfl,hb4⟩;refine kD hK ?_;clear hK K;refine wDn ?_ _;have hbW:=zF hb4;have HX4:=hI (HX3.o.below hbW);have HXB4:=hI (HXB3.o.below hbW);have HPD:=hI (HPC.o.trans (by rw[show decide (((A0,A1):Ty)=(A0,A1))=true from decide_eq_true rfl];rfl:_=(qQL E ks).bind fun es=>.ok (.mk aop (A0,A1) an av ag al ac es)));have hK4:=HX4.o.kids;have HI:=hI (qVE B L E ks q c w4 HWK.o HREC.o HX4.o.en (by have:=HX4.o.bl.size;have:=HX4.o.hL;omega) hK4 (by omega));clear n0 n1 n2 n3 n4 n5 t0 t1 x0 x1 x2 x3 x4 x5 x6 x7 x8 xf0 xf1 xf2 xf3 xf4 xf5 xf6 xf7 xf8 hb4 hbW HX3 HXB3 HNY HNN HNA hK4;obtain⟨n0,n1,n2,n3,n4,n5⟩:=HX4.o.nd.cells;go_wp2_with fail
   refine(HI.o).mono ?_;rintro e w5 hX;rcases hX.cases with⟨es,u,hp,rfl,hles,hb5⟩ | ⟨l',c',code,hp,rfl,hb5⟩;rotate_left
   ·exact⟨rfl,zP.badI (by rw[HPD.o,hp];rfl) ⟨rfl,HX4.o.bl.trans (hb5.mono HX4.o.bl.size)⟩⟩
   obtain⟨uq,uc,rfl⟩:=hles.shape;have HQ:=hI (HPD.o.trans (by rw[hp];rfl:_=.ok (.mk aop (A0,A1) an av ag al ac es)));have hs5:=HX4.o.sz;have HLS:=hI (hles.mono (ok':=fun g=>w.1.size+4<=g) (fun g hg=>by omega));have HX:=hI (HX4.o.below hb5);have HXB:=hI (HXB4.o.below hb5);clear n0 n1 n2 n3 n4 n5 hX hp hles hb5 HI HX4 HXB4;have⟨r0,r1,r2,r3,r4,r5,r6,r7,r8,_⟩:=HX.o.rs.a;have⟨rf0,rf1,rf2,rf3,rf4,rf5,rf6,rf7,rf8,_⟩:=HX.o.rs.b;have xb:=HXB.o;unfold XB at xb;simp only[qQ.line,qQ.col,Nat.add_zero]at xb;have⟨x0,x1,x2,x3,x4,x5,x6,x7,x8,_⟩:=xb.a;have⟨xf0,xf1,xf2,xf3,xf4,xf5,xf6,xf7,xf8,_⟩:=xb.b;clear xb;have rl:=HX.o.rs.lt;have xl:=HXB.o.lt;go_wp2
   refine bodyPost_ret (v:=exV (.mk aop (A0,A1) an av ag al ac es) (.slice uq es.length uc)) (by simp[results,results134,go_sem,exV,r0,r1,r2,r3,r4,r5,r6,r7,r8,rl]) rfl (zP.okI HQ.o ⟨_,rfl,?_⟩ ?_)
   ·exact qU.mono (qU.set9 (qU.setN HLS.o (by omega) _) (by omega) _ _ _ _ _ _ _ _ _) (fun g hg=>by omega)
   ·exact set9 (jR HX.o.bl (by omega) _) (by omega) _ _ _ _ _ _ _ _ _
  ·skip
   refine wRg (S:=fun w'=>Below V.1.size V w') 5 ?_;refine wTk 0 82 (.pointer (some ⟨w.1.size+1+1+1,1,none⟩)) ?_ (bD V) ?_
   ·intro _ y;go_simp
   refine wTk 1 83 (.agg #[.int .i64 A0, .bool A1]) ?_ (bD V) ?_
   ·intro _ y;obtain⟨t0,t1,x0,x1,x2,n0,n1,n2,n3,n4,n5⟩:=kP11 y t0 t1 x0 x1 x2 n0 n1 n2 n3 n4 n5;go_simp
   refine wTk 2 84 (.agg #[.int .i64 T0, .bool T1]) ?_ (bD V) ?_
   ·intro _ y;obtain⟨t0,t1,x0,x1,x2,n0,n1,n2,n3,n4,n5⟩:=kP11 y t0 t1 x0 x1 x2 n0 n1 n2 n3 n4 n5;go_simp
   refine wTk 3 85 (.bool false) ?_ (bD V) ?_
   ·intro _ y;clear y;by_cases hz1:A0=T0
    ·have hz2:¬A1=T1:=fun e=>hz (by rw[hz1,e])
     subst hz1;cases A1 <;> cases T1 <;> first | exact absurd rfl hz2 | go_simp
    ·go_simp
   refine wTk 4 86 (.agg #[.string ⟨k.toArray⟩, .string ⟨x.toArray⟩, .int .u64 m, .int .i64 al, .int .i64 ac, .slice q ks.length c]) ?_ (bD V) ?_
   ·intro _ y;obtain⟨t0,t1,x0,x1,x2,n0,n1,n2,n3,n4,n5⟩:=kP11 y t0 t1 x0 x1 x2 n0 n1 n2 n3 n4 n5;go_simp
   refine wOn 5 fun K hK=>?_
   go_simp;refine(HNN.o _).mono ?_;rintro e w4 ⟨rfl,hb4⟩;exact⟨rfl,zP.badI (by rw[HPC.o,show decide (((A0,A1):Ty)=(T0,T1))=false from decide_eq_false hz];rfl) ⟨rfl,HX3.o.bl.trans ((zF hb4).mono HX3.o.bl.size)⟩⟩
 case true =>
  simp only[h4,bO,bU]at h3;go_enter func134,ntmps134
  go_wp2_with fail
  generalize ((((w.alloc _).alloc _).alloc _).alloc _)=W at *;obtain⟨HX,HXB⟩:=HX.o;have HX:=hI HX;have HXB:=hI HXB;refine(HPL.o).mono ?_;rintro e w2 hX;rcases hX.cases with⟨a,u,hp,rfl,rfl,hb2⟩ | ⟨l',c',code,hp,rfl,hb2⟩;rotate_left
  ·exact⟨rfl,zP.badI (by rw[HPB.o,hp];rfl) ⟨rfl,HX.o.bl.trans (hb2.mono HX.o.bl.size)⟩⟩
  obtain⟨aop,⟨A0,A1⟩,an,av,ag,al,ac,ak⟩:=a;obtain⟨rfl,rfl,rfl⟩:al=ln/\ac=co/\ak=[]:=by
   unfold qQ1 at hp;cases hf:qZD E (.mk k x m ln co ks)with
   | bad _ _ _=>rw[hf]at hp;cases hp
   | ok r =>
    rw[hf]at hp;simp only[CR.bind,jQ]at hp;split at hp
    ·simp only[qQ.line,qQ.col,CR.ok.injEq,Ex.mk.injEq]at hp;exact⟨hp.2.2.2.2.2.1.symm,hp.2.2.2.2.2.2.1.symm,hp.2.2.2.2.2.2.2.symm⟩
    ·cases hp
  unfold exV;have HPC:=hI (HPB.o.trans (by rw[hp];rfl:_=(jQ (decide (((A0,A1):Ty)=(T0,T1))) (.mk k x m al ac ks) 41).bind fun _=>(qQL E ks).bind fun es=>.ok (.mk aop (A0,A1) an av ag al ac es)));have HX2:=hI (HX.o.below hb2);have HXB2:=hI (HXB.o.below hb2);have hbs:=hb2.size;clear hX HPL hp hb2 HX HXB;obtain⟨n0,n1,n2,n3,n4,n5⟩:=HX2.o.nd.cells;have t0:=HX2.o.ty.c0;have t1:=HX2.o.ty.c1;have xb:=HXB2.o;unfold XB at xb;simp only[qQ.line,qQ.col,Nat.add_zero]at xb;have⟨x0,x1,x2,x3,x4,x5,x6,x7,x8,_⟩:=xb.a;have⟨xf0,xf1,xf2,xf3,xf4,xf5,xf6,xf7,xf8,_⟩:=xb.b;clear xb;have hs4:=HX2.o.sz;have hna:¬w.1.size+1+1+1=w.1.size+1+1:=by omega
  go_wp2
  have HX3:=hI (HX2.o.turn (set9 (N:=w.1.size+1+1+1) (Below.refl (w.1.size+3) w2) (by omega) (.string ⟨aop.toArray⟩) (.int .i64 A0) (.bool A1) (.int .u64 an) (.int .i64 av) (.bool ag) (.int .i64 al) (.int .i64 ac) (.slice none 0 0)));have HXB3:=hI (XB.set9 (op':=aop) (T':=(A0,A1)) (n':=an) (va':=av) (g':=ag) (kv':=.slice none 0 0) HXB2.o);simp only[qQ.line,qQ.col]at HXB3;clear n0 n1 n2 n3 n4 n5 t0 t1 x0 x1 x2 x3 x4 x5 x6 x7 x8 xf0 xf1 xf2 xf3 xf4 xf5 xf6 xf7 xf8 HX2 HXB2;generalize (World.setCell (World.setCell (World.setCell (World.setCell (World.setCell (World.setCell (World.setCell (World.setCell (World.setCell w2 ⟨w.1.size+1+1+1,0,none⟩ (.string ⟨aop.toArray⟩)) ⟨w.1.size+1+1+1,1,none⟩ (.int .i64 A0)) ⟨w.1.size+1+1+1,2,none⟩ (.bool A1)) ⟨w.1.size+1+1+1,3,none⟩ (.int .u64 an)) ⟨w.1.size+1+1+1,4,none⟩ (.int .i64 av)) ⟨w.1.size+1+1+1,5,none⟩ (.bool ag)) ⟨w.1.size+1+1+1,6,none⟩ (.int .i64 al)) ⟨w.1.size+1+1+1,7,none⟩ (.int .i64 ac)) ⟨w.1.size+1+1+1,8,none⟩ (.slice none 0 0))=V at *;obtain⟨n0,n1,n2,n3,n4,n5⟩:=HX3.o.nd.cells;have t0:=HX3.o.ty.c0;have t1:=HX3.o.ty.c1;have xb:=HXB3.o;unfold XB at xb;simp only[qQ.line,qQ.col,Nat.add_zero]at xb;have⟨x0,x1,x2,x3,x4,x5,x6,x7,x8,_⟩:=xb.a;have⟨xf0,xf1,xf2,xf3,xf4,xf5,xf6,xf7,xf8,_⟩:=xb.b;clear xb;by_cases hz:((A0,A1):Ty)=(T0,T1)
  ·injection hz with hz1 hz2;subst hz1 hz2;refine wRg (S:=fun w'=>Below V.1.size V w') 5 ?_;refine wTk 0 82 (.pointer (some ⟨w.1.size+1+1+1,1,none⟩)) ?_ (bD V) ?_
   ·intro _ y;go_simp
   refine wTk 1 83 (.agg #[.int .i64 A0, .bool A1]) ?_ (bD V) ?_
   ·intro _ y;obtain⟨t0,t1,x0,x1,x2,n0,n1,n2,n3,n4,n5⟩:=kP11 y t0 t1 x0 x1 x2 n0 n1 n2 n3 n4 n5;go_simp
   refine wTk 2 84 (.agg #[.int .i64 A0, .bool A1]) ?_ (bD V) ?_
   ·intro _ y;obtain⟨t0,t1,x0,x1,x2,n0,n1,n2,n3,n4,n5⟩:=kP11 y t0 t1 x0 x1 x2 n0 n1 n2 n3 n4 n5;go_simp
   refine wTk 3 85 (.bool true) ?_ (bD V) ?_
   ·intro _ y;obtain⟨t0,t1,x0,x1,x2,n0,n1,n2,n3,n4,n5⟩:=kP11 y t0 t1 x0 x1 x2 n0 n1 n2 n3 n4 n5;go_simp
   refine wTk 4 86 (.agg #[.string ⟨k.toArray⟩, .string ⟨x.toArray⟩, .int .u64 m, .int .i64 al, .int .i64 ac, .slice q ks.length c]) ?_ (bD V) ?_
   ·intro _ y;obtain⟨t0,t1,x0,x1,x2,n0,n1,n2,n3,n4,n5⟩:=kP11 y t0 t1 x0 x1 x2 n0 n1 n2 n3 n4 n5;go_simp
   refine wOn 5 fun K hK=>?_
   go_simp;refine(HNY.o _).mono ?_;rintro e w4 ⟨rfl,hb4⟩;refine kD hK ?_;clear hK K;refine wDn ?_ _;have hbW:=zF hb4;have HX4:=hI (HX3.o.below hbW);have HXB4:=hI (HXB3.o.below hbW);have HPD:=hI (HPC.o.trans (by rw[show decide (((A0,A1):Ty)=(A0,A1))=true from decide_eq_true rfl];rfl:_=(qQL E ks).bind fun es=>.ok (.mk aop (A0,A1) an av ag al ac es)));have hK4:=HX4.o.kids;have HI:=hI (qVE B L E ks q c w4 HWK.o HREC.o HX4.o.en (by have:=HX4.o.bl.size;have:=HX4.o.hL;omega) hK4 (by omega));clear n0 n1 n2 n3 n4 n5 t0 t1 x0 x1 x2 x3 x4 x5 x6 x7 x8 xf0 xf1 xf2 xf3 xf4 xf5 xf6 xf7 xf8 hb4 hbW HX3 HXB3 HNY HNN HNA hK4;obtain⟨n0,n1,n2,n3,n4,n5⟩:=HX4.o.nd.cells;go_wp2_with fail
   refine(HI.o).mono ?_;rintro e w5 hX;rcases hX.cases with⟨es,u,hp,rfl,hles,hb5⟩ | ⟨l',c',code,hp,rfl,hb5⟩;rotate_left
   ·exact⟨rfl,zP.badI (by rw[HPD.o,hp];rfl) ⟨rfl,HX4.o.bl.trans (hb5.mono HX4.o.bl.size)⟩⟩
   obtain⟨uq,uc,rfl⟩:=hles.shape;have HQ:=hI (HPD.o.trans (by rw[hp];rfl:_=.ok (.mk aop (A0,A1) an av ag al ac es)));have hs5:=HX4.o.sz;have HLS:=hI (hles.mono (ok':=fun g=>w.1.size+4<=g) (fun g hg=>by omega));have HX:=hI (HX4.o.below hb5);have HXB:=hI (HXB4.o.below hb5);clear n0 n1 n2 n3 n4 n5 hX hp hles hb5 HI HX4 HXB4;have⟨r0,r1,r2,r3,r4,r5,r6,r7,r8,_⟩:=HX.o.rs.a;have⟨rf0,rf1,rf2,rf3,rf4,rf5,rf6,rf7,rf8,_⟩:=HX.o.rs.b;have xb:=HXB.o;unfold XB at xb;simp only[qQ.line,qQ.col,Nat.add_zero]at xb;have⟨x0,x1,x2,x3,x4,x5,x6,x7,x8,_⟩:=xb.a;have⟨xf0,xf1,xf2,xf3,xf4,xf5,xf6,xf7,xf8,_⟩:=xb.b;clear xb;have rl:=HX.o.rs.lt;have xl:=HXB.o.lt;go_wp2
   refine bodyPost_ret (v:=exV (.mk aop (A0,A1) an av ag al ac es) (.slice uq es.length uc)) (by simp[results,results134,go_sem,exV,r0,r1,r2,r3,r4,r5,r6,r7,r8,rl]) rfl (zP.okI HQ.o ⟨_,rfl,?_⟩ ?_)
   ·exact qU.mono (qU.set9 (qU.setN HLS.o (by omega) _) (by omega) _ _ _ _ _ _ _ _ _) (fun g hg=>by omega)
   ·exact set9 (jR HX.o.bl (by omega) _) (by omega) _ _ _ _ _ _ _ _ _
  ·skip
   refine wRg (S:=fun w'=>Below V.1.size V w') 5 ?_;refine wTk 0 82 (.pointer (some ⟨w.1.size+1+1+1,1,none⟩)) ?_ (bD V) ?_
   ·intro _ y;go_simp
   refine wTk 1 83 (.agg #[.int .i64 A0, .bool A1]) ?_ (bD V) ?_
   ·intro _ y;obtain⟨t0,t1,x0,x1,x2,n0,n1,n2,n3,n4,n5⟩:=kP11 y t0 t1 x0 x1 x2 n0 n1 n2 n3 n4 n5;go_simp
   refine wTk 2 84 (.agg #[.int .i64 T0, .bool T1]) ?_ (bD V) ?_
   ·intro _ y;obtain⟨t0,t1,x0,x1,x2,n0,n1,n2,n3,n4,n5⟩:=kP11 y t0 t1 x0 x1 x2 n0 n1 n2 n3 n4 n5;go_simp
   refine wTk 3 85 (.bool false) ?_ (bD V) ?_
   ·intro _ y;clear y;by_cases hz1:A0=T0
    ·have hz2:¬A1=T1:=fun e=>hz (by rw[hz1,e])
     subst hz1;cases A1 <;> cases T1 <;> first | exact absurd rfl hz2 | go_simp
    ·go_simp
   refine wTk 4 86 (.agg #[.string ⟨k.toArray⟩, .string ⟨x.toArray⟩, .int .u64 m, .int .i64 al, .int .i64 ac, .slice q ks.length c]) ?_ (bD V) ?_
   ·intro _ y;obtain⟨t0,t1,x0,x1,x2,n0,n1,n2,n3,n4,n5⟩:=kP11 y t0 t1 x0 x1 x2 n0 n1 n2 n3 n4 n5;go_simp
   refine wOn 5 fun K hK=>?_
   go_simp;refine(HNN.o _).mono ?_;rintro e w4 ⟨rfl,hb4⟩;exact⟨rfl,zP.badI (by rw[HPC.o,show decide (((A0,A1):Ty)=(T0,T1))=false from decide_eq_false hz];rfl) ⟨rfl,HX3.o.bl.trans ((zF hb4).mono HX3.o.bl.size)⟩⟩
theorem exp_cast(k x:List UInt8)(m ln co:Int)(ks:List qQ)(hw:wfE (.mk k x m ln co ks)=true)(hrec:∀ u∈ks,qXL u)(h1:(k == zD)=false)(h2:(k == zL || k == qH)=false)(h3:(k == zM || k == qL)=false)(h5:(k == zK)=true):qXL (.mk k x m ln co ks):=by
 intro B L E v T w h hL hl;obtain⟨q,c,rfl,hc1,hc2,hK⟩:=hl.kids;have HX:=hI (XIn.new (T:=T) h hL hl);have hw2:2 < w.1.size:=by
  obtain⟨gv,vv,Mg,Mo,Mr,F,o,cl,hE⟩:=h;exact qJ hE.d0
 obtain⟨hx,⟨hm0,hm1⟩,hwk,hwf⟩:=qQs hw;have hkl:ks.length<=2:=by rcases hwf with⟨_,h⟩ | ⟨_,h⟩ | ⟨_,_,h⟩ <;> first | omega | simp[h]
 clear h hl hK;obtain⟨T0,T1⟩:=T;have HP:=hI (qK3 E k x m ln co ks (T0,T1));have HPB:=hI (show qQT E (.mk k x m ln co ks) (T0,T1)=(jQ (decide (tyL x=(T0,T1))) (.mk k x m ln co ks) 41).bind fun _=>(yB E ks).bind fun u=>(vD E ks u).bind fun es=>.ok (.mk zK (T0,T1) 0 0 false ln co es) by rw[HP.o,h1,h2,h3,h5];rfl);have HTY:=hI (fun w' (hb:Below w.1.size w w')=>(qKd (.mk k x m ln co ks) (.slice q ks.length c) w' (by obtain⟨gv,vv,Mg,Mo,Mr,F,o,cl,hE⟩:=HX.o.1.e0;exact hE.wt.below hb)));have HREC:=hI hrec;have HWK:=hI hwk;clear HP hrec hwk hwf;simp only[Bool.or_eq_false_iff]at h2 h3;obtain⟨h2a,h2b⟩:=h2;obtain⟨h3a,h3b⟩:=h3;simp only[qZ,tyV,qB,tyO,exO,qS,zD,qQ.kind,qQ.text,qQ.num,qQ.line,qQ.col,qQ.kids]at HX ⊢;have HNY:=hI (fun w'=>qQl (.mk k x m ln co ks) (.slice q ks.length c) 41 w');have HNN:=hI (fun w'=>qQ5 (.mk k x m ln co ks) (.slice q ks.length c) 41 w');simp only[qZ,qQ.kind,qQ.text,qQ.num,qQ.line,qQ.col,qQ.kids]at HNY HNN;simp only[qZ,qQ.kind,qQ.text,qQ.num,qQ.line,qQ.col,qQ.kids]at HTY;generalize hU:tyL x=U at *;obtain⟨U0,U1⟩:=U;unfold tyV at HTY;simp only at HTY;unfold zD at h1;unfold zL at h2a;unfold qH at h2b;unfold zM at h3a;unfold qL at h3b;unfold zK at h5;go_enter func134,ntmps134
 go_wp2
 generalize ((((w.alloc _).alloc _).alloc _).alloc _)=W at *;obtain⟨HX,HXB⟩:=HX.o;have HX:=hI HX;have HXB:=hI HXB;obtain⟨n0,n1,n2,n3,n4,n5⟩:=HX.o.nd.cells;have t0:=HX.o.ty.c0;have t1:=HX.o.ty.c1;have hs4:=HX.o.sz;have hna:¬w.1.size+1+1+1=w.1.size+1+1:=by omega
 by_cases hz:((U0,U1):Ty)=(T0,T1)
 ·injection hz with hz1 hz2;subst hz1 hz2;refine wRg (S:=fun w'=>Below W.1.size W w') 5 ?_;refine wTk 0 95 (.agg #[.string ⟨k.toArray⟩, .string ⟨x.toArray⟩, .int .u64 m, .int .i64 ln, .int .i64 co, .slice q ks.length c]) ?_ (bD W) ?_
  ·intro _ y;obtain⟨t0,t1,n0,n1,n2,n3,n4,n5⟩:=kP8 y t0 t1 n0 n1 n2 n3 n4 n5;go_simp
  refine wTk 2 97 (.agg #[.int .i64 U0, .bool U1]) ?_ (bD W) ?_
  ·intro _ y;obtain⟨t0,t1,n0,n1,n2,n3,n4,n5⟩:=kP8 y t0 t1 n0 n1 n2 n3 n4 n5;go_simp
  refine wTk 4 99 (.agg #[.string ⟨k.toArray⟩, .string ⟨x.toArray⟩, .int .u64 m, .int .i64 ln, .int .i64 co, .slice q ks.length c]) ?_ (bD W) ?_
  ·intro _ y;obtain⟨t0,t1,n0,n1,n2,n3,n4,n5⟩:=kP8 y t0 t1 n0 n1 n2 n3 n4 n5;go_simp
  refine wOn 1 fun K hK=>?_
  go_simp;refine(HTY.o _ HX.o.bl.drew).mono ?_;rintro e w3 ⟨rfl,hb3⟩;have hbW:=zF hb3;refine kK hK hbW ?_;clear hK K;refine wTk 3 98 (.bool true) ?_ (hbW) ?_
  ·intro _ y;go_simp
  refine wOn 5 fun K hK=>?_
  go_simp;refine(HNY.o _).mono ?_;rintro e w4 ⟨rfl,hb4⟩;refine kD hK ?_;clear hK K;refine wDn ?_ _;have hbW2:=hbW.trans (hb4.mono hbW.size);have HX4:=hI (HX.o.below hbW2);have HXB4:=hI (HXB.o.below hbW2);have HPD:=hI (HPB.o.trans (by rw[show decide (((U0,U1):Ty)=(U0,U1))=true from decide_eq_true rfl];rfl:_=(yB E ks).bind fun u=>(vD E ks u).bind fun es=>.ok (.mk zK (U0,U1) 0 0 false ln co es)));have hs4':=HX4.o.sz;have hL4:=HX4.o.hL;clear n0 n1 n2 n3 n4 n5 t0 t1 hb3 hb4 hbW hbW2 HX HXB HNY HNN HTY HPB;obtain⟨n0,n1,n2,n3,n4,n5⟩:=HX4.o.nd.cells;go_wp2
  refine wW (S:=fun w'=>Below (w.1.size+3) w4 w') (tail:=fun _=>false) (by kernel_rfl) ?_;change vR _ _ _ _ _ _ _ _ _ (World.drew _);refine wTk 0 101 (.pointer (some ⟨B,0,none⟩)) ?_ ((Below.refl (w.1.size+3) w4).drew) ?_
  ·intro _ y;go_simp
  refine wTk 1 102 (.pointer (some ⟨w.1.size,5,none⟩)) ?_ ((Below.refl (w.1.size+3) w4).drew) ?_
  ·intro _ y;go_simp
  refine wTk 2 103 (.slice q ks.length c) ?_ ((Below.refl (w.1.size+3) w4).drew) ?_
  ·intro _ y;have n5:=(y.cell (p:=⟨_,_,none⟩) (by simp)).trans n5;go_simp
  refine wTk 3 104 (.pointer (some ⟨B,0,none⟩)) ?_ ((Below.refl (w.1.size+3) w4).drew) ?_
  ·intro _ y;go_simp
  refine wTk 4 105 (.pointer (some ⟨w.1.size,5,none⟩)) ?_ ((Below.refl (w.1.size+3) w4).drew) ?_
  ·intro _ y;go_simp
  refine wTk 5 106 (.slice q ks.length c) ?_ ((Below.refl (w.1.size+3) w4).drew) ?_
  ·intro _ y;have n5:=(y.cell (p:=⟨_,_,none⟩) (by simp)).trans n5;go_simp
  refine wTk 8 109 (.pointer (some ⟨w.1.size+1+1+1,0,none⟩)) ?_ ((Below.refl (w.1.size+3) w4).drew) ?_
  ·intro _ y;go_simp
  refine wOn 6 fun K hK=>?_
  go_simp;refine(qKD B L E ks q c _ (qJV ks HWK.o) HX4.o.en.drew (by simp;omega) (HX4.o.kids.keep (Below.refl _ _).drew) (by omega)).mono ?_;rintro e w5 hX;rcases hX.cases with⟨⟨V0,V1⟩,u,hp,rfl,rfl,hb5⟩ | ⟨l',c',code,hp,rfl,hb5⟩;rotate_left
  ·exact⟨rfl,zP.badI (by rw[HPD.o,hp];rfl) ⟨rfl,HX4.o.bl.trans ((zF hb5).mono HX4.o.bl.size)⟩⟩
  have hb5:=zF hb5;have HX5:=hI (HX4.o.below hb5);have HXB5:=hI (HXB4.o.below hb5);have hs5:=hb5.size;have HPE:=hI (HPD.o.trans (by rw[hp];rfl:_=(vD E ks (V0,V1)).bind fun es=>.ok (.mk zK (U0,U1) 0 0 false ln co es)));unfold tyV;clear hX hp;refine kK hK (hb5.mono (by omega)) ?_;clear hK K;refine wOn 7 fun K hK=>?_
  go_simp;refine(qZs B L E ks q c (V0,V1) _ HREC.o HX5.o.en (by omega) HX5.o.kids (by omega)).mono ?_;rintro e w6 hX;rcases hX.cases with⟨es,u,hp,rfl,hles,hb6⟩ | ⟨l',c',code,hp,rfl,hb6⟩;rotate_left
  ·exact⟨rfl,zP.badI (by rw[HPE.o,hp];rfl) ⟨rfl,HX5.o.bl.trans (hb6.mono HX5.o.bl.size)⟩⟩
  obtain⟨uq,uc,rfl⟩:=hles.shape;have HX:=hI (HX5.o.below hb6);have HXB:=hI (HXB5.o.below hb6);have hs6:=hb6.size;have HQ:=hI (HPE.o.trans (by rw[hp];rfl:_=.ok (.mk zK (U0,U1) 0 0 false ln co es)));have HLS:=hI (hles.mono (ok':=fun g=>w.1.size+4<=g) (fun g hg=>by omega));have hbs6:Below (w.1.size+3) w4 w6:=(hb5.mono (by omega)).trans (hb6.mono (by omega));clear hX hp hles;have⟨r0,r1,r2,r3,r4,r5,r6,r7,r8,_⟩:=HX.o.rs.a;have⟨rf0,rf1,rf2,rf3,rf4,rf5,rf6,rf7,rf8,_⟩:=HX.o.rs.b;have xb:=HXB.o;unfold XB at xb;simp only[qQ.line,qQ.col,Nat.add_zero]at xb;have⟨x0,x1,x2,x3,x4,x5,x6,x7,x8,_⟩:=xb.a;have⟨xf0,xf1,xf2,xf3,xf4,xf5,xf6,xf7,xf8,_⟩:=xb.b;clear xb;have rl:=HX.o.rs.lt;have xl:=HXB.o.lt;refine kK hK hbs6 ?_;clear hK K;refine wOn 9 fun K hK=>?_
  go_simp;refine kK hK (jR hbs6 (by omega) _) ?_;clear hK K;refine wOn 10 fun K hK=>?_
  go_simp;refine kK hK (jR hbs6 (by omega) _) ?_;clear hK K;refine wOn 11 fun K hK=>?_
  go_simp;refine kK hK (jR (jR hbs6 (by omega) _) (by omega) _) ?_;clear hK K;refine wDn ?_ _;go_wp2
  refine bodyPost_ret (v:=exV (.mk zK (U0,U1) 0 0 false ln co es) (.slice uq es.length uc)) (by simp[results,results134,go_sem,exV,zK,r0,r1,r2,r3,r4,r5,r6,r7,r8,rl]) rfl (zP.okI HQ.o ⟨_,rfl,?_⟩ ?_)
  ·exact qU.mono (qU.set9 (qU.setN (qU.setN HLS.o (by omega) _) (by omega) _) (by omega) _ _ _ _ _ _ _ _ _) (fun g hg=>by omega)
  ·exact set9 (jR (jR HX.o.bl (by omega) _) (by omega) _) (by omega) _ _ _ _ _ _ _ _ _
 ·skip
  refine wRg (S:=fun w'=>Below W.1.size W w') 5 ?_;refine wTk 0 95 (.agg #[.string ⟨k.toArray⟩, .string ⟨x.toArray⟩, .int .u64 m, .int .i64 ln, .int .i64 co, .slice q ks.length c]) ?_ (bD W) ?_
  ·intro _ y;obtain⟨t0,t1,n0,n1,n2,n3,n4,n5⟩:=kP8 y t0 t1 n0 n1 n2 n3 n4 n5;go_simp
  refine wTk 2 97 (.agg #[.int .i64 T0, .bool T1]) ?_ (bD W) ?_
  ·intro _ y;obtain⟨t0,t1,n0,n1,n2,n3,n4,n5⟩:=kP8 y t0 t1 n0 n1 n2 n3 n4 n5;go_simp
  refine wTk 4 99 (.agg #[.string ⟨k.toArray⟩, .string ⟨x.toArray⟩, .int .u64 m, .int .i64 ln, .int .i64 co, .slice q ks.length c]) ?_ (bD W) ?_
  ·intro _ y;obtain⟨t0,t1,n0,n1,n2,n3,n4,n5⟩:=kP8 y t0 t1 n0 n1 n2 n3 n4 n5;go_simp
  refine wOn 1 fun K hK=>?_
  go_simp;refine(HTY.o _ HX.o.bl.drew).mono ?_;rintro e w3 ⟨rfl,hb3⟩;have hbW:=zF hb3;refine kK hK hbW ?_;clear hK K;refine wTk 3 98 (.bool false) ?_ (hbW) ?_
  ·intro _ y;clear y;by_cases hz1:U0=T0
   ·have hz2:¬U1=T1:=fun e=>hz (by rw[hz1,e])
    subst hz1;cases U1 <;> cases T1 <;> first | exact absurd rfl hz2 | go_simp
   ·go_simp
  refine wOn 5 fun K hK=>?_
  go_simp;refine(HNN.o _).mono ?_;rintro e w4 ⟨rfl,hb4⟩;exact⟨rfl,zP.badI (by rw[HPB.o,show decide (((U0,U1):Ty)=(T0,T1))=false from decide_eq_false hz];rfl) ⟨rfl,HX.o.bl.trans ((hbW.trans (hb4.mono hbW.size)).mono HX.o.bl.size)⟩⟩
theorem wE{P:Program}{ops:Array Oper}{Q:Exit->Act->World->Prop}{md:Region.Mode}{S:World->Prop}{tail:Nat->Bool}{i j:Nat}{o o':Oper}{fuel:Nat}{listed:Array Bool}{a:Act}{w:World}(hi:ops[i]? = some o)(hj:ops[j]? = some o')(hr:Region.ready md ops listed=[i,j])(hw:Region.wanted o (yielded ops a.tmps)=true)(hw':Region.wanted o' (yielded ops a.tmps)=true)
 (h:∀ K:Act->World->Prop,Shut (∀ a' w',(tail i=false->S w')->vR P md ops Q S tail fuel (listed.setIfInBounds i true) a' w'->K a' w')->o.wp P a w K Q)
 (h':∀ K:Act->World->Prop,Shut (∀ a' w',(tail j=false->S w')->vR P md ops Q S tail fuel (listed.setIfInBounds j true) a' w'->K a' w')->o'.wp P a w K Q):vR P md ops Q S tail (fuel+1) listed a w:=by
 refine⟨fun h0=>(by rw[hr]at h0;cases h0),fun k hk=>?_⟩;rw[hr]at hk;have hk':k=i\/k=j:=by simpa using hk
 rcases hk' with rfl | rfl
 ·unfold wpOp;simp only[hi,hw,if_true];exact .inl (h _ (fun a' w' h1 h2=>⟨h1,h2⟩))
 ·unfold wpOp;simp only[hj,hw',if_true];exact .inl (h' _ (fun a' w' h1 h2=>⟨h1,h2⟩))
theorem ask_any(B L:Nat)(E:Env)(ks:List qQ)(q:Option Addr)(c:Nat)(T:Ty)(cl:vE)(r:Nat)(op:List UInt8)(hr:qXx op=some r)(hw:qZV ks=true)(hn:ks.length<=1000000) :
 ∃ (f:Nat) (caps:Array Value),qUZ cl r=.func (.func f) #[] caps/\(∀ (args:Array Value) (w:World),(callFunc f args).run prog w=.ok (.enter f args) w) /\
  ∀ w,(∃ gv vv Mg Mo Mr F o,EIn B E gv vv Mg Mo Mr F o cl w)->L<=w.1.size->yD L w ks q->Calls prog f (#[.slice q ks.length c,tyV T]++caps) w (zP (qQr E op ks T) (fun a v _=>v=qQt a) w):=by
 have ho:qQr E op ks T=match (some r:Option Nat)with
  | some 0=>.ok (zO,decide (T=zO))
  | some 1=>qYV E ks T
  | some 2=>qJx E ks T
  | some 3=>.ok (T,decide (T≠zO))
  | _=>.ok (T,true):=by unfold qQr;rw[hr];rfl
 rw[ho];match r with
 | 0=>exact⟨78,#[],rfl,fun _ _=>rfl,fun w h _ _=>by obtain⟨gv,vv,Mg,Mo,Mr,F,o,hE⟩:=h;exact ask0 B E _ T w ⟨gv,vv,Mg,Mo,Mr,F,o,cl,hE⟩⟩
 | 1=>exact⟨81,#[.pointer (some ⟨cl.c,0,none⟩)],rfl,fun _ _=>rfl,fun w h hL hK=>by obtain⟨gv,vv,Mg,Mo,Mr,F,o,hE⟩:=h;exact ask1 B L cl.c E ks q c T w hw ⟨gv,vv,Mg,Mo,Mr,F,o,cl,hE⟩ hE.cc hL hK hn⟩
 | 2=>exact⟨83,#[.pointer (some ⟨cl.eq,0,none⟩)],rfl,fun _ _=>rfl,fun w h hL hK=>by obtain⟨gv,vv,Mg,Mo,Mr,F,o,hE⟩:=h;exact ask2 B L cl.eq cl.c E ks q c T w hw ⟨gv,vv,Mg,Mo,Mr,F,o,cl,hE⟩ hE.cc hE.ce hL hK hn⟩
 | 3=>exact⟨79,#[],rfl,fun _ _=>rfl,fun w h _ _=>by obtain⟨gv,vv,Mg,Mo,Mr,F,o,hE⟩:=h;exact ask3 B E _ T w ⟨gv,vv,Mg,Mo,Mr,F,o,cl,hE⟩⟩
 | n+4=>exact⟨80,#[],rfl,fun _ _=>rfl,fun w h _ _=>by obtain⟨gv,vv,Mg,Mo,Mr,F,o,hE⟩:=h;exact ask4 B E _ T w ⟨gv,vv,Mg,Mo,Mr,F,o,cl,hE⟩⟩
theorem XB.set0{k:Nat}{op op':List UInt8}{T:Ty}{n va:Int}{g:Bool}{t:qQ}{kv:Value}{w W:World}(h:XB k op T n va g t kv w W):XB k op' T n va g t kv w (W.setCell ⟨w.1.size+1+1+k,0,none⟩ (.string ⟨op'.toArray⟩)):=by
 unfold XB at *;have⟨h0,h1,h2,h3,h4,h5,h6,h7,h8,_⟩:=h.a;have hf:=h.f;generalize w.1.size+1+1+k=N at *;constructor
 case f=>intro j hj;have:=hf j hj;simp[go_sem, *]
 all_goals simp[go_sem, *]
theorem exp_op(k x:List UInt8)(m ln co:Int)(ks:List qQ)(hw:wfE (.mk k x m ln co ks)=true)(hrec:∀ u∈ks,qXL u)(r:Nat)(hr:qXx (qXs k x)=some r)(h1:(k == zD)=false)(h2:(k == zL || k == qH)=false)(h3:(k == zM || k == qL)=false)(h5:(k == zK)=false):qXL (.mk k x m ln co ks):=by
 intro B L E v T w h hL hl;obtain⟨q,c,rfl,hc1,hc2,hK⟩:=hl.kids;have HX:=hI (XIn.new (T:=T) h hL hl);have hw2:2 < w.1.size:=by
  obtain⟨gv,vv,Mg,Mo,Mr,F,o,cl,hE⟩:=h;exact qJ hE.d0
 obtain⟨hx,⟨hm0,hm1⟩,hwk,hwf⟩:=qQs hw;have hkl:ks.length<=2:=by rcases hwf with⟨_,h⟩ | ⟨_,h⟩ | ⟨_,_,h⟩ <;> first | omega | simp[h]
 clear h hl hK;obtain⟨T0,T1⟩:=T;have HP:=hI (qK3 E k x m ln co ks (T0,T1));have HPB:=hI (show qQT E (.mk k x m ln co ks) (T0,T1)=(qQr E (qXs k x) ks (T0,T1)).bind fun u=>(jQ u.2 (.mk k x m ln co ks) 41).bind fun _=>(vD E ks u.1).bind fun es=>.ok (.mk (qXs k x) (T0,T1) 0 0 false ln co es) by rw[HP.o,h1,h2,h3,h5];rfl);have HOP:=hI (fun w'=>qVe (.mk k x m ln co ks) (.slice q ks.length c) w' hx);have HASK:=hI (fun cl=>ask_any B L E ks q c (T0,T1) cl r (qXs k x) hr hwk (by omega));have HRU:=hI hr;have HOL:=hI (op_len k x);have HREC:=hI hrec;have HWK:=hI hwk;clear HP hrec hwk hwf hr;simp only[Bool.or_eq_false_iff]at h2 h3;obtain⟨h2a,h2b⟩:=h2;obtain⟨h3a,h3b⟩:=h3;simp only[qZ,tyV,qB,tyO,exO,qS,zD,qQ.kind,qQ.text,qQ.num,qQ.line,qQ.col,qQ.kids]at HX ⊢;have HNA:=hI (fun b w'=>qQk b (.mk k x m ln co ks) (.slice q ks.length c) 41 w');simp only[qZ,qQ.kind,qQ.text,qQ.num,qQ.line,qQ.col,qQ.kids]at HNA HOP;unfold zD at h1;unfold zL at h2a;unfold qH at h2b;unfold zM at h3a;unfold qL at h3b;unfold zK at h5;generalize hopo:qXs k x=op at *;go_enter func134,ntmps134
 go_wp2_with fail
 generalize ((((w.alloc _).alloc _).alloc _).alloc _)=W at *;obtain⟨HX,HXB⟩:=HX.o;have HX:=hI HX;have HXB:=hI HXB;refine(HOP.o _).mono ?_;rintro e w2 ⟨rfl,hb2⟩;have HX2:=hI (HX.o.below hb2);have HXB2:=hI (HXB.o.below hb2);clear HX HXB hb2 HOP;have xb:=HXB2.o;unfold XB at xb;simp only[qQ.line,qQ.col,Nat.add_zero]at xb;have⟨x0,x1,x2,x3,x4,x5,x6,x7,x8,_⟩:=xb.a;have⟨xf0,xf1,xf2,xf3,xf4,xf5,xf6,xf7,xf8,_⟩:=xb.b;clear xb;have hs4:=HX2.o.sz;go_wp2
 have HX3:=hI (HX2.o.turn (jR (N:=w.1.size+1+1+1) (o:=0) (Below.refl (w.1.size+3) w2) (by omega) (.string ⟨op.toArray⟩)));have HXB3:=hI (XB.set0 (op':=op) HXB2.o);clear x0 x1 x2 x3 x4 x5 x6 x7 x8 xf0 xf1 xf2 xf3 xf4 xf5 xf6 xf7 xf8 HX2 HXB2 hs4;generalize (World.setCell w2 ⟨w.1.size+1+1+1,0,none⟩ (.string ⟨op.toArray⟩))=V at *;obtain⟨n0,n1,n2,n3,n4,n5⟩:=HX3.o.nd.cells;have t0:=HX3.o.ty.c0;have t1:=HX3.o.ty.c1;have x0:=HXB3.o.c0;try simp only[Nat.add_zero]at x0
 have hs4:=HX3.o.sz;have hL4:=HX3.o.hL;obtain⟨gv,vv,Mg,Mo,Mr,F,o,cl,hE⟩:=HX3.o.en;have c6:=hE.c6;obtain⟨f,caps,hfn,hcf,hcall⟩:=HASK.o cl;have HCALL:=hI hcall;have HLK:=hI (fun w' (hb:Below V.1.size V w')=>(hE.rm.below hb).look HRU.o (by have:=HOL.o;unfold maxLen;omega));unfold qKr at HLK;simp only[hfn]at HLK;have HEE:=hI hE;clear hE hcall HASK hfn;cases hO:qQr E op ks (T0,T1)with
 | bad l' c' code =>
  refine wRg (S:=fun w'=>Below V.1.size V w') 99 ?_;refine wTk 0 22 (.pointer (some ⟨B,0,none⟩)) ?_ (bD V) ?_
  ·intro _ y;go_simp
  refine wTk 1 23 (.pointer (some ⟨B,0,none⟩)) ?_ (bD V) ?_
  ·intro _ y;go_simp
  refine wTk 2 24 (.pointer (some ⟨B,6,none⟩)) ?_ (bD V) ?_
  ·intro _ y;go_simp
  refine wTk 3 25 (.map (some Mr)) ?_ (bD V) ?_
  ·intro _ y;obtain⟨c6,x0,n5,t0,t1⟩:=kP5 y c6 x0 n5 t0 t1;go_simp
  refine wTk 4 26 (.pointer (some ⟨w.1.size+1+1+1,0,none⟩)) ?_ (bD V) ?_
  ·intro _ y;go_simp
  refine wTk 5 27 (.string ⟨op.toArray⟩) ?_ (bD V) ?_
  ·intro _ y;obtain⟨c6,x0,n5,t0,t1⟩:=kP5 y c6 x0 n5 t0 t1;go_simp
  refine wTk 6 28 (.agg #[.bool (decide (r<=2)), .func (.func f) #[] caps]) ?_ (bD V) ?_
  ·intro w' y;have hl:=HLK.o w' y;go_simp
  refine wTk 7 29 (.func (.func f) #[] caps) ?_ (bD V) ?_
  ·intro _ y;have hf1:=qWR;go_simp
  refine wTk 8 30 (.pointer (some ⟨w.1.size,5,none⟩)) ?_ (bD V) ?_
  ·intro _ y;go_simp
  refine wTk 9 31 (.slice q ks.length c) ?_ (bD V) ?_
  ·intro _ y;obtain⟨c6,x0,n5,t0,t1⟩:=kP5 y c6 x0 n5 t0 t1;go_simp
  refine wTk 10 32 (.agg #[.int .i64 T0, .bool T1]) ?_ (bD V) ?_
  ·intro _ y;obtain⟨c6,x0,n5,t0,t1⟩:=kP5 y c6 x0 n5 t0 t1;go_simp
  refine wE (i:=11) (j:=15) rfl rfl (by kernel_rfl) (by rfl) (by rfl) (fun K hK=>?_) (fun K hK=>?_)
  ·go_simp;refine(HCALL.o _ ⟨gv,vv,Mg,Mo,Mr,F,o,HEE.o.below ((Below.refl V.1.size V).drew)⟩ (by simp;omega) (HX3.o.kids.keep (((Below.refl V.1.size V).drew).mono (by omega)))).mono ?_;rintro e w3 hX;rw[hO]at hX;obtain⟨rfl,hb3⟩:=hX;exact⟨rfl,zP.badI (by rw[HPB.o,hO];rfl) ⟨rfl,HX3.o.bl.trans ((zF hb3).mono HX3.o.bl.size)⟩⟩
  ·go_simp;refine kK hK (bal (Below.refl V.1.size V).drew (.cells #[.int .i64 0, .bool false] 37)) ?_;clear hK K;refine wOn 11 fun K hK=>?_
   go_simp;refine(HCALL.o _ ⟨gv,vv,Mg,Mo,Mr,F,o,HEE.o.below (bal (Below.refl V.1.size V).drew (.cells #[.int .i64 0, .bool false] 37))⟩ (by simp;omega) (HX3.o.kids.keep ((bal (Below.refl V.1.size V).drew (.cells #[.int .i64 0, .bool false] 37)).mono (by omega)))).mono ?_;rintro e w3 hX;rw[hO]at hX;obtain⟨rfl,hb3⟩:=hX;exact⟨rfl,zP.badI (by rw[HPB.o,hO];rfl) ⟨rfl,HX3.o.bl.trans (((bal (Below.refl V.1.size V).drew (.cells #[.int .i64 0, .bool false] 37)).trans (hb3.mono (by simp))).mono HX3.o.bl.size)⟩⟩
 | ok uu =>
  obtain⟨⟨U0,U1⟩,ub⟩:=uu;refine wRg (S:=fun w'=>Below V.1.size V w') 99 ?_;refine wTk 0 22 (.pointer (some ⟨B,0,none⟩)) ?_ (bD V) ?_
  ·intro _ y;go_simp
  refine wTk 1 23 (.pointer (some ⟨B,0,none⟩)) ?_ (bD V) ?_
  ·intro _ y;go_simp
  refine wTk 2 24 (.pointer (some ⟨B,6,none⟩)) ?_ (bD V) ?_
  ·intro _ y;go_simp
  refine wTk 3 25 (.map (some Mr)) ?_ (bD V) ?_
  ·intro _ y;obtain⟨c6,x0,n5,t0,t1⟩:=kP5 y c6 x0 n5 t0 t1;go_simp
  refine wTk 4 26 (.pointer (some ⟨w.1.size+1+1+1,0,none⟩)) ?_ (bD V) ?_
  ·intro _ y;go_simp
  refine wTk 5 27 (.string ⟨op.toArray⟩) ?_ (bD V) ?_
  ·intro _ y;obtain⟨c6,x0,n5,t0,t1⟩:=kP5 y c6 x0 n5 t0 t1;go_simp
  refine wTk 6 28 (.agg #[.bool (decide (r<=2)), .func (.func f) #[] caps]) ?_ (bD V) ?_
  ·intro w' y;have hl:=HLK.o w' y;go_simp
  refine wTk 7 29 (.func (.func f) #[] caps) ?_ (bD V) ?_
  ·intro _ y;have hf1:=qWR;go_simp
  refine wTk 8 30 (.pointer (some ⟨w.1.size,5,none⟩)) ?_ (bD V) ?_
  ·intro _ y;go_simp
  refine wTk 9 31 (.slice q ks.length c) ?_ (bD V) ?_
  ·intro _ y;obtain⟨c6,x0,n5,t0,t1⟩:=kP5 y c6 x0 n5 t0 t1;go_simp
  refine wTk 10 32 (.agg #[.int .i64 T0, .bool T1]) ?_ (bD V) ?_
  ·intro _ y;obtain⟨c6,x0,n5,t0,t1⟩:=kP5 y c6 x0 n5 t0 t1;go_simp
  refine wE (i:=11) (j:=15) rfl rfl (by kernel_rfl) (by rfl) (by rfl) (fun K hK=>?_) (fun K hK=>?_)
  ·go_simp;refine(HCALL.o _ ⟨gv,vv,Mg,Mo,Mr,F,o,HEE.o.below ((Below.refl V.1.size V).drew)⟩ (by simp;omega) (HX3.o.kids.keep (((Below.refl V.1.size V).drew).mono (by omega)))).mono ?_;rintro e w3 hX;rw[hO]at hX;obtain⟨u,rfl,rfl,hb3⟩:=hX;have hb3:=zF hb3;unfold qQt tyV;refine kK hK hb3 ?_;clear hK K;refine wTk 12 21 (.tuple #[.agg #[.int .i64 U0, .bool U1], .bool ub]) ?_ (hb3) ?_
   ·intro _ y;go_simp
   refine wTk 13 34 (.agg #[.int .i64 U0, .bool U1]) ?_ (hb3) ?_
   ·intro _ y;go_simp
   refine wTk 14 35 (.bool ub) ?_ (hb3) ?_
   ·intro _ y;go_simp
   refine wOn 15 fun K hK=>?_
   go_simp;refine kK hK (bal hb3 _) ?_;clear hK K;refine wOn 16 fun K hK=>?_
   go_simp;refine kK hK (bal hb3 _) ?_;clear hK K;refine wOn 17 fun K hK=>?_
   go_simp;refine kK hK (bal hb3 _) ?_;clear hK K;refine wDn ?_ _;have tbz:=qZ7.new (U0,U1) w3;unfold tyO at tbz;have hbz:=bal hb3 (.cells #[.int .i64 U0, .bool U1] 37);generalize (w3.alloc (.cells #[.int .i64 U0, .bool U1] 37))=Z at *;have HX4:=hI (HX3.o.below hbz);have HXB4:=hI (HXB3.o.below hbz);clear hb3 hbz n0 n1 n2 n3 n4 n5 t0 t1 x0 c6 HLK HCALL HEE HX3 HXB3 hs4;obtain⟨n0,n1,n2,n3,n4,n5⟩:=HX4.o.nd.cells;go_wp2_with fail
   refine(HNA.o _ _).mono ?_;rintro e w5 (⟨hbt,rfl,hb5⟩ | ⟨hbt,rfl,hb5⟩);rotate_left
   ·exact⟨rfl,zP.badI (ln:=ln) (co:=co) (code:=41) (by rw[HPB.o,hO,hbt];rfl) ⟨rfl,HX4.o.bl.trans (hb5.mono HX4.o.bl.size)⟩⟩
   have HPD:=hI (HPB.o.trans (by rw[hO,hbt];rfl:_=(vD E ks (U0,U1)).bind fun es=>.ok (.mk op (T0,T1) 0 0 false ln co es)));have HX5:=hI (HX4.o.below hb5);have HXB5:=hI (HXB4.o.below hb5);have tb5:=tbz.below hb5;have u0:=tb5.c0;have u1:=tb5.c1;have HI:=hI (qZs B L E ks q c (U0,U1) w5 HREC.o HX5.o.en (by have:=HX5.o.bl.size;omega) HX5.o.kids (by omega));have hs5:=HX5.o.sz;unfold tyV at HI;clear n0 n1 n2 n3 n4 n5 hbt hb5 HX4 HXB4 HPB tbz tb5 HNA;obtain⟨n0,n1,n2,n3,n4,n5⟩:=HX5.o.nd.cells;go_wp2_with fail
   refine(HI.o).mono ?_;rintro e w6 hX;rcases hX.cases with⟨es,u,hp,rfl,hles,hb6⟩ | ⟨l',c',code,hp,rfl,hb6⟩;rotate_left
   ·exact⟨rfl,zP.badI (by rw[HPD.o,hp];rfl) ⟨rfl,HX5.o.bl.trans (hb6.mono HX5.o.bl.size)⟩⟩
   obtain⟨uq,uc,rfl⟩:=hles.shape;have HQ:=hI (HPD.o.trans (by rw[hp];rfl:_=.ok (.mk op (T0,T1) 0 0 false ln co es)));have HLS:=hI (hles.mono (ok':=fun g=>w.1.size+4<=g) (fun g hg=>by omega));have HX:=hI (HX5.o.below hb6);have HXB:=hI (HXB5.o.below hb6);clear n0 n1 n2 n3 n4 n5 u0 u1 hX hp hles hb6 HI HX5 HXB5;have⟨r0,r1,r2,r3,r4,r5,r6,r7,r8,_⟩:=HX.o.rs.a;have⟨rf0,rf1,rf2,rf3,rf4,rf5,rf6,rf7,rf8,_⟩:=HX.o.rs.b;have xb:=HXB.o;unfold XB at xb;simp only[qQ.line,qQ.col,Nat.add_zero]at xb;have⟨x0,x1,x2,x3,x4,x5,x6,x7,x8,_⟩:=xb.a;have⟨xf0,xf1,xf2,xf3,xf4,xf5,xf6,xf7,xf8,_⟩:=xb.b;clear xb;have rl:=HX.o.rs.lt;have xl:=HXB.o.lt;have hs4:=HX.o.sz;have hna:¬w.1.size+1+1+1=w.1.size+1+1:=by omega
   go_wp2
   refine bodyPost_ret (v:=exV (.mk op (T0,T1) 0 0 false ln co es) (.slice uq es.length uc)) (by simp[results,results134,go_sem,exV,r0,r1,r2,r3,r4,r5,r6,r7,r8,rl]) rfl (zP.okI HQ.o ⟨_,rfl,?_⟩ ?_)
   ·exact qU.mono (qU.set9 (qU.setN HLS.o (by omega) _) (by omega) _ _ _ _ _ _ _ _ _) (fun g hg=>by omega)
   ·exact set9 (jR HX.o.bl (by omega) _) (by omega) _ _ _ _ _ _ _ _ _
  ·go_simp;refine kK hK (bal (Below.refl V.1.size V).drew (.cells #[.int .i64 0, .bool false] 37)) ?_;clear hK K;refine wOn 11 fun K hK=>?_
   go_simp;refine(HCALL.o _ ⟨gv,vv,Mg,Mo,Mr,F,o,HEE.o.below (bal (Below.refl V.1.size V).drew (.cells #[.int .i64 0, .bool false] 37))⟩ (by simp;omega) (HX3.o.kids.keep ((bal (Below.refl V.1.size V).drew (.cells #[.int .i64 0, .bool false] 37)).mono (by omega)))).mono ?_;rintro e w3 hX;rw[hO]at hX;obtain⟨u,rfl,rfl,hb3'⟩:=hX;have hb3:=(bal (Below.refl V.1.size V).drew (.cells #[.int .i64 0, .bool false] 37)).trans (hb3'.mono (by simp));have tb:=(qZ7.new (0,false) V).below (show Below (V.alloc (tyO (0,false))).1.size (V.alloc (tyO (0,false))) w3 from⟨hb3'.os,hb3'.tape,hb3'.output,hb3'.size,hb3'.block⟩);unfold qQt tyV;refine kK hK hb3 ?_;clear hK K;refine wTk 12 21 (.tuple #[.agg #[.int .i64 U0, .bool U1], .bool ub]) ?_ (hb3) ?_
   ·intro _ y;go_simp
   refine wTk 13 34 (.agg #[.int .i64 U0, .bool U1]) ?_ (hb3) ?_
   ·intro _ y;go_simp
   refine wTk 14 35 (.bool ub) ?_ (hb3) ?_
   ·intro _ y;go_simp
   refine wOn 16 fun K hK=>?_
   have b0:=tb.c0;have b1:=tb.c1;have bf0:=tb.f0;have bf1:=tb.f1;go_simp;refine kK hK (jR (jR hb3 (Nat.le_refl _) _) (Nat.le_refl _) _) ?_;clear hK K;refine wOn 17 fun K hK=>?_
   go_simp;refine kK hK (jR (jR hb3 (Nat.le_refl _) _) (Nat.le_refl _) _) ?_;clear hK K;refine wDn ?_ _;have tbz:qZ7 V.1.size (U0,U1) ((w3.setCell ⟨V.1.size,0,none⟩ (.int .i64 U0)).setCell ⟨V.1.size,1,none⟩ (.bool U1)):=by constructor <;> simp[go_sem, *]
   have hbz:=jR (jR hb3 (Nat.le_refl V.1.size) (o:=0) (.int .i64 U0)) (Nat.le_refl V.1.size) (o:=1) (.bool U1);clear tb b0 b1 bf0 bf1;generalize ((w3.setCell ⟨V.1.size,0,none⟩ (.int .i64 U0)).setCell ⟨V.1.size,1,none⟩ (.bool U1))=Z at *;have HX4:=hI (HX3.o.below hbz);have HXB4:=hI (HXB3.o.below hbz);clear hb3 hb3' hbz n0 n1 n2 n3 n4 n5 t0 t1 x0 c6 HLK HCALL HEE HX3 HXB3 hs4;obtain⟨n0,n1,n2,n3,n4,n5⟩:=HX4.o.nd.cells;go_wp2_with fail
   refine(HNA.o _ _).mono ?_;rintro e w5 (⟨hbt,rfl,hb5⟩ | ⟨hbt,rfl,hb5⟩);rotate_left
   ·exact⟨rfl,zP.badI (ln:=ln) (co:=co) (code:=41) (by rw[HPB.o,hO,hbt];rfl) ⟨rfl,HX4.o.bl.trans (hb5.mono HX4.o.bl.size)⟩⟩
   have HPD:=hI (HPB.o.trans (by rw[hO,hbt];rfl:_=(vD E ks (U0,U1)).bind fun es=>.ok (.mk op (T0,T1) 0 0 false ln co es)));have HX5:=hI (HX4.o.below hb5);have HXB5:=hI (HXB4.o.below hb5);have tb5:=tbz.below hb5;have u0:=tb5.c0;have u1:=tb5.c1;have HI:=hI (qZs B L E ks q c (U0,U1) w5 HREC.o HX5.o.en (by have:=HX5.o.bl.size;omega) HX5.o.kids (by omega));have hs5:=HX5.o.sz;unfold tyV at HI;clear n0 n1 n2 n3 n4 n5 hbt hb5 HX4 HXB4 HPB tbz tb5 HNA;obtain⟨n0,n1,n2,n3,n4,n5⟩:=HX5.o.nd.cells;go_wp2_with fail
   refine(HI.o).mono ?_;rintro e w6 hX;rcases hX.cases with⟨es,u,hp,rfl,hles,hb6⟩ | ⟨l',c',code,hp,rfl,hb6⟩;rotate_left
   ·exact⟨rfl,zP.badI (by rw[HPD.o,hp];rfl) ⟨rfl,HX5.o.bl.trans (hb6.mono HX5.o.bl.size)⟩⟩
   obtain⟨uq,uc,rfl⟩:=hles.shape;have HQ:=hI (HPD.o.trans (by rw[hp];rfl:_=.ok (.mk op (T0,T1) 0 0 false ln co es)));have HLS:=hI (hles.mono (ok':=fun g=>w.1.size+4<=g) (fun g hg=>by omega));have HX:=hI (HX5.o.below hb6);have HXB:=hI (HXB5.o.below hb6);clear n0 n1 n2 n3 n4 n5 u0 u1 hX hp hles hb6 HI HX5 HXB5;have⟨r0,r1,r2,r3,r4,r5,r6,r7,r8,_⟩:=HX.o.rs.a;have⟨rf0,rf1,rf2,rf3,rf4,rf5,rf6,rf7,rf8,_⟩:=HX.o.rs.b;have xb:=HXB.o;unfold XB at xb;simp only[qQ.line,qQ.col,Nat.add_zero]at xb;have⟨x0,x1,x2,x3,x4,x5,x6,x7,x8,_⟩:=xb.a;have⟨xf0,xf1,xf2,xf3,xf4,xf5,xf6,xf7,xf8,_⟩:=xb.b;clear xb;have rl:=HX.o.rs.lt;have xl:=HXB.o.lt;have hs4:=HX.o.sz;have hna:¬w.1.size+1+1+1=w.1.size+1+1:=by omega
   go_wp2
   refine bodyPost_ret (v:=exV (.mk op (T0,T1) 0 0 false ln co es) (.slice uq es.length uc)) (by simp[results,results134,go_sem,exV,r0,r1,r2,r3,r4,r5,r6,r7,r8,rl]) rfl (zP.okI HQ.o ⟨_,rfl,?_⟩ ?_)
   ·exact qU.mono (qU.set9 (qU.setN HLS.o (by omega) _) (by omega) _ _ _ _ _ _ _ _ _) (fun g hg=>by omega)
   ·exact set9 (jR HX.o.bl (by omega) _) (by omega) _ _ _ _ _ _ _ _ _
theorem exp_step(k x:List UInt8)(m ln co:Int)(ks:List qQ)(hw:wfE (.mk k x m ln co ks)=true)(hrec:∀ u∈ks,qXL u):qXL (.mk k x m ln co ks):=by
 cases h1:(k == zD);case true=>exact exp_num k x m ln co ks hw h1
 cases h2:(k == zL || k == qH);case true=>exact exp_bool k x m ln co ks hw h1 h2
 cases h3:(k == zM || k == qL);case true=>exact exp_name k x m ln co ks hw hrec h1 h2 h3
 cases h5:(k == zK);case true=>exact exp_cast k x m ln co ks hw hrec h1 h2 h3 h5
 obtain⟨_,_,_,hwf⟩:=qQs hw;have h1':=h1;have h2':=h2;have h3':=h3;have h5':=h5;simp only[Bool.or_eq_false_iff]at h2 h3;rcases hwf with⟨h,_⟩ | ⟨h,_⟩ | ⟨_,⟨r,hr⟩,_⟩
 ·simp[h1,h2.1,h2.2,h3.1]at h
 ·simp[h3.2,h5]at h
 ·exact exp_op k x m ln co ks hw hrec r hr h1' h2' h3' h5'
mutual
theorem exp_all:∀ (t:qQ),wfE t=true->qXL t
 | .mk k x m ln co ks,h=>exp_step k x m ln co ks h (qXZ ks (qQs h).2.2.1)
theorem qXZ:∀ (ts:List qQ),qZV ts=true->∀ u∈ts,qXL u
 | [],_,u,hu=>by simp at hu
 | t :: r,h,u,hu=>by
  rw[qZV,bE]at h;rcases List.mem_cons.1 hu with e | hu
  ·rw[e];exact exp_all t h.1
  ·exact qXZ r h.2 u hu
end
theorem qUU{E:Env}{t:qQ}{a:Ex}(h:qQ1 E t=.ok a):∃ op T va g,a=.mk op T 0 va g t.line t.col []:=by
 unfold qQ1 at h;cases hf:qZD E t with
 | bad _ _ _=>rw[hf]at h;cases h
 | ok r =>
  rw[hf]at h;simp only[CR.bind,jQ]at h;split at h
  ·injection h with h;exact⟨_,_,_,_,h.symm⟩
  ·cases h
theorem qKO(k x:List UInt8)(m ln co:Int)(ks:List qQ)(hw:wfE (.mk k x m ln co ks)=true)(B L:Nat)(E:Env)(v:Value)(w:World)(h:EAt B E w)(hL:L<=w.1.size)(hl:xZ w (· < L) (.mk k x m ln co ks) v) :
 Calls prog 133 #[.pointer (some ⟨B,0,none⟩),qZ (.mk k x m ln co ks) v] w (zP (wJ E (.mk k x m ln co ks)) (ExpR w.1.size) w):=by
 obtain⟨q,c,rfl,hc1,hc2,hK⟩:=hl.kids;obtain⟨hx,⟨hm0,hm1⟩,hwk,hwf⟩:=qQs hw;have hkl:ks.length<=2:=by rcases hwf with⟨_,h⟩ | ⟨_,h⟩ | ⟨_,_,h⟩ <;> first | omega | simp[h]
 have hbl:=bal (bal (Below.refl w.1.size w) (qB (.mk k x m ln co ks) (.slice q ks.length c))) (exO [] noT 0 0 false 0 0 (.slice none 0 0));have HBL:=hI hbl;have HPL:=hI (qUq B E (.mk k x m ln co ks) (.slice q ks.length c) _ (h.below hbl) hx);have HN:=hI ((Bx.new (.mk k x m ln co ks) (.slice q ks.length c) w).below (bal (Below.refl _ _) (exO [] noT 0 0 false 0 0 (.slice none 0 0))));have HT:=hI (qQf.new [] noT 0 0 false 0 0 (.slice none 0 0) (w.alloc (qB (.mk k x m ln co ks) (.slice q ks.length c))));simp only[World.size_alloc]at HT;have H0:=hI h;have HK:=hI hK;have HWK:=hI hwk;have HPB:=hI (show wJ E (.mk k x m ln co ks)=(qQ1 E (.mk k x m ln co ks)).bind fun p=>(qQL E ks).bind fun es=>.ok (p.withKids es)from rfl);clear h hl hK hwf hwk hbl;simp only[qZ,qB,exO,qS,noT,qQ.kind,qQ.text,qQ.num,qQ.line,qQ.col,qQ.kids]at *;go_enter func133,ntmps133
 go_wp2_with fail
 refine(HPL.o).mono ?_;rintro e w2 hX;rcases hX.cases with⟨a,u,hp,rfl,rfl,hb2⟩ | ⟨l',c',code,hp,rfl,hb2⟩;rotate_left
 ·exact⟨rfl,zP.badI (by rw[HPB.o,hp];rfl) ⟨rfl,HBL.o.trans (hb2.mono HBL.o.size)⟩⟩
 obtain⟨aop,⟨A0,A1⟩,av,ag,rfl⟩:=qUU hp;have hW2:=HBL.o.trans (hb2.mono HBL.o.size);have hz:=bal (Below.refl w2.1.size w2) (exO aop (A0,A1) 0 av ag ln co (.slice none 0 0));have HZ:=hI (hW2.trans (hz.mono hW2.size));have HNZ:=hI ((HN.o.below hb2).below hz);have HTZ:=hI ((HT.o.below hb2).below hz);have HEZ:=hI (qQf.new aop (A0,A1) 0 av ag ln co (.slice none 0 0) w2);have hs2:=hb2.size;simp only[World.size_alloc]at hs2;have HI:=hI (qVE B L E ks q c _ HWK.o (qXZ ks HWK.o) (H0.o.below HZ.o) (by have:=HZ.o.size;omega) (HK.o.keep (HZ.o.mono hL)) (by omega));have HPC:=hI (HPB.o.trans (by rw[hp];rfl:_=(qQL E ks).bind fun es=>.ok (.mk aop (A0,A1) 0 av ag ln co es)));have hsz:(w2.alloc (exO aop (A0,A1) 0 av ag ln co (.slice none 0 0))).1.size=w2.1.size+1:=by simp
 obtain⟨n0,n1,n2,n3,n4,n5⟩:=(HN.o.below hb2).cells;have hnl:=(HN.o.below hb2).lt;simp only[exV,exO,qQ.line,qQ.col]at *;clear hX hp hb2 hz hW2 HPL HBL HN HT HPB;go_wp2_with fail
 generalize (w2.alloc (.cells #[.string ⟨aop.toArray⟩, .int .i64 A0, .bool A1, .int .u64 0, .int .i64 av, .bool ag, .int .i64 ln, .int .i64 co, .slice none 0 0] 76))=Z at *;refine(HI.o).mono ?_;rintro e w4 hX;rcases hX.cases with⟨es,u,hp,rfl,hles,hb4⟩ | ⟨l',c',code,hp,rfl,hb4⟩;rotate_left
 ·exact⟨rfl,zP.badI (by rw[HPC.o,hp];rfl) ⟨rfl,HZ.o.trans (hb4.mono HZ.o.size)⟩⟩
 obtain⟨uq,uc,rfl⟩:=hles.shape;have HQ:=hI (HPC.o.trans (by rw[hp];rfl:_=.ok (.mk aop (A0,A1) 0 av ag ln co es)));have hs4:=HZ.o.size;have HLS:=hI (hles.mono (ok':=fun g=>w2.1.size+1<=g) (fun g hg=>by omega));have HX:=hI (HZ.o.trans (hb4.mono HZ.o.size));have rs:=HTZ.o.below hb4;have xb:=HEZ.o.below hb4;have rl:=rs.lt;have xl:=xb.lt;have hna:¬w2.1.size=w.1.size+1:=by omega
 have hnb:¬w.1.size+1=w2.1.size:=by omega
 have⟨r0,r1,r2,r3,r4,r5,r6,r7,r8,_⟩:=rs.a;have⟨rf0,rf1,rf2,rf3,rf4,rf5,rf6,rf7,rf8,_⟩:=rs.b;have⟨x0,x1,x2,x3,x4,x5,x6,x7,x8,_⟩:=xb.a;have xf8:=xb.f 8 nL;clear n0 n1 n2 n3 n4 n5 hX hp hles hb4 HI HNZ HTZ HEZ rs xb HZ;go_wp2
 refine bodyPost_ret (v:=exV (.mk aop (A0,A1) 0 av ag ln co es) (.slice uq es.length uc)) (by simp[results,results133,go_sem,exV,r0,r1,r2,r3,r4,r5,r6,r7,r8,rl]) rfl (zP.okI HQ.o ⟨_,rfl,?_⟩ ?_)
 ·exact qU.mono (qU.set9 (qU.setN HLS.o (by omega) _) (by omega) _ _ _ _ _ _ _ _ _) (fun g hg=>by omega)
 ·exact set9 (jR HX.o (by omega) _) (by omega) _ _ _ _ _ _ _ _ _
structure FnM where
 h:kI
 vars:List qI
 vv:Value
 bv:Value
def fnC(f:FnM):List Value:=[.string ⟨f.h.name.toArray⟩, .int .i64 f.h.t.1, .bool f.h.t.2, .int .i64 f.h.params.length,f.vv,f.bv]
theorem qZu(f:FnM):(fnC f).length=6:=rfl
def noF:FnM:=⟨⟨[],noT,[]⟩,[], .slice none 0 0, .slice none 0 0⟩
structure RIn(B:Nat)(gs:List qI)(fs:List FnM)(ci FC Mf:Nat)(gv:Value)(Mg Mo Mr F:Nat)(cl:vE)(w:World):Prop where
 hi:ci < fs.length
 en:EIn B ⟨gs,(fs.getD ci noF).vars⟩ gv (fs.getD ci noF).vv Mg Mo Mr F (ci * 6) cl w
 c1:w.cell? ⟨B,1,none⟩=some (.slice (some ⟨F,0,none⟩) fs.length FC)
 c4:w.cell? ⟨B,4,none⟩=some (.map (some Mf))
 frow:w.ownsRow 0 40 6 (.slice (some ⟨F,0,none⟩) fs.length FC) fs.length (xD fnC fs)
 vrow:∀ f∈fs,qQI w 0 f.vars f.vv
 fm:wY w Mf ((fs.map (·.h)).map (·.name))
 par:∀ f∈fs,∃ rest,f.vars=f.h.params++rest
 fl:fs.length<=16
 vl:∀ f∈fs,f.vars.length<=64
theorem RIn.below{B:Nat}{gs:List qI}{fs:List FnM}{ci FC Mf:Nat}{gv:Value}{Mg Mo Mr F:Nat}{cl:vE}{w w':World}(h:RIn B gs fs ci FC Mf gv Mg Mo Mr F cl w)(hb:Below w.1.size w w'):RIn B gs fs ci FC Mf gv Mg Mo Mr F cl w' :=
 ⟨h.hi,h.en.below hb,kP hb h.c1,kP hb h.c4,zU h.frow (fun g hg=>hb.block g (h.frow.lt g hg).2),fun f hf=>zU (h.vrow f hf) (fun g hg=>hb.block g ((h.vrow f hf).lt g hg).2),h.fm.below hb,h.par,h.fl,h.vl⟩
def RAt(B:Nat)(gs:List qI)(fs:List FnM)(ci:Nat)(w:World):Prop:=∃ FC Mf gv Mg Mo Mr F cl,RIn B gs fs ci FC Mf gv Mg Mo Mr F cl w
section
variable {B:Nat} {gs:List qI} {fs:List FnM} {ci:Nat} {w w':World}
theorem RAt.below(h:RAt B gs fs ci w)(hb:Below w.1.size w w'):RAt B gs fs ci w':=by
 obtain⟨FC,Mf,gv,Mg,Mo,Mr,F,cl,h⟩:=h;exact⟨FC,Mf,gv,Mg,Mo,Mr,F,cl,h.below hb⟩
theorem RAt.en(h:RAt B gs fs ci w):EAt B ⟨gs,(fs.getD ci noF).vars⟩ w:=by
 obtain⟨FC,Mf,gv,Mg,Mo,Mr,F,cl,h⟩:=h;exact⟨_,_,_,_,_,_,_,_,h.en⟩
end
theorem qZv{w:World}{fs:List FnM}{F FC:Nat}(h:w.ownsRow 0 40 6 (.slice (some ⟨F,0,none⟩) fs.length FC) fs.length (xD fnC fs)){i:Nat}(hi:i < fs.length) :
 w.cell? ⟨F,i * 6,none⟩=some (.string ⟨fs[i].h.name.toArray⟩)/\w.cell? ⟨F,i * 6+1,none⟩=some (.int .i64 fs[i].h.t.1)/\w.cell? ⟨F,i * 6+2,none⟩=some (.bool fs[i].h.t.2)/\w.cell? ⟨F,i * 6+3,none⟩=some (.int .i64 fs[i].h.params.length)/\w.cell? ⟨F,i * 6+4,none⟩=some fs[i].vv/\w.cell? ⟨F,i * 6+5,none⟩=some fs[i].bv :=
 ⟨qQm qZu h rfl hi (k:=0) (by omega) rfl,qQm qZu h rfl hi (k:=1) (by omega) rfl,qQm qZu h rfl hi (k:=2) (by omega) rfl,qQm qZu h rfl hi (k:=3) (by omega) rfl,qQm qZu h rfl hi (k:=4) (by omega) rfl,qQm qZu h rfl hi (k:=5) (by omega) rfl⟩
theorem qWL(B:Nat)(gs:List qI)(fs:List FnM)(ci:Nat)(t:qQ)(v:Value)(w:World)(h:RAt B gs fs ci w)(hx:t.text.length<=1000000)(hv:∃ q c,v=.slice q t.kids.length c)(hk:t.kids.length<=1000000) :
 Calls prog 135 #[.pointer (some ⟨B,0,none⟩),qZ t v] w (zP (wI (fs.map (·.h)) t) (fun a u _=>u=.int .i64 a.2) w):=by
 obtain⟨q,c,rfl⟩:=hv;have HB:=hI (bal (Below.refl w.1.size w) (qB t (.slice q t.kids.length c)));have H2:=hI (h.below HB.o);have HN:=hI (Bx.new t (.slice q t.kids.length c) w);have hsz:(w.alloc (qB t (.slice q t.kids.length c))).1.size=w.1.size+1:=by simp
 clear h;obtain⟨k,x,m,ln,co,ks⟩:=t;have HPB:=hI (show wI (fs.map (·.h)) (.mk k x m ln co ks)=match qQN x 0 (fs.map (·.h))with
  | some (h,i)=>(jQ (decide (ks.length=h.params.length)) (.mk k x m ln co ks) 43).bind fun _=>.ok (h,i)
  | none=>.bad ln co 40 from rfl)
 have HNY:=hI (fun cd w'=>qQl (.mk k x m ln co ks) (.slice q ks.length c) cd w');have HNN:=hI (fun cd w'=>qQ5 (.mk k x m ln co ks) (.slice q ks.length c) cd w');simp only[qZ,qB,qS,qQ.kind,qQ.text,qQ.num,qQ.line,qQ.col,qQ.kids]at *;go_enter func135,ntmps135
 go_wp2
 generalize (w.alloc _)=W at *;obtain⟨n0,n1,n2,n3,n4,n5⟩:=HN.o.cells;obtain⟨FC,Mf,gv,Mg,Mo,Mr,F,cl,hR⟩:=H2.o;have c4:=hR.c4;have hlk:=(hR.fm.below (Below.refl _ _).drew).look x (by unfold maxLen;omega);cases hl:qQN x 0 (fs.map (·.h))with
 | none =>
  have HP:=hI (HPB.o.trans (by rw[hl]));obtain⟨e1,e2⟩:=qKJ hl;rw[e1,e2]at hlk;clear hl e1 e2 hR;go_region
  go_wp2_with fail
  refine(HNN.o _ _).mono ?_;rintro e w3 ⟨rfl,hb3⟩;exact⟨rfl,zP.badI HP.o ⟨rfl,HB.o.trans ((zF hb3).mono (by omega))⟩⟩
 | some r =>
  obtain⟨hd,i⟩:=r;have HP:=hI (HPB.o.trans (by rw[hl]:_=(jQ (decide (ks.length=hd.params.length)) (.mk k x m ln co ks) 43).bind fun _=>.ok (hd,i)));obtain⟨e1,e2,hiL,rfl⟩:=qJK hl;rw[e1,e2]at hlk;have hi:i < fs.length:=by simpa using hiL
  have HE:=hI (show(fs.map (·.h))[i]=fs[i].h by simp);rw[HE.o]at HP;have HR:=hI hR;have hfl:=hR.fl;clear hl e1 e2 hR;go_region
  go_wp2_with fail
  refine(HNY.o _ _).mono ?_;rintro e w3 ⟨rfl,hb3⟩;have hb3':=zF hb3;have hR3:=HR.o.below hb3';obtain⟨f0,f1,f2,f3,f4,f5⟩:=qZv hR3.frow hi;have c1:=hR3.c1;obtain⟨n0,n1,n2,n3,n4,n5⟩:=(HN.o.below hb3').cells;have HW3:=hI (HB.o.trans (hb3'.mono (by omega)));have hi63:(i:Int) < (fs.length:Nat):=by omega
  clear hb3 hb3' hR3 hlk c4 HR;by_cases hn:ks.length=fs[i].h.params.length
  ·have HNL:=hI hn;clear hn;go_wp2
   refine wRg (S:=fun w'=>Below w3.1.size w3 w') 14 ?_;refine wTk 0 20 (.pointer (some ⟨w.1.size,5,none⟩)) ?_ (bD w3) ?_
   ·intro _ y;go_simp
   refine wTk 1 21 (.slice q ks.length c) ?_ (bD w3) ?_
   ·intro _ y;obtain⟨c1,f3,n0,n1,n2,n3,n4,n5⟩:=kP8 y c1 f3 n0 n1 n2 n3 n4 n5;go_simp
   refine wTk 2 22 (.int .i64 ks.length) ?_ (bD w3) ?_
   ·intro _ y;go_simp
   refine wTk 3 23 (.pointer (some ⟨B,0,none⟩)) ?_ (bD w3) ?_
   ·intro _ y;go_simp
   refine wTk 4 24 (.pointer (some ⟨B,0,none⟩)) ?_ (bD w3) ?_
   ·intro _ y;go_simp
   refine wTk 5 25 (.pointer (some ⟨B,0,none⟩)) ?_ (bD w3) ?_
   ·intro _ y;go_simp
   refine wTk 6 26 (.pointer (some ⟨B,1,none⟩)) ?_ (bD w3) ?_
   ·intro _ y;go_simp
   refine wTk 7 27 (.slice (some ⟨F,0,none⟩) fs.length FC) ?_ (bD w3) ?_
   ·intro _ y;obtain⟨c1,f3,n0,n1,n2,n3,n4,n5⟩:=kP8 y c1 f3 n0 n1 n2 n3 n4 n5;go_simp
   refine wTk 8 28 (.int .i64 i) ?_ (bD w3) ?_
   ·intro _ y;go_simp
   refine wTk 9 29 (.pointer (some ⟨F,i * 6,none⟩)) ?_ (bD w3) ?_
   ·intro _ y;go_simp
   refine wTk 10 30 (.pointer (some ⟨F,i * 6+3,none⟩)) ?_ (bD w3) ?_
   ·intro _ y;go_simp
   refine wTk 11 31 (.int .i64 fs[i].h.params.length) ?_ (bD w3) ?_
   ·intro _ y;obtain⟨c1,f3,n0,n1,n2,n3,n4,n5⟩:=kP8 y c1 f3 n0 n1 n2 n3 n4 n5;go_simp
   refine wTk 12 32 (.bool true) ?_ (bD w3) ?_
   ·intro _ y;clear y;have hnn:(ks.length:Int)=(fs[i].h.params.length:Int):=by have:=HNL.o;omega
    go_simp
   refine wTk 13 33 (.agg #[.string ⟨k.toArray⟩, .string ⟨x.toArray⟩, .int .u64 m, .int .i64 ln, .int .i64 co, .slice q ks.length c]) ?_ (bD w3) ?_
   ·intro _ y;obtain⟨c1,f3,n0,n1,n2,n3,n4,n5⟩:=kP8 y c1 f3 n0 n1 n2 n3 n4 n5;go_simp
   refine wOn 14 fun K hK=>?_
   go_simp;refine(HNY.o _ _).mono ?_;rintro e w4 ⟨rfl,hb4⟩;refine kD hK ?_;clear hK K;refine wDn ?_ _;have HQ:=hI (HP.o.trans (by rw[decide_eq_true HNL.o];rfl:_=.ok (fs[i].h,i)));have HW4:=hI (HW3.o.trans ((zF hb4).mono HW3.o.size));clear n0 n1 n2 n3 n4 n5 f0 f1 f2 f3 f4 f5 c1 hb4;go_wp2
   go_ret;exact zP.okI HQ.o rfl HW4.o
  ·have HNL:=hI hn;clear hn;go_wp2
   refine wRg (S:=fun w'=>Below w3.1.size w3 w') 14 ?_;refine wTk 0 20 (.pointer (some ⟨w.1.size,5,none⟩)) ?_ (bD w3) ?_
   ·intro _ y;go_simp
   refine wTk 1 21 (.slice q ks.length c) ?_ (bD w3) ?_
   ·intro _ y;obtain⟨c1,f3,n0,n1,n2,n3,n4,n5⟩:=kP8 y c1 f3 n0 n1 n2 n3 n4 n5;go_simp
   refine wTk 2 22 (.int .i64 ks.length) ?_ (bD w3) ?_
   ·intro _ y;go_simp
   refine wTk 3 23 (.pointer (some ⟨B,0,none⟩)) ?_ (bD w3) ?_
   ·intro _ y;go_simp
   refine wTk 4 24 (.pointer (some ⟨B,0,none⟩)) ?_ (bD w3) ?_
   ·intro _ y;go_simp
   refine wTk 5 25 (.pointer (some ⟨B,0,none⟩)) ?_ (bD w3) ?_
   ·intro _ y;go_simp
   refine wTk 6 26 (.pointer (some ⟨B,1,none⟩)) ?_ (bD w3) ?_
   ·intro _ y;go_simp
   refine wTk 7 27 (.slice (some ⟨F,0,none⟩) fs.length FC) ?_ (bD w3) ?_
   ·intro _ y;obtain⟨c1,f3,n0,n1,n2,n3,n4,n5⟩:=kP8 y c1 f3 n0 n1 n2 n3 n4 n5;go_simp
   refine wTk 8 28 (.int .i64 i) ?_ (bD w3) ?_
   ·intro _ y;go_simp
   refine wTk 9 29 (.pointer (some ⟨F,i * 6,none⟩)) ?_ (bD w3) ?_
   ·intro _ y;go_simp
   refine wTk 10 30 (.pointer (some ⟨F,i * 6+3,none⟩)) ?_ (bD w3) ?_
   ·intro _ y;go_simp
   refine wTk 11 31 (.int .i64 fs[i].h.params.length) ?_ (bD w3) ?_
   ·intro _ y;obtain⟨c1,f3,n0,n1,n2,n3,n4,n5⟩:=kP8 y c1 f3 n0 n1 n2 n3 n4 n5;go_simp
   refine wTk 12 32 (.bool false) ?_ (bD w3) ?_
   ·intro _ y;clear y;have hnn:¬(ks.length:Int)=(fs[i].h.params.length:Int):=by have:=HNL.o;omega
    go_simp
   refine wTk 13 33 (.agg #[.string ⟨k.toArray⟩, .string ⟨x.toArray⟩, .int .u64 m, .int .i64 ln, .int .i64 co, .slice q ks.length c]) ?_ (bD w3) ?_
   ·intro _ y;obtain⟨c1,f3,n0,n1,n2,n3,n4,n5⟩:=kP8 y c1 f3 n0 n1 n2 n3 n4 n5;go_simp
   refine wOn 14 fun K hK=>?_
   go_simp;refine(HNN.o _ _).mono ?_;rintro e w4 ⟨rfl,hb4⟩;exact⟨rfl,zP.badI (by rw[HP.o,decide_eq_false HNL.o];rfl) ⟨rfl,HW3.o.trans ((zF hb4).mono HW3.o.size)⟩⟩
theorem argsC_at{E:Env}{ts:List qQ}{ps:List qI}{k:Nat}(h:k < ts.length)(h':k < ps.length):wM E (ts.drop k) (ps.drop k)=(qQT E ts[k] ps[k].t).bind fun e=>(wM E (ts.drop (k+1)) (ps.drop (k+1))).bind fun es=>.ok (e :: es):=by
 rw[List.drop_eq_getElem_cons h,List.drop_eq_getElem_cons h',wM];rfl
def ARel(E:Env)(ts:List qQ)(ps:List qI)(W:World)(v i:Value)(wr:World):Prop :=
 ∃ (k:Nat) (acc:List Ex),k<=ts.length/\i=.int .i64 k/\acc.length=k/\wC wr W.1.size acc v/\wM E ts ps=((wM E (ts.drop k) (ps.drop k)).bind fun es=>.ok (acc++es))/\Below W.1.size W wr
theorem qPg(B L:Nat)(gs:List qI)(fs:List FnM)(ci fi:Nat)(ts:List qQ)(q:Option Addr)(c:Nat)(W:World)(hw:qZV ts=true)(h:RAt B gs fs ci W)(hfi:fi < fs.length)(hln:ts.length=fs[fi].h.params.length)(hL:L<=W.1.size)(hK:yD L W ts q) :
 Calls prog 136 #[.pointer (some ⟨B,0,none⟩), .int .i64 fi, .slice q ts.length c] W (zP (wM ⟨gs,(fs.getD ci noF).vars⟩ ts fs[fi].h.params) (fun a u w'=>qU w' (fun g=>W.1.size<=g) a u) W):=by
 have H0:=hI h;have HK:=hI hK;have HLN:=hI hln;have HREC:=hI (qXZ ts hw);obtain⟨hlen,hfl⟩:ts.length<=64/\fs.length<=16:=by
  obtain⟨FC,Mf,gv,Mg,Mo,Mr,F,cl,hR⟩:=h;obtain⟨rest,hr⟩:=hR.par fs[fi] (List.getElem_mem _);have h1:=hR.vl fs[fi] (List.getElem_mem _);rw[hr,lL]at h1;exact⟨by omega,hR.fl⟩
 have hi63:(fi:Int) < (fs.length:Nat):=by omega
 clear h hK hln hw;go_enter func136,ntmps136
 go_wp2
 go_loopw [7,12] (fun v i wr=>ARel ⟨gs,(fs.getD ci noF).vars⟩ ts fs[fi].h.params W v i wr) (fun _ i _=>ts.length - (intOf i).toNat)
 case atStart=>exact⟨0,[],Nat.zero_le _,rfl,rfl,wC.nil _ _,by rw[List.drop_zero,List.drop_zero];cases wM ⟨gs,(fs.getD ci noF).vars⟩ ts fs[fi].h.params <;> rfl,Below.refl _ _⟩
 case round =>
  obtain⟨k,acc,hk,rfl,hacc,hbd,hf,hb⟩:=hrel;obtain⟨q7,n7,c7,rfl⟩:=hbd.shape;have HBR:=hI hb;have HBD:=hI hbd;have HF:=hI hf;clear hbd hf;by_cases hlt:k < ts.length
  ·obtain⟨g,off,rfl,hR⟩:=(HK.o.keep (hb.mono hL)).resolve_left (fun e=>by rw[e]at hlt;simp at hlt);obtain⟨qa,na,ca,hla,hca⟩:=hR.2 k hlt;have⟨k0,k1,k2,k3,k4,k5,_⟩:=hca.a;have hmem:ts[k]∈ts:=List.getElem_mem hlt;have hkp:k < fs[fi].h.params.length:=by have:=HLN.o;omega
   have hbs:=hb.size;have HA:=hI (argsC_at (E:=⟨gs,(fs.getD ci noF).vars⟩) hlt hkp);have HEX:=hI (HREC.o _ hmem);have HLA:=hI hla;have HBX:=hI (Bx.new ts[k] (.slice qa na ca) wr);have HBA:=hI (bal (Below.refl wr.1.size wr) (qB ts[k] (.slice qa na ca)));have hszA:(wr.alloc (qB ts[k] (.slice qa na ca))).1.size=wr.1.size+1:=by simp
   clear hca hla hR hmem hb;generalize hu:ts[k]=u at *;simp only[qS,qZ,qB]at *;go_wp2
   generalize (wr.alloc _)=Z at *;obtain⟨FC,Mf,gv,Mg,Mo,Mr,F,cl,hR⟩:=H0.o.below (HBR.o.trans (HBA.o.mono hbs));obtain⟨f0,f1,f2,f3,f4,f5⟩:=qZv hR.frow hfi;obtain⟨rest,hrest⟩:=hR.par fs[fi] (List.getElem_mem _);have hvl:fs[fi].vars.length=fs[fi].h.params.length+rest.length:=by rw[hrest,lL]
   have hkv:k < fs[fi].vars.length:=by omega
   obtain⟨gV,cV,hvv,v0,v1,v2,v3⟩:=qKe (hR.vrow fs[fi] (List.getElem_mem _)) hkv;have hvk:fs[fi].vars[k]=fs[fi].h.params[k]:=by simp[hrest,List.getElem_append_left hkp]
   rw[hvv]at f4;rw[hvk]at v1 v2;have c1:=hR.c1;obtain⟨n0,n1,n2,n3,n4,n5⟩:=Bx.cells (k:=u.kind) (x:=u.text) (m:=u.num) (ln:=u.line) (co:=u.col) (ks:=u.kids) (show Bx wr.1.size (.mk u.kind u.text u.num u.line u.col u.kids) (.slice qa na ca) Z from HBX.o);have hk63:(k:Int) < (fs[fi].vars.length:Nat):=by omega
   have HRE:=hI hR.en;have hgetF:fs[fi]? = some fs[fi]:=by simp
   generalize hT:fs[fi].h.params[k].t=T at *;obtain⟨T0,T1⟩:=T;clear hR f0 f1 f2 f3 f5 v0 v3 hrest hvk hvl k0 k1 k2 k3 k4 k5;refine wRg (S:=fun w'=>Below Z.1.size Z w') 18 ?_;refine wTk 0 17 (.slice q7 n7 c7) ?_ (bD Z) ?_
   ·intro _ y;go_simp
   refine wTk 1 18 (.pointer (some ⟨B,0,none⟩)) ?_ (bD Z) ?_
   ·intro _ y;go_simp
   refine wTk 2 19 (.agg #[.string ⟨u.kind.toArray⟩, .string ⟨u.text.toArray⟩, .int .u64 u.num, .int .i64 u.line, .int .i64 u.col, .slice qa na ca]) ?_ (bD Z) ?_
   ·intro _ y;obtain⟨c1,f4,v1,v2,n0,n1,n2,n3,n4,n5⟩:=kP10 y c1 f4 v1 v2 n0 n1 n2 n3 n4 n5;go_simp
   refine wTk 3 20 (.pointer (some ⟨B,0,none⟩)) ?_ (bD Z) ?_
   ·intro _ y;go_simp
   refine wTk 4 21 (.pointer (some ⟨B,0,none⟩)) ?_ (bD Z) ?_
   ·intro _ y;go_simp
   refine wTk 5 22 (.pointer (some ⟨B,0,none⟩)) ?_ (bD Z) ?_
   ·intro _ y;go_simp
   refine wTk 6 23 (.pointer (some ⟨B,1,none⟩)) ?_ (bD Z) ?_
   ·intro _ y;go_simp
   refine wTk 7 24 (.slice (some ⟨F,0,none⟩) fs.length FC) ?_ (bD Z) ?_
   ·intro _ y;obtain⟨c1,f4,v1,v2,n0,n1,n2,n3,n4,n5⟩:=kP10 y c1 f4 v1 v2 n0 n1 n2 n3 n4 n5;go_simp
   refine wTk 8 25 (.int .i64 fi) ?_ (bD Z) ?_
   ·intro _ y;go_simp
   refine wTk 9 26 (.pointer (some ⟨F,fi * 6,none⟩)) ?_ (bD Z) ?_
   ·intro _ y;go_simp
   refine wTk 10 27 (.pointer (some ⟨F,fi * 6+4,none⟩)) ?_ (bD Z) ?_
   ·intro _ y;go_simp
   refine wTk 11 28 (.slice (some ⟨gV,0,none⟩) fs[fi].vars.length cV) ?_ (bD Z) ?_
   ·intro _ y;obtain⟨c1,f4,v1,v2,n0,n1,n2,n3,n4,n5⟩:=kP10 y c1 f4 v1 v2 n0 n1 n2 n3 n4 n5;go_simp
   refine wTk 12 29 (.int .i64 k) ?_ (bD Z) ?_
   ·intro _ y;go_simp
   refine wTk 13 30 (.pointer (some ⟨gV,k * 4,none⟩)) ?_ (bD Z) ?_
   ·intro _ y;go_simp
   refine wTk 14 31 (.pointer (some ⟨gV,k * 4+1,none⟩)) ?_ (bD Z) ?_
   ·intro _ y;go_simp
   refine wTk 15 32 (.agg #[.int .i64 T0, .bool T1]) ?_ (bD Z) ?_
   ·intro _ y;obtain⟨c1,f4,v1,v2,n0,n1,n2,n3,n4,n5⟩:=kP10 y c1 f4 v1 v2 n0 n1 n2 n3 n4 n5;go_simp
   refine wOn 16 fun K hK=>?_
   go_simp;refine(HEX.o B L ⟨gs,(fs.getD ci noF).vars⟩ (.slice qa na ca) (T0,T1) _ ⟨_,_,_,_,_,_,_,_,HRE.o.below (Below.refl _ _).drew⟩ (by simp;omega) (xZ.move (fun g hg hok=>⟨hok,(HBA.o.drew.block g (by omega))⟩) u _ HLA.o)).mono ?_;rintro e w2 hX;rcases hX.cases with⟨a,uu,hp,rfl,⟨kv,rfl,hkv2⟩,hb2⟩ | ⟨ln,co,code,hp,rfl,hb2⟩;rotate_left
   ·exact⟨rfl,zP.badI (by rw[HF.o,HA.o,hp];rfl) ⟨rfl,HBR.o.trans ((HBA.o.trans ((zF hb2).mono (by omega))).mono hbs)⟩⟩
   obtain⟨aop,⟨aT0,aT1⟩,an,av,ag,al,ac,ak⟩:=a;have hb2:=zF hb2;simp only[World.size_drew]at hkv2;simp only[exV,Ex.kids]at *;refine kK hK hb2 ?_;clear hK K;have HZ2:=hI (HBR.o.trans ((HBA.o.trans (hb2.mono (by omega))).mono hbs));have hs2:=hb2.size;have HBD3:=hI ((HBD.o.below HBA.o).below (show Below Z.1.size Z w2 from hb2));have hltb:=HBD.o.lt;have HKV:=hI (hkv2.mono (ok':=fun g=>W.1.size<=g/\some g≠(Value.slice q7 n7 c7).ownBlock) (fun g hg=>⟨by omega,fun e=>by have:=(hltb g e.symm).2;omega⟩));have HP:=hI hp;have HB2Z:=hI (show Below Z.1.size Z w2 from hb2);clear hX hp hkv2 hb2 hltb c1 f4 v1 v2 n0 n1 n2 n3 n4 n5 HRE;refine wOn 17 fun K hK=>?_
   go_simp;refine kK hK (bal HB2Z.o _) ?_;clear hK K;refine wOn 18 fun K hK=>?_
   refine qYU (dd:=35) (e:=.mk aop (aT0,aT1) an av ag al ac ak) (u:=kv) (acc:=acc) (lo:=W.1.size) _ _ rfl rfl HBD3.o HKV.o (by omega) rfl rfl rfl (by omega) (fun v9 w9 hb9 hg9=>?_);refine kD hK ?_;clear hK K;obtain⟨q9,n9,c9,rfl⟩:=hb9.shape;have hga:=hg9.size;simp at hga;have HB9:=hI (Below.grown (HZ2.o.trans (((Below.refl w2.1.size w2).alloc (Nat.le_refl _) _).mono (by omega))) hg9 (by simp;omega) (fun j e=>(HBD3.o.lt j e).1));have HP9:=hI hb9;clear hb9 hg9;refine wOn 19 fun K hK=>?_
   go_simp;refine kD hK ?_;clear hK K;refine wDn ?_ _;go_wp2
   refine⟨⟨k+1,acc++[.mk aop (aT0,aT1) an av ag al ac ak],by omega,rfl,by simp;omega,HP9.o,?_,HB9.o⟩,by simp[intOf];omega⟩;rw[HF.o,HA.o,HP.o,CR.bind_assoc];generalize wM ⟨gs,(fs.getD ci noF).vars⟩ (List.drop (k+1) ts) (List.drop (k+1) fs[fi].h.params)=r;cases r <;> simp[CR.bind]
  ·have HE:=hI (show wM ⟨gs,(fs.getD ci noF).vars⟩ ts fs[fi].h.params=.ok acc by rw[HF.o,List.drop_eq_nil_of_le (by omega),wM];simp[CR.bind]);go_wp2
   go_ret;exact zP.okI HE.o HBD.o.lies HBR.o
structure jO(N:Nat)(op:List UInt8)(l c:Int)(tv ev:Value)(fn:Int)(hv lv:Value)(w:World):Prop where
 c0:w.cell? ⟨N,0,none⟩=some (.string ⟨op.toArray⟩)
 c1:w.cell? ⟨N,1,none⟩=some (.int .i64 l)
 c2:w.cell? ⟨N,2,none⟩=some (.int .i64 c)
 c3:w.cell? ⟨N,3,none⟩=some tv
 c4:w.cell? ⟨N,4,none⟩=some ev
 c5:w.cell? ⟨N,5,none⟩=some (.int .i64 fn)
 c6:w.cell? ⟨N,6,none⟩=some hv
 c7:w.cell? ⟨N,7,none⟩=some lv
 f:∀ k,k < 8->w.frozen? ⟨N,k,none⟩=false
theorem jO.a{N:Nat}{op:List UInt8}{l c:Int}{tv ev:Value}{fn:Int}{hv lv:Value}{w:World}(h:jO N op l c tv ev fn hv lv w):w.cell? ⟨N,0,none⟩=some (.string ⟨op.toArray⟩)/\w.cell? ⟨N,1,none⟩=some (.int .i64 l)/\w.cell? ⟨N,2,none⟩=some (.int .i64 c)/\w.cell? ⟨N,3,none⟩=some tv/\w.cell? ⟨N,4,none⟩=some ev/\w.cell? ⟨N,5,none⟩=some (.int .i64 fn)/\w.cell? ⟨N,6,none⟩=some hv/\w.cell? ⟨N,7,none⟩=some lv/\True:=⟨h.c0,h.c1,h.c2,h.c3,h.c4,h.c5,h.c6,h.c7,trivial⟩
theorem jO.b{N:Nat}{op:List UInt8}{l c:Int}{tv ev:Value}{fn:Int}{hv lv:Value}{w:World}(h:jO N op l c tv ev fn hv lv w):w.frozen? ⟨N,0,none⟩=false/\w.frozen? ⟨N,1,none⟩=false/\w.frozen? ⟨N,2,none⟩=false/\w.frozen? ⟨N,3,none⟩=false/\w.frozen? ⟨N,4,none⟩=false/\w.frozen? ⟨N,5,none⟩=false/\w.frozen? ⟨N,6,none⟩=false/\w.frozen? ⟨N,7,none⟩=false/\True:=⟨h.f 0 (by decide),h.f 1 (by decide),h.f 2 (by decide),h.f 3 (by decide),h.f 4 (by decide),h.f 5 (by decide),h.f 6 (by decide),h.f 7 (by decide),trivial⟩
def sxO(op:List UInt8)(l c:Int)(tv ev:Value)(fn:Int)(hv lv:Value):Obj:=.cells #[.string ⟨op.toArray⟩, .int .i64 l, .int .i64 c,tv,ev, .int .i64 fn,hv,lv] 73
section
variable {N:Nat} {op:List UInt8} {l c:Int} {tv ev:Value} {fn:Int} {hv lv:Value} {w w':World}
theorem jO.new(op:List UInt8)(l c:Int)(tv ev:Value)(fn:Int)(hv lv:Value)(w:World):jO w.1.size op l c tv ev fn hv lv (w.alloc (sxO op l c tv ev fn hv lv)):=by
 unfold sxO;constructor
 case f=>intro k hk;match k,hk with | 0,_=>simp[go_sem] | 1,_=>simp[go_sem] | 2,_=>simp[go_sem] | 3,_=>simp[go_sem] | 4,_=>simp[go_sem] | 5,_=>simp[go_sem] | 6,_=>simp[go_sem] | 7,_=>simp[go_sem]
 all_goals simp[go_sem]
theorem jO.lt(h:jO N op l c tv ev fn hv lv w):N < w.1.size:=qJ h.c0
theorem jO.turn(h:jO N op l c tv ev fn hv lv w)(hb:w'.1[N]? = w.1[N]?):jO N op l c tv ev fn hv lv w' :=
 have k:∀ {o:Nat} {v:Value},w.cell? ⟨N,o,none⟩=some v->w'.cell? ⟨N,o,none⟩=some v:=fun e=>(cB hb).trans e
 ⟨k h.c0,k h.c1,k h.c2,k h.c3,k h.c4,k h.c5,k h.c6,k h.c7,fun j hj=>(World.frozen?_of_block hb).trans (h.f j hj)⟩
theorem jO.below(h:jO N op l c tv ev fn hv lv w)(hb:Below w.1.size w w'):jO N op l c tv ev fn hv lv w':=h.turn (hb.block N h.lt)
theorem jO.setE(h:jO N op l c tv ev fn hv lv w)(v:Value):jO N op l c tv v fn hv lv (w.setCell ⟨N,4,none⟩ v):=by
 have⟨h0,h1,h2,h3,h4,h5,h6,h7,_⟩:=h.a;have hf:=h.f;constructor
 case f=>intro j hj;have:=hf j hj;simp[go_sem, *]
 all_goals simp[go_sem, *]
theorem jO.setT(h:jO N op l c tv ev fn hv lv w)(v:Value):jO N op l c v ev fn hv lv (w.setCell ⟨N,3,none⟩ v):=by
 have⟨h0,h1,h2,h3,h4,h5,h6,h7,_⟩:=h.a;have hf:=h.f;constructor
 case f=>intro j hj;have:=hf j hj;simp[go_sem, *]
 all_goals simp[go_sem, *]
theorem jO.setF(h:jO N op l c tv ev fn hv lv w)(n:Int):jO N op l c tv ev n hv lv (w.setCell ⟨N,5,none⟩ (.int .i64 n)):=by
 have⟨h0,h1,h2,h3,h4,h5,h6,h7,_⟩:=h.a;have hf:=h.f;constructor
 case f=>intro j hj;have:=hf j hj;simp[go_sem, *]
 all_goals simp[go_sem, *]
theorem jO.setO(h:jO N op l c tv ev fn hv lv w)(x:List UInt8):jO N x l c tv ev fn hv lv (w.setCell ⟨N,0,none⟩ (.string ⟨x.toArray⟩)):=by
 have⟨h0,h1,h2,h3,h4,h5,h6,h7,_⟩:=h.a;have hf:=h.f;constructor
 case f=>intro j hj;have:=hf j hj;simp[go_sem, *]
 all_goals simp[go_sem, *]
end
def qQY{α:Type}(NS:Nat)(p:CR α)(R:α->World->Prop)(w:World)(e:Ending)(w':World):Prop :=
 match p with
 | .ok a=>e=.returned (.tuple #[])/\R a w'/\w.grownBy w' (some NS)
 | .bad ln co code=>e=.panicked [{ v:=xO ln co code,recovered:=false }]/\w.grownBy w' (some NS)
theorem qQY.okI{α:Type}{NS:Nat}{p:CR α}{R:α->World->Prop}{w w':World}{a:α}(hp:p=.ok a)(hR:R a w')(hg:w.grownBy w' (some NS)):qQY NS p R w (.returned (.tuple #[])) w':=by
 rw[hp];exact⟨rfl,hR,hg⟩
theorem qQY.badI{α:Type}{NS:Nat}{p:CR α}{R:α->World->Prop}{w w':World}{ln co code:Int}(hp:p=.bad ln co code)(hg:w.grownBy w' (some NS)):qQY NS p R w (.panicked [{ v:=xO ln co code,recovered:=false }]) w':=by
 rw[hp];exact⟨rfl,hg⟩
theorem yY{fs:List FnM}{i:Nat}(h:i < fs.length):fs.getD i noF=fs[i]:=by simp[List.getD_eq_getElem?_getD,h]
def qXp(E:Env)(ret:Ty)(t:qQ):CR (List Ex):=(jQ (decide (ret=noT) == decide (t.kids.length=0)) t 41).bind fun _=>vD E t.kids ret
theorem leave_any(B L NS:Nat)(gs:List qI)(fs:List FnM)(ci:Nat)(k x:List UInt8)(m ln co:Int)(ks:List qQ)(q:Option Addr)(cp:Nat)(op:List UInt8)(sl sc:Int)(tv ev:Value)(fn:Int)(hv lv:Value)(w:World)
 (hw:qZV ks=true) (hkl:ks.length<=2) (h:RAt B gs fs ci w) (hL:L<=w.1.size) (hK:yD L w ks q) (hS:jO NS op sl sc tv ev fn hv lv w) :
 Calls prog 138 #[.pointer (some ⟨B,0,none⟩),qZ (.mk k x m ln co ks) (.slice q ks.length cp), .pointer (some ⟨NS,0,none⟩)] w
  (qQY NS (qXp ⟨gs,(fs.getD ci noF).vars⟩ (fs.getD ci noF).h.t (.mk k x m ln co ks)) (fun es w'=>∃ kv,jO NS op sl sc tv kv fn hv lv w'/\qU w' (fun g=>w.1.size<=g) es kv) w):=by
 have HBL:=hI (bal (Below.refl w.1.size w) (qB (.mk k x m ln co ks) (.slice q ks.length cp)));have HN:=hI (Bx.new (.mk k x m ln co ks) (.slice q ks.length cp) w);have HR:=hI (h.below HBL.o);have HK:=hI (hK.keep (HBL.o.mono hL));have HSB:=hI (hS.below HBL.o);have hNS:=hS.lt;have hsz:(w.alloc (qB (.mk k x m ln co ks) (.slice q ks.length cp))).1.size=w.1.size+1:=by simp
 have hBw:B < w.1.size:=by
  obtain⟨FC,Mf,gv,Mg,Mo,Mr,F,cl,hR⟩:=h;exact qJ hR.c1
 have hfacts:∃ F FC,w.cell? ⟨B,7,none⟩=some (.pointer (some ⟨F,ci * 6,none⟩))/\w.cell? ⟨F,ci * 6+1,none⟩=some (.int .i64 (fs.getD ci noF).h.t.1)/\w.cell? ⟨F,ci * 6+2,none⟩=some (.bool (fs.getD ci noF).h.t.2)/\FC=F:=by
  obtain⟨FC,Mf,gv,Mg,Mo,Mr,F,cl,hR⟩:=h;obtain⟨f0,f1,f2,f3,f4,f5⟩:=qZv hR.frow hR.hi;rw[yY hR.hi];exact⟨F,F,hR.en.c7,f1,f2,rfl⟩
 obtain⟨F,_,c7,f1,f2,_⟩:=hfacts;have hF:F < w.1.size:=qJ f1;have HREC:=hI (qXZ ks hw);generalize hret:(fs.getD ci noF).h.t=T at *;obtain⟨T0,T1⟩:=T;have HPB:=hI (show qXp ⟨gs,(fs.getD ci noF).vars⟩ (T0,T1) (.mk k x m ln co ks)=(jQ (decide (((T0,T1):Ty)=noT) == decide (ks.length=0)) (.mk k x m ln co ks) 41).bind fun _=>vD ⟨gs,(fs.getD ci noF).vars⟩ ks (T0,T1)from rfl);have HNA:=hI (fun b w'=>qQk b (.mk k x m ln co ks) (.slice q ks.length cp) 41 w');clear h hK hS hw;simp only[qZ,qB,qS,qQ.kind,qQ.text,qQ.num,qQ.line,qQ.col,qQ.kids]at *;have hvoid:∃ b:Bool,b=decide (((T0,T1):Ty)=noT):=⟨_,rfl⟩;obtain⟨vb,hvb⟩:=hvoid;have HVB:=hI hvb;have hcb:T0=0/\T1=false\/T0=0/\T1=true\/¬T0=0:=by cases T1 <;> by_cases T0=0 <;> simp_all
 clear hvb;rcases hcb with⟨rfl,rfl⟩ | ⟨rfl,rfl⟩ | h0
 ·skip
  go_enter func138,ntmps138
  go_wp2_with fail
  generalize (w.alloc _)=W at *;refine(HNA.o _ _).mono ?_;rintro e w3 (⟨hbt,rfl,hb3⟩ | ⟨hbt,rfl,hb3⟩);rotate_left
  ·refine⟨rfl,qQY.badI (ln:=ln) (co:=co) (code:=41) ?_ (zV (HBL.o.trans (hb3.mono (by omega))) _)⟩;rw[HPB.o];simp at hbt;simp[jQ,CR.bind,noT,hbt,qQ.line,qQ.col]
  have HQ:=hI (show qXp ⟨gs,(fs.getD ci noF).vars⟩ (0,false) (.mk k x m ln co ks)=vD ⟨gs,(fs.getD ci noF).vars⟩ ks (0,false) by
   rw[HPB.o];simp at hbt;simp[jQ,CR.bind,noT,hbt])
  have HW3:=hI (HBL.o.trans (hb3.mono (by omega)));have hs3:=hb3.size;have HR3:=hI (HR.o.below hb3);have HK3:=hI (HK.o.keep (hb3.mono (by omega)));have HS3:=hI (HSB.o.below hb3);obtain⟨n0,n1,n2,n3,n4,n5⟩:=(HN.o.below hb3).cells;obtain⟨c7,f1,f2⟩:=kP3 HW3.o c7 f1 f2;clear hbt hb3 HPB HNA HR HK HSB;go_wp2
  refine wRg (S:=fun w'=>Below w3.1.size w3 w') 14 ?_;refine wTk 0 24 (.pointer (some ⟨NS,0,none⟩)) ?_ (bD w3) ?_
  ·intro _ y;go_simp
  refine wTk 1 25 (.pointer (some ⟨B,0,none⟩)) ?_ (bD w3) ?_
  ·intro _ y;go_simp
  refine wTk 2 26 (.pointer (some ⟨w.1.size,5,none⟩)) ?_ (bD w3) ?_
  ·intro _ y;go_simp
  refine wTk 3 27 (.slice q ks.length cp) ?_ (bD w3) ?_
  ·intro _ y;obtain⟨c7,f1,f2,n5⟩:=kP4 y c7 f1 f2 n5;go_simp
  refine wTk 4 28 (.pointer (some ⟨B,0,none⟩)) ?_ (bD w3) ?_
  ·intro _ y;go_simp
  refine wTk 5 29 (.pointer (some ⟨B,0,none⟩)) ?_ (bD w3) ?_
  ·intro _ y;go_simp
  refine wTk 6 30 (.pointer (some ⟨B,7,none⟩)) ?_ (bD w3) ?_
  ·intro _ y;go_simp
  refine wTk 7 31 (.pointer (some ⟨F,ci * 6,none⟩)) ?_ (bD w3) ?_
  ·intro _ y;obtain⟨c7,f1,f2,n5⟩:=kP4 y c7 f1 f2 n5;go_simp
  refine wTk 8 32 (.pointer (some ⟨F,ci * 6,none⟩)) ?_ (bD w3) ?_
  ·intro _ y;go_simp
  refine wTk 9 33 (.pointer (some ⟨F,ci * 6+1,none⟩)) ?_ (bD w3) ?_
  ·intro _ y;go_simp
  refine wTk 10 34 (.agg #[.int .i64 0, .bool false]) ?_ (bD w3) ?_
  ·intro _ y;obtain⟨c7,f1,f2,n5⟩:=kP4 y c7 f1 f2 n5;go_simp
  refine wOn 11 fun K hK=>?_
  go_simp;refine(qZs B L ⟨gs,(fs.getD ci noF).vars⟩ ks q cp (0,false) _ HREC.o (RAt.en (HR3.o.below (Below.refl _ _).drew)) (by simp;omega) (HK3.o.keep (Below.refl _ _).drew) (by omega)).mono ?_;rintro e w4 hX;rcases hX.cases with⟨es,u,hp,rfl,hles,hb4⟩ | ⟨l',c',code,hp,rfl,hb4⟩;rotate_left
  ·exact⟨rfl,qQY.badI (by rw[HQ.o,hp]) (zV (HW3.o.trans ((zF hb4).mono (by omega))) _)⟩
  obtain⟨uq,uc,rfl⟩:=hles.shape;have hb4:=zF hb4;have hs4:=hb4.size;refine kK hK hb4 ?_;clear hK K;have HS4:=hI (HS3.o.below hb4);have HB4:=hI (show Below w3.1.size w3 w4 from hb4);have HW4:=hI (HW3.o.trans (hb4.mono (by omega)));have HLS:=hI (hles.mono (ok':=fun g=>w.1.size+1<=g) (fun g hg=>by simp at hg;omega));have HE:=hI (HQ.o.trans hp);have s4:=HS4.o.c4;have sf4:=HS4.o.f 4 nL;clear n0 n1 n2 n3 n4 n5 c7 f1 f2 hX hp hles hb4;refine wOn 12 fun K hK=>?_
  go_simp;refine kK hK HB4.o ?_;clear hK K;refine wOn 13 fun K hK=>?_
  go_simp;refine kK hK HB4.o ?_;clear hK K;refine wOn 14 fun K hK=>?_
  go_simp;refine kD hK ?_;clear hK K;refine wDn ?_ _;go_wp2
  go_end0;exact qQY.okI HE.o ⟨_,HS4.o.setE _,qU.mono (qU.setN HLS.o (by omega) _) (fun g hg=>by omega)⟩ (vC (zV HW4.o _) _)
 ·skip
  go_enter func138,ntmps138
  go_wp2_with fail
  generalize (w.alloc _)=W at *;refine(HNA.o _ _).mono ?_;rintro e w3 (⟨hbt,rfl,hb3⟩ | ⟨hbt,rfl,hb3⟩);rotate_left
  ·refine⟨rfl,qQY.badI (ln:=ln) (co:=co) (code:=41) ?_ (zV (HBL.o.trans (hb3.mono (by omega))) _)⟩;rw[HPB.o];simp at hbt;simp[jQ,CR.bind,noT,hbt,qQ.line,qQ.col]
  have HQ:=hI (show qXp ⟨gs,(fs.getD ci noF).vars⟩ (0,true) (.mk k x m ln co ks)=vD ⟨gs,(fs.getD ci noF).vars⟩ ks (0,true) by
   rw[HPB.o];simp at hbt;simp[jQ,CR.bind,noT,hbt])
  have HW3:=hI (HBL.o.trans (hb3.mono (by omega)));have hs3:=hb3.size;have HR3:=hI (HR.o.below hb3);have HK3:=hI (HK.o.keep (hb3.mono (by omega)));have HS3:=hI (HSB.o.below hb3);obtain⟨n0,n1,n2,n3,n4,n5⟩:=(HN.o.below hb3).cells;obtain⟨c7,f1,f2⟩:=kP3 HW3.o c7 f1 f2;clear hbt hb3 HPB HNA HR HK HSB;go_wp2
  refine wRg (S:=fun w'=>Below w3.1.size w3 w') 14 ?_;refine wTk 0 24 (.pointer (some ⟨NS,0,none⟩)) ?_ (bD w3) ?_
  ·intro _ y;go_simp
  refine wTk 1 25 (.pointer (some ⟨B,0,none⟩)) ?_ (bD w3) ?_
  ·intro _ y;go_simp
  refine wTk 2 26 (.pointer (some ⟨w.1.size,5,none⟩)) ?_ (bD w3) ?_
  ·intro _ y;go_simp
  refine wTk 3 27 (.slice q ks.length cp) ?_ (bD w3) ?_
  ·intro _ y;obtain⟨c7,f1,f2,n5⟩:=kP4 y c7 f1 f2 n5;go_simp
  refine wTk 4 28 (.pointer (some ⟨B,0,none⟩)) ?_ (bD w3) ?_
  ·intro _ y;go_simp
  refine wTk 5 29 (.pointer (some ⟨B,0,none⟩)) ?_ (bD w3) ?_
  ·intro _ y;go_simp
  refine wTk 6 30 (.pointer (some ⟨B,7,none⟩)) ?_ (bD w3) ?_
  ·intro _ y;go_simp
  refine wTk 7 31 (.pointer (some ⟨F,ci * 6,none⟩)) ?_ (bD w3) ?_
  ·intro _ y;obtain⟨c7,f1,f2,n5⟩:=kP4 y c7 f1 f2 n5;go_simp
  refine wTk 8 32 (.pointer (some ⟨F,ci * 6,none⟩)) ?_ (bD w3) ?_
  ·intro _ y;go_simp
  refine wTk 9 33 (.pointer (some ⟨F,ci * 6+1,none⟩)) ?_ (bD w3) ?_
  ·intro _ y;go_simp
  refine wTk 10 34 (.agg #[.int .i64 0, .bool true]) ?_ (bD w3) ?_
  ·intro _ y;obtain⟨c7,f1,f2,n5⟩:=kP4 y c7 f1 f2 n5;go_simp
  refine wOn 11 fun K hK=>?_
  go_simp;refine(qZs B L ⟨gs,(fs.getD ci noF).vars⟩ ks q cp (0,true) _ HREC.o (RAt.en (HR3.o.below (Below.refl _ _).drew)) (by simp;omega) (HK3.o.keep (Below.refl _ _).drew) (by omega)).mono ?_;rintro e w4 hX;rcases hX.cases with⟨es,u,hp,rfl,hles,hb4⟩ | ⟨l',c',code,hp,rfl,hb4⟩;rotate_left
  ·exact⟨rfl,qQY.badI (by rw[HQ.o,hp]) (zV (HW3.o.trans ((zF hb4).mono (by omega))) _)⟩
  obtain⟨uq,uc,rfl⟩:=hles.shape;have hb4:=zF hb4;have hs4:=hb4.size;refine kK hK hb4 ?_;clear hK K;have HS4:=hI (HS3.o.below hb4);have HB4:=hI (show Below w3.1.size w3 w4 from hb4);have HW4:=hI (HW3.o.trans (hb4.mono (by omega)));have HLS:=hI (hles.mono (ok':=fun g=>w.1.size+1<=g) (fun g hg=>by simp at hg;omega));have HE:=hI (HQ.o.trans hp);have s4:=HS4.o.c4;have sf4:=HS4.o.f 4 nL;clear n0 n1 n2 n3 n4 n5 c7 f1 f2 hX hp hles hb4;refine wOn 12 fun K hK=>?_
  go_simp;refine kK hK HB4.o ?_;clear hK K;refine wOn 13 fun K hK=>?_
  go_simp;refine kK hK HB4.o ?_;clear hK K;refine wOn 14 fun K hK=>?_
  go_simp;refine kD hK ?_;clear hK K;refine wDn ?_ _;go_wp2
  go_end0;exact qQY.okI HE.o ⟨_,HS4.o.setE _,qU.mono (qU.setN HLS.o (by omega) _) (fun g hg=>by omega)⟩ (vC (zV HW4.o _) _)
 ·skip
  go_enter func138,ntmps138
  go_wp2_with fail
  generalize (w.alloc _)=W at *;refine(HNA.o _ _).mono ?_;rintro e w3 (⟨hbt,rfl,hb3⟩ | ⟨hbt,rfl,hb3⟩);rotate_left
  ·refine⟨rfl,qQY.badI (ln:=ln) (co:=co) (code:=41) ?_ (zV (HBL.o.trans (hb3.mono (by omega))) _)⟩;rw[HPB.o];simp at hbt;simp[jQ,CR.bind,noT,hbt,h0,qQ.line,qQ.col]
  have HQ:=hI (show qXp ⟨gs,(fs.getD ci noF).vars⟩ (T0,T1) (.mk k x m ln co ks)=vD ⟨gs,(fs.getD ci noF).vars⟩ ks (T0,T1) by
   rw[HPB.o];simp at hbt;simp[jQ,CR.bind,noT,hbt,h0])
  have HW3:=hI (HBL.o.trans (hb3.mono (by omega)));have hs3:=hb3.size;have HR3:=hI (HR.o.below hb3);have HK3:=hI (HK.o.keep (hb3.mono (by omega)));have HS3:=hI (HSB.o.below hb3);obtain⟨n0,n1,n2,n3,n4,n5⟩:=(HN.o.below hb3).cells;obtain⟨c7,f1,f2⟩:=kP3 HW3.o c7 f1 f2;clear hbt hb3 HPB HNA HR HK HSB;go_wp2
  refine wRg (S:=fun w'=>Below w3.1.size w3 w') 14 ?_;refine wTk 0 24 (.pointer (some ⟨NS,0,none⟩)) ?_ (bD w3) ?_
  ·intro _ y;go_simp
  refine wTk 1 25 (.pointer (some ⟨B,0,none⟩)) ?_ (bD w3) ?_
  ·intro _ y;go_simp
  refine wTk 2 26 (.pointer (some ⟨w.1.size,5,none⟩)) ?_ (bD w3) ?_
  ·intro _ y;go_simp
  refine wTk 3 27 (.slice q ks.length cp) ?_ (bD w3) ?_
  ·intro _ y;obtain⟨c7,f1,f2,n5⟩:=kP4 y c7 f1 f2 n5;go_simp
  refine wTk 4 28 (.pointer (some ⟨B,0,none⟩)) ?_ (bD w3) ?_
  ·intro _ y;go_simp
  refine wTk 5 29 (.pointer (some ⟨B,0,none⟩)) ?_ (bD w3) ?_
  ·intro _ y;go_simp
  refine wTk 6 30 (.pointer (some ⟨B,7,none⟩)) ?_ (bD w3) ?_
  ·intro _ y;go_simp
  refine wTk 7 31 (.pointer (some ⟨F,ci * 6,none⟩)) ?_ (bD w3) ?_
  ·intro _ y;obtain⟨c7,f1,f2,n5⟩:=kP4 y c7 f1 f2 n5;go_simp
  refine wTk 8 32 (.pointer (some ⟨F,ci * 6,none⟩)) ?_ (bD w3) ?_
  ·intro _ y;go_simp
  refine wTk 9 33 (.pointer (some ⟨F,ci * 6+1,none⟩)) ?_ (bD w3) ?_
  ·intro _ y;go_simp
  refine wTk 10 34 (.agg #[.int .i64 T0, .bool T1]) ?_ (bD w3) ?_
  ·intro _ y;obtain⟨c7,f1,f2,n5⟩:=kP4 y c7 f1 f2 n5;go_simp
  refine wOn 11 fun K hK=>?_
  go_simp;refine(qZs B L ⟨gs,(fs.getD ci noF).vars⟩ ks q cp (T0,T1) _ HREC.o (RAt.en (HR3.o.below (Below.refl _ _).drew)) (by simp;omega) (HK3.o.keep (Below.refl _ _).drew) (by omega)).mono ?_;rintro e w4 hX;rcases hX.cases with⟨es,u,hp,rfl,hles,hb4⟩ | ⟨l',c',code,hp,rfl,hb4⟩;rotate_left
  ·exact⟨rfl,qQY.badI (by rw[HQ.o,hp]) (zV (HW3.o.trans ((zF hb4).mono (by omega))) _)⟩
  obtain⟨uq,uc,rfl⟩:=hles.shape;have hb4:=zF hb4;have hs4:=hb4.size;refine kK hK hb4 ?_;clear hK K;have HS4:=hI (HS3.o.below hb4);have HB4:=hI (show Below w3.1.size w3 w4 from hb4);have HW4:=hI (HW3.o.trans (hb4.mono (by omega)));have HLS:=hI (hles.mono (ok':=fun g=>w.1.size+1<=g) (fun g hg=>by simp at hg;omega));have HE:=hI (HQ.o.trans hp);have s4:=HS4.o.c4;have sf4:=HS4.o.f 4 nL;clear n0 n1 n2 n3 n4 n5 c7 f1 f2 hX hp hles hb4;refine wOn 12 fun K hK=>?_
  go_simp;refine kK hK HB4.o ?_;clear hK K;refine wOn 13 fun K hK=>?_
  go_simp;refine kK hK HB4.o ?_;clear hK K;refine wOn 14 fun K hK=>?_
  go_simp;refine kD hK ?_;clear hK K;refine wDn ?_ _;go_wp2
  go_end0;exact qQY.okI HE.o ⟨_,HS4.o.setE _,qU.mono (qU.setN HLS.o (by omega) _) (fun g hg=>by omega)⟩ (vC (zV HW4.o _) _)
theorem qJc(L:Nat)(t u:qQ)(r:List qQ)(v:Value)(w:World)(hks:t.kids=u :: r)(ht:qKi w)(hL:L<=w.1.size)(hl:xZ w (· < L) t v)(hx:t.text.length<=1000000) :
 Calls prog 100 #[qZ t v] w fun e w'=>e=.returned (qXK (qZr t))/\Below w.1.size w w':=by
 obtain⟨q,c,rfl,hc1,hc2,hK⟩:=hl.kids;have HBL:=hI (bal (bal (Below.refl w.1.size w) (qB t (.slice q t.kids.length c))) (qYx qZU));have HN:=hI ((Bx.new t (.slice q t.kids.length c) w).below (bal (Below.refl _ _) (qYx qZU)));have HV:=hI (qQB.new qZU (w.alloc (qB t (.slice q t.kids.length c))));simp only[World.size_alloc]at HV;have HK:=hI (hK.keep (HBL.o.mono hL));have HT:=hI (fun w' (hb:Below w.1.size w w')=>ht.below hb);have HD:=hI (show qZr t=⟨t.text,tyL u.text,0⟩ by unfold qZr;rw[hks];rfl);have hsz:((w.alloc (qB t (.slice q t.kids.length c))).alloc (qYx qZU)).1.size=w.1.size+2:=by simp
 clear hK hl ht;obtain⟨k,x,m,ln,co,ks⟩:=t;simp only[qZ,qB,qS,qYx,qQe,qZU,qQ.kind,qQ.text,qQ.num,qQ.line,qQ.col,qQ.kids]at *;have hlen:0 < ks.length:=by rw[hks];simp
 have hk0:ks[0]=u:=by simp[hks]
 have HK0:=hI hk0;clear hks hk0;go_enter func100,ntmps100
 go_wp2
 generalize ((w.alloc _).alloc _)=W at *;obtain⟨n0,n1,n2,n3,n4,n5⟩:=HN.o.cells;obtain⟨g,off,rfl,hR⟩:=HK.o.resolve_left (fun e=>by rw[e]at hlen;simp at hlen);obtain⟨qa,na,ca,hla,hca⟩:=hR.2 0 hlen;rw[HK0.o]at hca hla;simp only[Nat.zero_mul,Nat.add_zero]at hca;have⟨k0,k1,k2,k3,k4,k5,_⟩:=hca.a;have HTY:=hI (fun w' (hb:Below w.1.size w w')=>qKd u (.slice qa na ca) w' (HT.o w' hb));have hlen':(0:Int) < (ks.length:Nat):=by omega
 unfold qZ at HTY;generalize hU:tyL u.text=U at *;obtain⟨U0,U1⟩:=U;unfold tyV at HTY;have HUU:=hI hU;clear hU;clear hca hla hR;simp only at *;refine wRg (S:=fun w'=>Below W.1.size W w') 9 ?_;refine wTk 0 3 (.pointer (some ⟨w.1.size,1,none⟩)) ?_ (bD W) ?_
 ·intro _ y;go_simp
 refine wTk 1 4 (.string ⟨x.toArray⟩) ?_ (bD W) ?_
 ·intro _ y;obtain⟨n1,n5,k0,k1,k2,k3,k4,k5⟩:=kP8 y n1 n5 k0 k1 k2 k3 k4 k5;go_simp
 refine wTk 3 6 (.pointer (some ⟨w.1.size,5,none⟩)) ?_ (bD W) ?_
 ·intro _ y;go_simp
 refine wTk 4 7 (.slice (some ⟨g,off,none⟩) ks.length c) ?_ (bD W) ?_
 ·intro _ y;obtain⟨n1,n5,k0,k1,k2,k3,k4,k5⟩:=kP8 y n1 n5 k0 k1 k2 k3 k4 k5;go_simp
 refine wTk 5 8 (.pointer (some ⟨g,off,none⟩)) ?_ (bD W) ?_
 ·intro _ y;go_simp
 refine wTk 6 9 (.agg #[.string ⟨u.kind.toArray⟩, .string ⟨u.text.toArray⟩, .int .u64 u.num, .int .i64 u.line, .int .i64 u.col, .slice qa na ca]) ?_ (bD W) ?_
 ·intro _ y;obtain⟨n1,n5,k0,k1,k2,k3,k4,k5⟩:=kP8 y n1 n5 k0 k1 k2 k3 k4 k5;go_simp
 refine wOn 2 fun K hK=>?_
 go_simp;refine(yP ⟨x.toArray⟩ _ (by simpa[ByteArray.size]using hx)).mono ?_;rintro e w3 ⟨rfl,hb3⟩;have hb3:=zF hb3;refine kK hK hb3 ?_;clear hK K;refine wOn 7 fun K hK=>?_
 go_simp;refine(HTY.o _ (HBL.o.trans (hb3.mono (by omega)))).mono ?_;rintro e w4 ⟨rfl,hb4⟩;have hb5:=hb3.trans (hb4.mono hb3.size);refine kK hK hb5 ?_;clear hK K;refine wOn 8 fun K hK=>?_
 go_simp;refine kK hK hb5 ?_;clear hK K;have hV:=HV.o.below hb5;have⟨v0,v1,v2,v3,_⟩:=hV.a;have⟨g0,g1,g2,g3,_⟩:=hV.b;have HW:=hI (HBL.o.trans (hb5.mono (by omega)));have hvl:=hV.lt;clear hV hb3 hb4 hb5 n0 n1 n2 n3 n4 n5 k0 k1 k2 k3 k4 k5;refine wOn 9 fun K hK=>?_
 go_simp;refine kD hK ?_;clear hK K;refine wDn ?_ _;go_wp2
 refine bodyPost_ret (v:=qXK ⟨x,(U0,U1),0⟩) (by simp[results,results100,go_sem,qXK,v0,v1,v2,v3,hvl]) rfl ⟨by rw[HD.o];show Ending.returned (qXK ⟨x,(U0,U1),0⟩)=Ending.returned (qXK ⟨x,tyL u.text,0⟩);rw[HUU.o],?_⟩;exact jR (jR (jR (jR HW.o (Nat.le_add_right _ _) _) (Nat.le_add_right _ _) _) (Nat.le_add_right _ _) _) (Nat.le_add_right _ _) _
end Go.Proofs.YtiajhekdhhhghaaGreatDoor
