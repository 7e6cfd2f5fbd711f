/- Walks. -/
import Derived.Lib.BufferMore
import Derived.Test.YtiajhekdhhhghaaGreatDoorNaf
set_option linter.all false
set_option maxHeartbeats 8000000
set_option maxRecDepth 100000
namespace Go.Proofs.YtiajhekdhhhghaaGreatDoor
open Tryz Go.Proofs.Tryz
open Go Go.RowKit
theorem exp_num(k x:List UInt8)(m ln co:Int)(ks:List qQ)(hw:wfE (.mk k x m ln co ks)=true)(h1:(k == zD)=true):qXL (.mk k x m ln co ks):=by
 intro B L E v T w h hL hl;obtain⟨q,c,rfl,m3,f3,V⟩:=hl.kids;have J:=hI (XIn.new (T:=T) h hL hl);have g4:2 < w.1.size:=by
  obtain⟨gv,vv,Mg,Mo,Mr,F,o,cl,hE⟩:=h;exact qJ hE.d0
 obtain⟨hx,⟨d9,d8⟩,g5,d7⟩:=qQs hw;have f9:ks.length<=2:=by rcases d7 with⟨_,h⟩ | ⟨_,h⟩ | ⟨_,_,h⟩ <;> first | omega | simp[h]
 clear h hl V;obtain⟨R,U⟩:=T;have HP:=hI (qK3 E k x m ln co ks (R,U));have Z:=hI (show qQT E (.mk k x m ln co ks) (R,U)=(jQ (decide (((R,U):Ty)≠zO) && decide (qUl R U m=m)) (.mk k x m ln co ks) 41).bind fun _=>.ok (.mk zD (R,U) m 0 false ln co []) by rw[HP.o,h1];rfl);clear HP;simp only[qZ,tyV,qB,tyO,exO,qS,zD,qQ.kind,qQ.text,qQ.num,qQ.line,qQ.col,qQ.kids]at J ⊢;have d6:=hI (fun w'=>qQl (.mk k x m ln co ks) (.slice q ks.length c) 41 w');have d3:=hI (fun w'=>qQ5 (.mk k x m ln co ks) (.slice q ks.length c) 41 w');have d4:=hI (fun b w'=>qQk b (.mk k x m ln co ks) (.slice q ks.length c) 41 w');simp only[qZ,qQ.kind,qQ.text,qQ.num,qQ.line,qQ.col,qQ.kids]at d6 d3 d4;unfold zD at h1;go_enter func134,ntmps134
 go_wp2
 generalize ((((w.alloc _).alloc _).alloc _).alloc _)=W at *;obtain⟨J,X⟩:=J.o;have J:=hI J;have X:=hI X;obtain⟨j,G,s,C,A,z⟩:=J.o.nd.cells;have t0:=J.o.ty.c0;have I:=J.o.ty.c1;obtain⟨gv,vv,Mg,Mo,Mr,F,o,cl,hE⟩:=J.o.en;have d0:=hE.b0;have d1:=hE.b1;have g3:=J.o.sz;have f7:¬w.1.size+1+1+1=w.1.size+1+1:=by omega
 have hG:1 < W.1.size:=qJ d0;have d5:=hI (fun w' (hb:Below W.1.size W w')=>norm_any R U m w' (hE.wt.below hb) d9 d8);clear hE;by_cases hz:((R,U):Ty)=zO
 ·unfold zO at hz;injection hz with d2 hz2;subst d2 hz2;refine wRg (S:=fun w'=>Below W.1.size W w') 13 ?_;refine wTk 0 47 (.agg #[.int .i64 1, .bool false]) ?_ (bD W) ?_
  ·intro _ y;obtain⟨t0,I,d0,d1,j,G,s,C,A,z⟩:=kP10 y t0 I d0 d1 j G s C A z;go_simp
  refine wTk 1 48 (.agg #[.int .i64 1, .bool false]) ?_ (bD W) ?_
  ·intro _ y;obtain⟨t0,I,d0,d1,j,G,s,C,A,z⟩:=kP10 y t0 I d0 d1 j G s C A z;go_simp
  refine wTk 2 49 (.bool false) ?_ (bD W) ?_
  ·intro _ y;obtain⟨t0,I,d0,d1,j,G,s,C,A,z⟩:=kP10 y t0 I d0 d1 j G s C A z;go_simp
  refine wTk 3 50 (.bool false) ?_ (bD W) ?_
  ·intro _ y;obtain⟨t0,I,d0,d1,j,G,s,C,A,z⟩:=kP10 y t0 I d0 d1 j G s C A z;go_simp
  refine xG (i:=4) (d:=51) rfl rfl (by kernel_rfl) (fun _ _ _ h=>h) (by rfl) ((Below.refl W.1.size W).drew) ?_;try simp only[Act.put,pZa,pZb,pZc]
  refine xG (i:=5) (d:=52) rfl rfl (by kernel_rfl) (fun _ _ _ h=>h) (by rfl) ((Below.refl W.1.size W).drew) ?_;try simp only[Act.put,pZa,pZb,pZc]
  refine xG (i:=6) (d:=53) rfl rfl (by kernel_rfl) (fun _ _ _ h=>h) (by rfl) ((Below.refl W.1.size W).drew) ?_;try simp only[Act.put,pZa,pZb,pZc]
  refine xG (i:=7) (d:=54) rfl rfl (by kernel_rfl) (fun _ _ _ h=>h) (by rfl) ((Below.refl W.1.size W).drew) ?_;try simp only[Act.put,pZa,pZb,pZc]
  refine xG (i:=8) (d:=55) rfl rfl (by kernel_rfl) (fun _ _ _ h=>h) (by rfl) ((Below.refl W.1.size W).drew) ?_;try simp only[Act.put,pZa,pZb,pZc]
  refine xG (i:=9) (d:=56) rfl rfl (by kernel_rfl) (fun _ _ _ h=>h) (by rfl) ((Below.refl W.1.size W).drew) ?_;try simp only[Act.put,pZa,pZb,pZc]
  refine xG (i:=10) (d:=57) rfl rfl (by kernel_rfl) (fun _ _ _ h=>h) (by rfl) ((Below.refl W.1.size W).drew) ?_;try simp only[Act.put,pZa,pZb,pZc]
  refine wTk 11 58 (.bool false) ?_ (bD W) ?_
  ·intro _ y;obtain⟨t0,I,d0,d1,j,G,s,C,A,z⟩:=kP10 y t0 I d0 d1 j G s C A z;go_simp
  refine wTk 12 59 (.agg #[.string ⟨k.toArray⟩, .string ⟨x.toArray⟩, .int .u64 m, .int .i64 ln, .int .i64 co, .slice q ks.length c]) ?_ (bD W) ?_
  ·intro _ y;obtain⟨t0,I,d0,d1,j,G,s,C,A,z⟩:=kP10 y t0 I d0 d1 j G s C A z;go_simp
  refine wOn 13 fun K V=>?_
  go_simp;refine(d3.o _).mono ?_;rintro e w3 ⟨rfl,hb3⟩;exact⟨rfl,zP.badI (by rw[Z.o];rfl) ⟨rfl,J.o.bl.trans ((zF hb3).mono J.o.bl.size)⟩⟩
 ·skip
  refine wRg (S:=fun w'=>Below W.1.size W w') 13 ?_;refine wTk 0 47 (.agg #[.int .i64 R, .bool U]) ?_ (bD W) ?_
  ·intro _ y;obtain⟨t0,I,d0,d1,j,G,s,C,A,z⟩:=kP10 y t0 I d0 d1 j G s C A z;go_simp
  refine wTk 1 48 (.agg #[.int .i64 1, .bool false]) ?_ (bD W) ?_
  ·intro _ y;obtain⟨t0,I,d0,d1,j,G,s,C,A,z⟩:=kP10 y t0 I d0 d1 j G s C A z;go_simp
  refine wTk 2 49 (.bool true) ?_ (bD W) ?_
  ·intro _ y;clear y;by_cases d2:R=1
   ·subst d2;cases U
    ·exact absurd rfl hz
    ·go_simp
   ·go_simp
  refine wTk 3 50 (.bool true) ?_ (bD W) ?_
  ·intro _ y;obtain⟨t0,I,d0,d1,j,G,s,C,A,z⟩:=kP10 y t0 I d0 d1 j G s C A z;go_simp
  refine wTk 4 51 (.agg #[.int .i64 R, .bool U]) ?_ (bD W) ?_
  ·intro _ y;obtain⟨t0,I,d0,d1,j,G,s,C,A,z⟩:=kP10 y t0 I d0 d1 j G s C A z;go_simp
  refine wTk 5 52 (.pointer (some ⟨w.1.size,2,none⟩)) ?_ (bD W) ?_
  ·intro _ y;obtain⟨t0,I,d0,d1,j,G,s,C,A,z⟩:=kP10 y t0 I d0 d1 j G s C A z;go_simp
  refine wTk 6 53 (.int .u64 m) ?_ (bD W) ?_
  ·intro _ y;obtain⟨t0,I,d0,d1,j,G,s,C,A,z⟩:=kP10 y t0 I d0 d1 j G s C A z;go_simp
  refine wTk 8 55 (.pointer (some ⟨w.1.size,2,none⟩)) ?_ (bD W) ?_
  ·intro _ y;obtain⟨t0,I,d0,d1,j,G,s,C,A,z⟩:=kP10 y t0 I d0 d1 j G s C A z;go_simp
  refine wTk 9 56 (.int .u64 m) ?_ (bD W) ?_
  ·intro _ y;obtain⟨t0,I,d0,d1,j,G,s,C,A,z⟩:=kP10 y t0 I d0 d1 j G s C A z;go_simp
  refine wTk 12 59 (.agg #[.string ⟨k.toArray⟩, .string ⟨x.toArray⟩, .int .u64 m, .int .i64 ln, .int .i64 co, .slice q ks.length c]) ?_ (bD W) ?_
  ·intro _ y;obtain⟨t0,I,d0,d1,j,G,s,C,A,z⟩:=kP10 y t0 I d0 d1 j G s C A z;go_simp
  refine wOn 7 fun K V=>?_
  go_simp;refine(d5.o _ (Below.refl _ _).drew).mono ?_;rintro e w3 ⟨rfl,hb3⟩;have O:=zF hb3;refine kK V O ?_;clear V K;refine wOn 10 fun K V=>?_
  go_simp;refine kK V O ?_;clear V K;refine wOn 11 fun K V=>?_
  go_simp;refine kK V O ?_;clear V K;refine wOn 13 fun K V=>?_
  go_simp;refine(d4.o _ _).mono ?_;rintro e w4 (⟨hbt,rfl,hb4⟩ | ⟨hbt,rfl,hb4⟩);rotate_left
  ·refine⟨rfl,zP.badI (ln:=ln) (co:=co) (code:=41) ?_ ⟨rfl,J.o.bl.trans ((O.trans (hb4.mono O.size)).mono J.o.bl.size)⟩⟩;rw[Z.o,show decide (((R,U):Ty)≠zO)=true from decide_eq_true hz];simp at hbt;simp[jQ,CR.bind,hbt,qQ.line,qQ.col]
  refine kD V ?_;clear V K;refine wDn ?_ _;have HQ:=hI (show qQT E (.mk k x m ln co ks) (R,U)=.ok (.mk zD (R,U) m 0 false ln co []) by
   rw[Z.o,show decide (((R,U):Ty)≠zO)=true from decide_eq_true hz];simp at hbt;simp[jQ,CR.bind,hbt])
  have Y:=O.trans (hb4.mono O.size);have J:=hI (J.o.below Y);have X:=hI (X.o.below Y);clear j G s C A z t0 I d0 d1 hb3 O hb4 Y d6 d3 d4 d5 hbt;obtain⟨j,G,s,C,A,z⟩:=J.o.nd.cells;have⟨r0,r1,r2,r3,r4,r5,r6,r7,r8,_⟩:=J.o.rs.a;have⟨g9,m4,g8,f5,m2,m1,f4,g2,f6,_⟩:=J.o.rs.b;have xb:=X.o;unfold XB at xb;simp only[qQ.line,qQ.col,Nat.add_zero]at xb;have⟨x0,x1,x2,x3,x4,x5,x6,x7,x8,_⟩:=xb.a;have⟨m5,g1,m0,g0,g7,m7,m6,f8,g6,_⟩:=xb.b;clear xb;have rl:=J.o.rs.lt;have xl:=X.o.lt;go_wp2
  refine bodyPost_ret (v:=exV (.mk zD (R,U) m 0 false ln co []) (.slice none 0 0)) (by simp[results,results134,go_sem,exV,zD,r0,r1,r2,r3,r4,r5,r6,r7,r8,rl]) rfl (zP.okI HQ.o ⟨_,rfl,?_⟩ ?_)
  ·exact qU.mono (qU.set9 (qU.setN (qU.nil _ (fun g=>w.1.size+4<=g)) (by omega) _) (by omega) _ _ _ _ _ _ _ _ _) (fun g hg=>by omega)
  ·exact set9 (jR J.o.bl (by omega) _) (by omega) _ _ _ _ _ _ _ _ _
theorem exp_name(k x:List UInt8)(m ln co:Int)(ks:List qQ)(hw:wfE (.mk k x m ln co ks)=true)(hrec:∀ u∈ks,qXL u)(h1:(k == zD)=false)(h2:(k == zL || k == qH)=false)(h3:(k == zM || k == qL)=true):qXL (.mk k x m ln co ks):=by
 intro B L E v T w h hL hl;obtain⟨q,c,rfl,s3,r9,hK⟩:=hl.kids;have HX:=hI (XIn.new (T:=T) h hL hl);have s1:2 < w.1.size:=by
  obtain⟨gv,vv,Mg,Mo,Mr,F,o,cl,hE⟩:=h;exact qJ hE.d0
 obtain⟨hx,⟨s4,s2⟩,m6,m5⟩:=qQs hw;have s0:ks.length<=2:=by rcases m5 with⟨_,h⟩ | ⟨_,h⟩ | ⟨_,_,h⟩ <;> first | omega | simp[h]
 clear h hl hK;obtain⟨T0,T1⟩:=T;have HP:=hI (qK3 E k x m ln co ks (T0,T1));have m1:=hI (show qQT E (.mk k x m ln co ks) (T0,T1)=(qQ1 E (.mk k x m ln co ks)).bind fun p=>(jQ (decide (p.ty=(T0,T1))) (.mk k x m ln co ks) 41).bind fun _=>(qQL E ks).bind fun es=>.ok (p.withKids es) by
  rw[HP.o,h1,h2,h3];simp only[bF,if_false,if_true,reduceIte];congr 1
  funext p
  congr 1
  funext _
  unfold qQL;split
  ·rfl
  ·rename_i h0;obtain⟨u,r,rfl⟩:∃ u r,ks=u :: r:=by cases ks with | nil=>simp at h0 | cons u r=>exact⟨u,r,rfl⟩
   simp only[CR.bind_assoc,List.headD_cons])
 have g6:=hI (qUq B E (.mk k x m ln co ks) (.slice q ks.length c) _ HX.o.1.en hx);have m2:=hI hrec;have m7:=hI m6;clear HP hrec m6 m5;simp only[Bool.or_eq_false_iff]at h2;obtain⟨p0,p4⟩:=h2;simp only[qZ,tyV,qB,tyO,exO,qS,zD,qQ.kind,qQ.text,qQ.num,qQ.line,qQ.col,qQ.kids]at HX ⊢;have g8:=hI (fun w'=>qQl (.mk k x m ln co ks) (.slice q ks.length c) 41 w');have m0:=hI (fun w'=>qQ5 (.mk k x m ln co ks) (.slice q ks.length c) 41 w');have m4:=hI (fun b w'=>qQk b (.mk k x m ln co ks) (.slice q ks.length c) 41 w');simp only[qZ,qQ.kind,qQ.text,qQ.num,qQ.line,qQ.col,qQ.kids]at g8 m0 m4;simp only[qZ,qB,tyO,exO,qS,zD,qQ.kind,qQ.text,qQ.num,qQ.line,qQ.col,qQ.kids]at g6;unfold zD at h1;unfold zL at p0;unfold qH at p4;unfold zM qL at h3;cases h4:(k == [110,97,109,101]);case false =>
  simp only[h4,bO,bU]at h3;go_enter func134,ntmps134
  go_wp2_with fail
  generalize ((((w.alloc _).alloc _).alloc _).alloc _)=W at *;obtain⟨HX,d2⟩:=HX.o;have HX:=hI HX;have d2:=hI d2;refine(g6.o).mono ?_;rintro e w2 hX;rcases hX.cases with⟨a,u,hp,rfl,rfl,d7⟩ | ⟨l',c',code,hp,rfl,d7⟩;rotate_left
  ·exact⟨rfl,zP.badI (by rw[m1.o,hp];rfl) ⟨rfl,HX.o.bl.trans (d7.mono HX.o.bl.size)⟩⟩
  obtain⟨d3,⟨Z,U⟩,an,av,ag,al,ac,ak⟩:=a;obtain⟨rfl,rfl,rfl⟩:al=ln/\ac=co/\ak=[]:=by
   unfold qQ1 at hp;cases hf:qZD E (.mk k x m ln co ks)with
   | bad _ _ _=>rw[hf]at hp;cases hp
   | ok r =>
    rw[hf]at hp;simp only[CR.bind,jQ]at hp;split at hp
    ·simp only[qQ.line,qQ.col,CR.ok.injEq,Ex.mk.injEq]at hp;exact⟨hp.2.2.2.2.2.1.symm,hp.2.2.2.2.2.2.1.symm,hp.2.2.2.2.2.2.2.symm⟩
    ·cases hp
  unfold exV;have g9:=hI (m1.o.trans (by rw[hp];rfl:_=(jQ (decide (((Z,U):Ty)=(T0,T1))) (.mk k x m al ac ks) 41).bind fun _=>(qQL E ks).bind fun es=>.ok (.mk d3 (Z,U) an av ag al ac es)));have d6:=hI (HX.o.below d7);have d9:=hI (d2.o.below d7);have p2:=d7.size;clear hX g6 hp d7 HX d2;obtain⟨s,I,z,G,C,A⟩:=d6.o.nd.cells;have t0:=d6.o.ty.c0;have Y:=d6.o.ty.c1;have X:=d9.o;unfold XB at X;simp only[qQ.line,qQ.col,Nat.add_zero]at X;have⟨J,O,R,x3,x4,x5,x6,x7,x8,_⟩:=X.a;have⟨g1,f6,f9,f5,f8,g0,g2,f4,f7,_⟩:=X.b;clear X;have p3:=d6.o.sz;have n9:¬w.1.size+1+1+1=w.1.size+1+1:=by omega
  go_wp2
  have d4:=hI (d6.o.turn (set9 (N:=w.1.size+1+1+1) (Below.refl (w.1.size+3) w2) (by omega) (.string ⟨d3.toArray⟩) (.int .i64 Z) (.bool U) (.int .u64 an) (.int .i64 av) (.bool ag) (.int .i64 al) (.int .i64 ac) (.slice none 0 0)));have d5:=hI (XB.set9 (op':=d3) (T':=(Z,U)) (n':=an) (va':=av) (g':=ag) (kv':=.slice none 0 0) d9.o);simp only[qQ.line,qQ.col]at d5;clear s I z G C A t0 Y J O R x3 x4 x5 x6 x7 x8 g1 f6 f9 f5 f8 g0 g2 f4 f7 d6 d9;generalize (World.setCell (World.setCell (World.setCell (World.setCell (World.setCell (World.setCell (World.setCell (World.setCell (World.setCell w2 ⟨w.1.size+1+1+1,0,none⟩ (.string ⟨d3.toArray⟩)) ⟨w.1.size+1+1+1,1,none⟩ (.int .i64 Z)) ⟨w.1.size+1+1+1,2,none⟩ (.bool U)) ⟨w.1.size+1+1+1,3,none⟩ (.int .u64 an)) ⟨w.1.size+1+1+1,4,none⟩ (.int .i64 av)) ⟨w.1.size+1+1+1,5,none⟩ (.bool ag)) ⟨w.1.size+1+1+1,6,none⟩ (.int .i64 al)) ⟨w.1.size+1+1+1,7,none⟩ (.int .i64 ac)) ⟨w.1.size+1+1+1,8,none⟩ (.slice none 0 0))=V at *;obtain⟨s,I,z,G,C,A⟩:=d4.o.nd.cells;have t0:=d4.o.ty.c0;have Y:=d4.o.ty.c1;have X:=d5.o;unfold XB at X;simp only[qQ.line,qQ.col,Nat.add_zero]at X;have⟨J,O,R,x3,x4,x5,x6,x7,x8,_⟩:=X.a;have⟨g1,f6,f9,f5,f8,g0,g2,f4,f7,_⟩:=X.b;clear X;by_cases hz:((Z,U):Ty)=(T0,T1)
  ·injection hz with f3 hz2;subst f3 hz2;refine wRg (S:=fun w'=>Below V.1.size V w') 5 ?_;refine wTk 0 82 (.pointer (some ⟨w.1.size+1+1+1,1,none⟩)) ?_ (bD V) ?_
   ·intro _ y;go_simp
   refine wTk 1 83 (.agg #[.int .i64 Z, .bool U]) ?_ (bD V) ?_
   ·intro _ y;obtain⟨t0,Y,J,O,R,s,I,z,G,C,A⟩:=kP11 y t0 Y J O R s I z G C A;go_simp
   refine wTk 2 84 (.agg #[.int .i64 Z, .bool U]) ?_ (bD V) ?_
   ·intro _ y;obtain⟨t0,Y,J,O,R,s,I,z,G,C,A⟩:=kP11 y t0 Y J O R s I z G C A;go_simp
   refine wTk 3 85 (.bool true) ?_ (bD V) ?_
   ·intro _ y;obtain⟨t0,Y,J,O,R,s,I,z,G,C,A⟩:=kP11 y t0 Y J O R s I z G C A;go_simp
   refine wTk 4 86 (.agg #[.string ⟨k.toArray⟩, .string ⟨x.toArray⟩, .int .u64 m, .int .i64 al, .int .i64 ac, .slice q ks.length c]) ?_ (bD V) ?_
   ·intro _ y;obtain⟨t0,Y,J,O,R,s,I,z,G,C,A⟩:=kP11 y t0 Y J O R s I z G C A;go_simp
   refine wOn 5 fun K hK=>?_
   go_simp;refine(g8.o _).mono ?_;rintro e w4 ⟨rfl,hb4⟩;refine kD hK ?_;clear hK K;refine wDn ?_ _;have g4:=zF hb4;have j:=hI (d4.o.below g4);have g3:=hI (d5.o.below g4);have g7:=hI (g9.o.trans (by rw[show decide (((Z,U):Ty)=(Z,U))=true from decide_eq_true rfl];rfl:_=(qQL E ks).bind fun es=>.ok (.mk d3 (Z,U) an av ag al ac es)));have g5:=j.o.kids;have HI:=hI (qVE B L E ks q c w4 m7.o m2.o j.o.en (by have:=j.o.bl.size;have:=j.o.hL;omega) g5 (by omega));clear s I z G C A t0 Y J O R x3 x4 x5 x6 x7 x8 g1 f6 f9 f5 f8 g0 g2 f4 f7 hb4 g4 d4 d5 g8 m0 m4 g5;obtain⟨s,I,z,G,C,A⟩:=j.o.nd.cells;go_wp2_with fail
   refine(HI.o).mono ?_;rintro e w5 hX;rcases hX.cases with⟨es,u,hp,rfl,d8,hb5⟩ | ⟨l',c',code,hp,rfl,hb5⟩;rotate_left
   ·exact⟨rfl,zP.badI (by rw[g7.o,hp];rfl) ⟨rfl,j.o.bl.trans (hb5.mono j.o.bl.size)⟩⟩
   obtain⟨uq,uc,rfl⟩:=d8.shape;have HQ:=hI (g7.o.trans (by rw[hp];rfl:_=.ok (.mk d3 (Z,U) an av ag al ac es)));have n8:=j.o.sz;have m3:=hI (d8.mono (ok':=fun g=>w.1.size+4<=g) (fun g hg=>by omega));have HX:=hI (j.o.below hb5);have d2:=hI (g3.o.below hb5);clear s I z G C A hX hp d8 hb5 HI j g3;have⟨r0,r1,r2,r3,r4,r5,r6,r7,r8,_⟩:=HX.o.rs.a;have⟨p6,p9,p5,n6,p8,p7,m9,p1,n7,_⟩:=HX.o.rs.b;have X:=d2.o;unfold XB at X;simp only[qQ.line,qQ.col,Nat.add_zero]at X;have⟨J,O,R,x3,x4,x5,x6,x7,x8,_⟩:=X.a;have⟨g1,f6,f9,f5,f8,g0,g2,f4,f7,_⟩:=X.b;clear X;have rl:=HX.o.rs.lt;have xl:=d2.o.lt;go_wp2
   refine bodyPost_ret (v:=exV (.mk d3 (Z,U) an av ag al ac es) (.slice uq es.length uc)) (by simp[results,results134,go_sem,exV,r0,r1,r2,r3,r4,r5,r6,r7,r8,rl]) rfl (zP.okI HQ.o ⟨_,rfl,?_⟩ ?_)
   ·exact qU.mono (qU.set9 (qU.setN m3.o (by omega) _) (by omega) _ _ _ _ _ _ _ _ _) (fun g hg=>by omega)
   ·exact set9 (jR HX.o.bl (by omega) _) (by omega) _ _ _ _ _ _ _ _ _
  ·skip
   refine wRg (S:=fun w'=>Below V.1.size V w') 5 ?_;refine wTk 0 82 (.pointer (some ⟨w.1.size+1+1+1,1,none⟩)) ?_ (bD V) ?_
   ·intro _ y;go_simp
   refine wTk 1 83 (.agg #[.int .i64 Z, .bool U]) ?_ (bD V) ?_
   ·intro _ y;obtain⟨t0,Y,J,O,R,s,I,z,G,C,A⟩:=kP11 y t0 Y J O R s I z G C A;go_simp
   refine wTk 2 84 (.agg #[.int .i64 T0, .bool T1]) ?_ (bD V) ?_
   ·intro _ y;obtain⟨t0,Y,J,O,R,s,I,z,G,C,A⟩:=kP11 y t0 Y J O R s I z G C A;go_simp
   refine wTk 3 85 (.bool false) ?_ (bD V) ?_
   ·intro _ y;clear y;by_cases f3:Z=T0
    ·have hz2:¬U=T1:=fun e=>hz (by rw[f3,e])
     subst f3;cases U <;> cases T1 <;> first | exact absurd rfl hz2 | go_simp
    ·go_simp
   refine wTk 4 86 (.agg #[.string ⟨k.toArray⟩, .string ⟨x.toArray⟩, .int .u64 m, .int .i64 al, .int .i64 ac, .slice q ks.length c]) ?_ (bD V) ?_
   ·intro _ y;obtain⟨t0,Y,J,O,R,s,I,z,G,C,A⟩:=kP11 y t0 Y J O R s I z G C A;go_simp
   refine wOn 5 fun K hK=>?_
   go_simp;refine(m0.o _).mono ?_;rintro e w4 ⟨rfl,hb4⟩;exact⟨rfl,zP.badI (by rw[g9.o,show decide (((Z,U):Ty)=(T0,T1))=false from decide_eq_false hz];rfl) ⟨rfl,d4.o.bl.trans ((zF hb4).mono d4.o.bl.size)⟩⟩
 case true =>
  simp only[h4,bO,bU]at h3;go_enter func134,ntmps134
  go_wp2_with fail
  generalize ((((w.alloc _).alloc _).alloc _).alloc _)=W at *;obtain⟨HX,d2⟩:=HX.o;have HX:=hI HX;have d2:=hI d2;refine(g6.o).mono ?_;rintro e w2 hX;rcases hX.cases with⟨a,u,hp,rfl,rfl,d7⟩ | ⟨l',c',code,hp,rfl,d7⟩;rotate_left
  ·exact⟨rfl,zP.badI (by rw[m1.o,hp];rfl) ⟨rfl,HX.o.bl.trans (d7.mono HX.o.bl.size)⟩⟩
  obtain⟨d3,⟨Z,U⟩,an,av,ag,al,ac,ak⟩:=a;obtain⟨rfl,rfl,rfl⟩:al=ln/\ac=co/\ak=[]:=by
   unfold qQ1 at hp;cases hf:qZD E (.mk k x m ln co ks)with
   | bad _ _ _=>rw[hf]at hp;cases hp
   | ok r =>
    rw[hf]at hp;simp only[CR.bind,jQ]at hp;split at hp
    ·simp only[qQ.line,qQ.col,CR.ok.injEq,Ex.mk.injEq]at hp;exact⟨hp.2.2.2.2.2.1.symm,hp.2.2.2.2.2.2.1.symm,hp.2.2.2.2.2.2.2.symm⟩
    ·cases hp
  unfold exV;have g9:=hI (m1.o.trans (by rw[hp];rfl:_=(jQ (decide (((Z,U):Ty)=(T0,T1))) (.mk k x m al ac ks) 41).bind fun _=>(qQL E ks).bind fun es=>.ok (.mk d3 (Z,U) an av ag al ac es)));have d6:=hI (HX.o.below d7);have d9:=hI (d2.o.below d7);have p2:=d7.size;clear hX g6 hp d7 HX d2;obtain⟨s,I,z,G,C,A⟩:=d6.o.nd.cells;have t0:=d6.o.ty.c0;have Y:=d6.o.ty.c1;have X:=d9.o;unfold XB at X;simp only[qQ.line,qQ.col,Nat.add_zero]at X;have⟨J,O,R,x3,x4,x5,x6,x7,x8,_⟩:=X.a;have⟨g1,f6,f9,f5,f8,g0,g2,f4,f7,_⟩:=X.b;clear X;have p3:=d6.o.sz;have n9:¬w.1.size+1+1+1=w.1.size+1+1:=by omega
  go_wp2
  have d4:=hI (d6.o.turn (set9 (N:=w.1.size+1+1+1) (Below.refl (w.1.size+3) w2) (by omega) (.string ⟨d3.toArray⟩) (.int .i64 Z) (.bool U) (.int .u64 an) (.int .i64 av) (.bool ag) (.int .i64 al) (.int .i64 ac) (.slice none 0 0)));have d5:=hI (XB.set9 (op':=d3) (T':=(Z,U)) (n':=an) (va':=av) (g':=ag) (kv':=.slice none 0 0) d9.o);simp only[qQ.line,qQ.col]at d5;clear s I z G C A t0 Y J O R x3 x4 x5 x6 x7 x8 g1 f6 f9 f5 f8 g0 g2 f4 f7 d6 d9;generalize (World.setCell (World.setCell (World.setCell (World.setCell (World.setCell (World.setCell (World.setCell (World.setCell (World.setCell w2 ⟨w.1.size+1+1+1,0,none⟩ (.string ⟨d3.toArray⟩)) ⟨w.1.size+1+1+1,1,none⟩ (.int .i64 Z)) ⟨w.1.size+1+1+1,2,none⟩ (.bool U)) ⟨w.1.size+1+1+1,3,none⟩ (.int .u64 an)) ⟨w.1.size+1+1+1,4,none⟩ (.int .i64 av)) ⟨w.1.size+1+1+1,5,none⟩ (.bool ag)) ⟨w.1.size+1+1+1,6,none⟩ (.int .i64 al)) ⟨w.1.size+1+1+1,7,none⟩ (.int .i64 ac)) ⟨w.1.size+1+1+1,8,none⟩ (.slice none 0 0))=V at *;obtain⟨s,I,z,G,C,A⟩:=d4.o.nd.cells;have t0:=d4.o.ty.c0;have Y:=d4.o.ty.c1;have X:=d5.o;unfold XB at X;simp only[qQ.line,qQ.col,Nat.add_zero]at X;have⟨J,O,R,x3,x4,x5,x6,x7,x8,_⟩:=X.a;have⟨g1,f6,f9,f5,f8,g0,g2,f4,f7,_⟩:=X.b;clear X;by_cases hz:((Z,U):Ty)=(T0,T1)
  ·injection hz with f3 hz2;subst f3 hz2;refine wRg (S:=fun w'=>Below V.1.size V w') 5 ?_;refine wTk 0 82 (.pointer (some ⟨w.1.size+1+1+1,1,none⟩)) ?_ (bD V) ?_
   ·intro _ y;go_simp
   refine wTk 1 83 (.agg #[.int .i64 Z, .bool U]) ?_ (bD V) ?_
   ·intro _ y;obtain⟨t0,Y,J,O,R,s,I,z,G,C,A⟩:=kP11 y t0 Y J O R s I z G C A;go_simp
   refine wTk 2 84 (.agg #[.int .i64 Z, .bool U]) ?_ (bD V) ?_
   ·intro _ y;obtain⟨t0,Y,J,O,R,s,I,z,G,C,A⟩:=kP11 y t0 Y J O R s I z G C A;go_simp
   refine wTk 3 85 (.bool true) ?_ (bD V) ?_
   ·intro _ y;obtain⟨t0,Y,J,O,R,s,I,z,G,C,A⟩:=kP11 y t0 Y J O R s I z G C A;go_simp
   refine wTk 4 86 (.agg #[.string ⟨k.toArray⟩, .string ⟨x.toArray⟩, .int .u64 m, .int .i64 al, .int .i64 ac, .slice q ks.length c]) ?_ (bD V) ?_
   ·intro _ y;obtain⟨t0,Y,J,O,R,s,I,z,G,C,A⟩:=kP11 y t0 Y J O R s I z G C A;go_simp
   refine wOn 5 fun K hK=>?_
   go_simp;refine(g8.o _).mono ?_;rintro e w4 ⟨rfl,hb4⟩;refine kD hK ?_;clear hK K;refine wDn ?_ _;have g4:=zF hb4;have j:=hI (d4.o.below g4);have g3:=hI (d5.o.below g4);have g7:=hI (g9.o.trans (by rw[show decide (((Z,U):Ty)=(Z,U))=true from decide_eq_true rfl];rfl:_=(qQL E ks).bind fun es=>.ok (.mk d3 (Z,U) an av ag al ac es)));have g5:=j.o.kids;have HI:=hI (qVE B L E ks q c w4 m7.o m2.o j.o.en (by have:=j.o.bl.size;have:=j.o.hL;omega) g5 (by omega));clear s I z G C A t0 Y J O R x3 x4 x5 x6 x7 x8 g1 f6 f9 f5 f8 g0 g2 f4 f7 hb4 g4 d4 d5 g8 m0 m4 g5;obtain⟨s,I,z,G,C,A⟩:=j.o.nd.cells;go_wp2_with fail
   refine(HI.o).mono ?_;rintro e w5 hX;rcases hX.cases with⟨es,u,hp,rfl,d8,hb5⟩ | ⟨l',c',code,hp,rfl,hb5⟩;rotate_left
   ·exact⟨rfl,zP.badI (by rw[g7.o,hp];rfl) ⟨rfl,j.o.bl.trans (hb5.mono j.o.bl.size)⟩⟩
   obtain⟨uq,uc,rfl⟩:=d8.shape;have HQ:=hI (g7.o.trans (by rw[hp];rfl:_=.ok (.mk d3 (Z,U) an av ag al ac es)));have n8:=j.o.sz;have m3:=hI (d8.mono (ok':=fun g=>w.1.size+4<=g) (fun g hg=>by omega));have HX:=hI (j.o.below hb5);have d2:=hI (g3.o.below hb5);clear s I z G C A hX hp d8 hb5 HI j g3;have⟨r0,r1,r2,r3,r4,r5,r6,r7,r8,_⟩:=HX.o.rs.a;have⟨p6,p9,p5,n6,p8,p7,m9,p1,n7,_⟩:=HX.o.rs.b;have X:=d2.o;unfold XB at X;simp only[qQ.line,qQ.col,Nat.add_zero]at X;have⟨J,O,R,x3,x4,x5,x6,x7,x8,_⟩:=X.a;have⟨g1,f6,f9,f5,f8,g0,g2,f4,f7,_⟩:=X.b;clear X;have rl:=HX.o.rs.lt;have xl:=d2.o.lt;go_wp2
   refine bodyPost_ret (v:=exV (.mk d3 (Z,U) an av ag al ac es) (.slice uq es.length uc)) (by simp[results,results134,go_sem,exV,r0,r1,r2,r3,r4,r5,r6,r7,r8,rl]) rfl (zP.okI HQ.o ⟨_,rfl,?_⟩ ?_)
   ·exact qU.mono (qU.set9 (qU.setN m3.o (by omega) _) (by omega) _ _ _ _ _ _ _ _ _) (fun g hg=>by omega)
   ·exact set9 (jR HX.o.bl (by omega) _) (by omega) _ _ _ _ _ _ _ _ _
  ·skip
   refine wRg (S:=fun w'=>Below V.1.size V w') 5 ?_;refine wTk 0 82 (.pointer (some ⟨w.1.size+1+1+1,1,none⟩)) ?_ (bD V) ?_
   ·intro _ y;go_simp
   refine wTk 1 83 (.agg #[.int .i64 Z, .bool U]) ?_ (bD V) ?_
   ·intro _ y;obtain⟨t0,Y,J,O,R,s,I,z,G,C,A⟩:=kP11 y t0 Y J O R s I z G C A;go_simp
   refine wTk 2 84 (.agg #[.int .i64 T0, .bool T1]) ?_ (bD V) ?_
   ·intro _ y;obtain⟨t0,Y,J,O,R,s,I,z,G,C,A⟩:=kP11 y t0 Y J O R s I z G C A;go_simp
   refine wTk 3 85 (.bool false) ?_ (bD V) ?_
   ·intro _ y;clear y;by_cases f3:Z=T0
    ·have hz2:¬U=T1:=fun e=>hz (by rw[f3,e])
     subst f3;cases U <;> cases T1 <;> first | exact absurd rfl hz2 | go_simp
    ·go_simp
   refine wTk 4 86 (.agg #[.string ⟨k.toArray⟩, .string ⟨x.toArray⟩, .int .u64 m, .int .i64 al, .int .i64 ac, .slice q ks.length c]) ?_ (bD V) ?_
   ·intro _ y;obtain⟨t0,Y,J,O,R,s,I,z,G,C,A⟩:=kP11 y t0 Y J O R s I z G C A;go_simp
   refine wOn 5 fun K hK=>?_
   go_simp;refine(m0.o _).mono ?_;rintro e w4 ⟨rfl,hb4⟩;exact⟨rfl,zP.badI (by rw[g9.o,show decide (((Z,U):Ty)=(T0,T1))=false from decide_eq_false hz];rfl) ⟨rfl,d4.o.bl.trans ((zF hb4).mono d4.o.bl.size)⟩⟩
theorem exp_cast(k x:List UInt8)(m ln co:Int)(ks:List qQ)(hw:wfE (.mk k x m ln co ks)=true)(hrec:∀ u∈ks,qXL u)(h1:(k == zD)=false)(h2:(k == zL || k == qH)=false)(h3:(k == zM || k == qL)=false)(h5:(k == zK)=true):qXL (.mk k x m ln co ks):=by
 intro B L E v T w h hL hl;obtain⟨q,c,rfl,p7,g6,j⟩:=hl.kids;have z:=hI (XIn.new (T:=T) h hL hl);have m9:2 < w.1.size:=by
  obtain⟨gv,vv,Mg,Mo,Mr,F,o,cl,hE⟩:=h;exact qJ hE.d0
 obtain⟨hx,⟨p9,n6⟩,f5,f4⟩:=qQs hw;have m3:ks.length<=2:=by rcases f4 with⟨_,h⟩ | ⟨_,h⟩ | ⟨_,_,h⟩ <;> first | omega | simp[h]
 clear h hl j;obtain⟨T0,T1⟩:=T;have HP:=hI (qK3 E k x m ln co ks (T0,T1));have d6:=hI (show qQT E (.mk k x m ln co ks) (T0,T1)=(jQ (decide (tyL x=(T0,T1))) (.mk k x m ln co ks) 41).bind fun _=>(yB E ks).bind fun u=>(vD E ks u).bind fun es=>.ok (.mk zK (T0,T1) 0 0 false ln co es) by rw[HP.o,h1,h2,h3,h5];rfl);have Y:=hI (fun w' (hb:Below w.1.size w w')=>(qKd (.mk k x m ln co ks) (.slice q ks.length c) w' (by obtain⟨gv,vv,Mg,Mo,Mr,F,o,cl,hE⟩:=z.o.1.e0;exact hE.wt.below hb)));have f6:=hI hrec;have g4:=hI f5;clear HP hrec f5 f4;simp only[Bool.or_eq_false_iff]at h2 h3;obtain⟨g0,g2⟩:=h2;obtain⟨f9,g3⟩:=h3;simp only[qZ,tyV,qB,tyO,exO,qS,zD,qQ.kind,qQ.text,qQ.num,qQ.line,qQ.col,qQ.kids]at z ⊢;have d7:=hI (fun w'=>qQl (.mk k x m ln co ks) (.slice q ks.length c) 41 w');have d8:=hI (fun w'=>qQ5 (.mk k x m ln co ks) (.slice q ks.length c) 41 w');simp only[qZ,qQ.kind,qQ.text,qQ.num,qQ.line,qQ.col,qQ.kids]at d7 d8;simp only[qZ,qQ.kind,qQ.text,qQ.num,qQ.line,qQ.col,qQ.kids]at Y;generalize hU:tyL x=U at *;obtain⟨U0,U1⟩:=U;unfold tyV at Y;simp only at Y;unfold zD at h1;unfold zL at g0;unfold qH at g2;unfold zM at f9;unfold qL at g3;unfold zK at h5;go_enter func134,ntmps134
 go_wp2
 generalize ((((w.alloc _).alloc _).alloc _).alloc _)=W at *;obtain⟨z,G⟩:=z.o;have z:=hI z;have G:=hI G;obtain⟨I,X,O,V,R,A⟩:=z.o.nd.cells;have t0:=z.o.ty.c0;have t1:=z.o.ty.c1;have m7:=z.o.sz;have m1:¬w.1.size+1+1+1=w.1.size+1+1:=by omega
 by_cases hz:((U0,U1):Ty)=(T0,T1)
 ·injection hz with d5 hz2;subst d5 hz2;refine wRg (S:=fun w'=>Below W.1.size W w') 5 ?_;refine wTk 0 95 (.agg #[.string ⟨k.toArray⟩, .string ⟨x.toArray⟩, .int .u64 m, .int .i64 ln, .int .i64 co, .slice q ks.length c]) ?_ (bD W) ?_
  ·intro _ y;obtain⟨t0,t1,I,X,O,V,R,A⟩:=kP8 y t0 t1 I X O V R A;go_simp
  refine wTk 2 97 (.agg #[.int .i64 U0, .bool U1]) ?_ (bD W) ?_
  ·intro _ y;obtain⟨t0,t1,I,X,O,V,R,A⟩:=kP8 y t0 t1 I X O V R A;go_simp
  refine wTk 4 99 (.agg #[.string ⟨k.toArray⟩, .string ⟨x.toArray⟩, .int .u64 m, .int .i64 ln, .int .i64 co, .slice q ks.length c]) ?_ (bD W) ?_
  ·intro _ y;obtain⟨t0,t1,I,X,O,V,R,A⟩:=kP8 y t0 t1 I X O V R A;go_simp
  refine wOn 1 fun K j=>?_
  go_simp;refine(Y.o _ z.o.bl.drew).mono ?_;rintro e w3 ⟨rfl,hb3⟩;have s:=zF hb3;refine kK j s ?_;clear j K;refine wTk 3 98 (.bool true) ?_ (s) ?_
  ·intro _ y;go_simp
  refine wOn 5 fun K j=>?_
  go_simp;refine(d7.o _).mono ?_;rintro e w4 ⟨rfl,hb4⟩;refine kD j ?_;clear j K;refine wDn ?_ _;have d4:=s.trans (hb4.mono s.size);have C:=hI (z.o.below d4);have f7:=hI (G.o.below d4);have d9:=hI (d6.o.trans (by rw[show decide (((U0,U1):Ty)=(U0,U1))=true from decide_eq_true rfl];rfl:_=(yB E ks).bind fun u=>(vD E ks u).bind fun es=>.ok (.mk zK (U0,U1) 0 0 false ln co es)));have g5:=C.o.sz;have p3:=C.o.hL;clear I X O V R A t0 t1 hb3 hb4 s d4 z G d7 d8 Y d6;obtain⟨I,X,O,V,R,A⟩:=C.o.nd.cells;go_wp2
  refine wW (S:=fun w'=>Below (w.1.size+3) w4 w') (tail:=fun _=>false) (by kernel_rfl) ?_;change vR _ _ _ _ _ _ _ _ _ (World.drew _);refine wTk 0 101 (.pointer (some ⟨B,0,none⟩)) ?_ ((Below.refl (w.1.size+3) w4).drew) ?_
  ·intro _ y;go_simp
  refine wTk 1 102 (.pointer (some ⟨w.1.size,5,none⟩)) ?_ ((Below.refl (w.1.size+3) w4).drew) ?_
  ·intro _ y;go_simp
  refine wTk 2 103 (.slice q ks.length c) ?_ ((Below.refl (w.1.size+3) w4).drew) ?_
  ·intro _ y;have A:=(y.cell (p:=⟨_,_,none⟩) (by simp)).trans A;go_simp
  refine wTk 3 104 (.pointer (some ⟨B,0,none⟩)) ?_ ((Below.refl (w.1.size+3) w4).drew) ?_
  ·intro _ y;go_simp
  refine wTk 4 105 (.pointer (some ⟨w.1.size,5,none⟩)) ?_ ((Below.refl (w.1.size+3) w4).drew) ?_
  ·intro _ y;go_simp
  refine wTk 5 106 (.slice q ks.length c) ?_ ((Below.refl (w.1.size+3) w4).drew) ?_
  ·intro _ y;have A:=(y.cell (p:=⟨_,_,none⟩) (by simp)).trans A;go_simp
  refine wTk 8 109 (.pointer (some ⟨w.1.size+1+1+1,0,none⟩)) ?_ ((Below.refl (w.1.size+3) w4).drew) ?_
  ·intro _ y;go_simp
  refine wOn 6 fun K j=>?_
  go_simp;refine(qKD B L E ks q c _ (qJV ks g4.o) C.o.en.drew (by simp;omega) (C.o.kids.keep (Below.refl _ _).drew) (by omega)).mono ?_;rintro e w5 hX;rcases hX.cases with⟨⟨V0,V1⟩,u,hp,rfl,rfl,hb5⟩ | ⟨l',c',code,hp,rfl,hb5⟩;rotate_left
  ·exact⟨rfl,zP.badI (by rw[d9.o,hp];rfl) ⟨rfl,C.o.bl.trans ((zF hb5).mono C.o.bl.size)⟩⟩
  have hb5:=zF hb5;have d3:=hI (C.o.below hb5);have f3:=hI (f7.o.below hb5);have m0:=hb5.size;have f8:=hI (d9.o.trans (by rw[hp];rfl:_=(vD E ks (V0,V1)).bind fun es=>.ok (.mk zK (U0,U1) 0 0 false ln co es)));unfold tyV;clear hX hp;refine kK j (hb5.mono (by omega)) ?_;clear j K;refine wOn 7 fun K j=>?_
  go_simp;refine(qZs B L E ks q c (V0,V1) _ f6.o d3.o.en (by omega) d3.o.kids (by omega)).mono ?_;rintro e w6 hX;rcases hX.cases with⟨es,u,hp,rfl,d2,Z⟩ | ⟨l',c',code,hp,rfl,Z⟩;rotate_left
  ·exact⟨rfl,zP.badI (by rw[f8.o,hp];rfl) ⟨rfl,d3.o.bl.trans (Z.mono d3.o.bl.size)⟩⟩
  obtain⟨uq,uc,rfl⟩:=d2.shape;have z:=hI (d3.o.below Z);have G:=hI (f3.o.below Z);have p1:=Z.size;have HQ:=hI (f8.o.trans (by rw[hp];rfl:_=.ok (.mk zK (U0,U1) 0 0 false ln co es)));have g1:=hI (d2.mono (ok':=fun g=>w.1.size+4<=g) (fun g hg=>by omega));have J:Below (w.1.size+3) w4 w6:=(hb5.mono (by omega)).trans (Z.mono (by omega));clear hX hp d2;have⟨r0,r1,r2,r3,r4,r5,r6,r7,r8,_⟩:=z.o.rs.a;have⟨p0,p8,n9,g8,p6,p4,g7,m6,g9,_⟩:=z.o.rs.b;have xb:=G.o;unfold XB at xb;simp only[qQ.line,qQ.col,Nat.add_zero]at xb;have⟨x0,x1,x2,x3,x4,x5,x6,x7,x8,_⟩:=xb.a;have⟨r9,m5,p2,m4,n8,p5,s0,m2,n7,_⟩:=xb.b;clear xb;have rl:=z.o.rs.lt;have xl:=G.o.lt;refine kK j J ?_;clear j K;refine wOn 9 fun K j=>?_
  go_simp;refine kK j (jR J (by omega) _) ?_;clear j K;refine wOn 10 fun K j=>?_
  go_simp;refine kK j (jR J (by omega) _) ?_;clear j K;refine wOn 11 fun K j=>?_
  go_simp;refine kK j (jR (jR J (by omega) _) (by omega) _) ?_;clear j K;refine wDn ?_ _;go_wp2
  refine bodyPost_ret (v:=exV (.mk zK (U0,U1) 0 0 false ln co es) (.slice uq es.length uc)) (by simp[results,results134,go_sem,exV,zK,r0,r1,r2,r3,r4,r5,r6,r7,r8,rl]) rfl (zP.okI HQ.o ⟨_,rfl,?_⟩ ?_)
  ·exact qU.mono (qU.set9 (qU.setN (qU.setN g1.o (by omega) _) (by omega) _) (by omega) _ _ _ _ _ _ _ _ _) (fun g hg=>by omega)
  ·exact set9 (jR (jR z.o.bl (by omega) _) (by omega) _) (by omega) _ _ _ _ _ _ _ _ _
 ·skip
  refine wRg (S:=fun w'=>Below W.1.size W w') 5 ?_;refine wTk 0 95 (.agg #[.string ⟨k.toArray⟩, .string ⟨x.toArray⟩, .int .u64 m, .int .i64 ln, .int .i64 co, .slice q ks.length c]) ?_ (bD W) ?_
  ·intro _ y;obtain⟨t0,t1,I,X,O,V,R,A⟩:=kP8 y t0 t1 I X O V R A;go_simp
  refine wTk 2 97 (.agg #[.int .i64 T0, .bool T1]) ?_ (bD W) ?_
  ·intro _ y;obtain⟨t0,t1,I,X,O,V,R,A⟩:=kP8 y t0 t1 I X O V R A;go_simp
  refine wTk 4 99 (.agg #[.string ⟨k.toArray⟩, .string ⟨x.toArray⟩, .int .u64 m, .int .i64 ln, .int .i64 co, .slice q ks.length c]) ?_ (bD W) ?_
  ·intro _ y;obtain⟨t0,t1,I,X,O,V,R,A⟩:=kP8 y t0 t1 I X O V R A;go_simp
  refine wOn 1 fun K j=>?_
  go_simp;refine(Y.o _ z.o.bl.drew).mono ?_;rintro e w3 ⟨rfl,hb3⟩;have s:=zF hb3;refine kK j s ?_;clear j K;refine wTk 3 98 (.bool false) ?_ (s) ?_
  ·intro _ y;clear y;by_cases d5:U0=T0
   ·have hz2:¬U1=T1:=fun e=>hz (by rw[d5,e])
    subst d5;cases U1 <;> cases T1 <;> first | exact absurd rfl hz2 | go_simp
   ·go_simp
  refine wOn 5 fun K j=>?_
  go_simp;refine(d8.o _).mono ?_;rintro e w4 ⟨rfl,hb4⟩;exact⟨rfl,zP.badI (by rw[d6.o,show decide (((U0,U1):Ty)=(T0,T1))=false from decide_eq_false hz];rfl) ⟨rfl,z.o.bl.trans ((s.trans (hb4.mono s.size)).mono z.o.bl.size)⟩⟩
theorem wE{P:Program}{ops:Array Oper}{Q:Exit->Act->World->Prop}{md:Region.Mode}{S:World->Prop}{tail:Nat->Bool}{i j:Nat}{o y:Oper}{fuel:Nat}{s:Array Bool}{a:Act}{w:World}(hi:ops[i]? = some o)(C:ops[j]? = some y)(hr:Region.ready md ops s=[i,j])(G:Region.wanted o (yielded ops a.tmps)=true)(z:Region.wanted y (yielded ops a.tmps)=true)
 (h:∀ K:Act->World->Prop,Shut (∀ a' w',(tail i=false->S w')->vR P md ops Q S tail fuel (s.setIfInBounds i true) a' w'->K a' w')->o.wp P a w K Q)
 (I:∀ K:Act->World->Prop,Shut (∀ a' w',(tail j=false->S w')->vR P md ops Q S tail fuel (s.setIfInBounds j true) a' w'->K a' w')->y.wp P a w K Q):vR P md ops Q S tail (fuel+1) s a w:=by
 refine⟨fun h0=>(by rw[hr]at h0;cases h0),fun k hk=>?_⟩;rw[hr]at hk;have A:k=i\/k=j:=by simpa using hk
 rcases A with rfl | rfl
 ·unfold wpOp;simp only[hi,G,if_true];exact .inl (h _ (fun a' w' h1 h2=>⟨h1,h2⟩))
 ·unfold wpOp;simp only[C,z,if_true];exact .inl (I _ (fun a' w' h1 h2=>⟨h1,h2⟩))
theorem ask_any(B L:Nat)(E:Env)(ks:List qQ)(q:Option Addr)(c:Nat)(T:Ty)(cl:vE)(r:Nat)(op:List UInt8)(hr:qXx op=some r)(y:qZV ks=true)(z:ks.length<=1000000) :
 ∃ (f:Nat) (s:Array Value),qUZ cl r=.func (.func f) #[] s/\(∀ (args:Array Value) (w:World),(callFunc f args).run prog w=.ok (.enter f args) w) /\
  ∀ w,(∃ gv vv Mg Mo Mr F o,EIn B E gv vv Mg Mo Mr F o cl w)->L<=w.1.size->yD L w ks q->Calls prog f (#[.slice q ks.length c,tyV T]++s) w (zP (qQr E op ks T) (fun a v _=>v=qQt a) w):=by
 have ho:qQr E op ks T=match (some r:Option Nat)with
  | some 0=>.ok (zO,decide (T=zO))
  | some 1=>qYV E ks T
  | some 2=>qJx E ks T
  | some 3=>.ok (T,decide (T≠zO))
  | _=>.ok (T,true):=by unfold qQr;rw[hr];rfl
 rw[ho];match r with
 | 0=>exact⟨78,#[],rfl,fun _ _=>rfl,fun w h _ _=>by obtain⟨gv,vv,Mg,Mo,Mr,F,o,j⟩:=h;exact ask0 B E _ T w ⟨gv,vv,Mg,Mo,Mr,F,o,cl,j⟩⟩
 | 1=>exact⟨81,#[.pointer (some ⟨cl.c,0,none⟩)],rfl,fun _ _=>rfl,fun w h hL hK=>by obtain⟨gv,vv,Mg,Mo,Mr,F,o,j⟩:=h;exact ask1 B L cl.c E ks q c T w y ⟨gv,vv,Mg,Mo,Mr,F,o,cl,j⟩ j.cc hL hK z⟩
 | 2=>exact⟨83,#[.pointer (some ⟨cl.eq,0,none⟩)],rfl,fun _ _=>rfl,fun w h hL hK=>by obtain⟨gv,vv,Mg,Mo,Mr,F,o,j⟩:=h;exact ask2 B L cl.eq cl.c E ks q c T w y ⟨gv,vv,Mg,Mo,Mr,F,o,cl,j⟩ j.cc j.ce hL hK z⟩
 | 3=>exact⟨79,#[],rfl,fun _ _=>rfl,fun w h _ _=>by obtain⟨gv,vv,Mg,Mo,Mr,F,o,j⟩:=h;exact ask3 B E _ T w ⟨gv,vv,Mg,Mo,Mr,F,o,cl,j⟩⟩
 | n+4=>exact⟨80,#[],rfl,fun _ _=>rfl,fun w h _ _=>by obtain⟨gv,vv,Mg,Mo,Mr,F,o,j⟩:=h;exact ask4 B E _ T w ⟨gv,vv,Mg,Mo,Mr,F,o,cl,j⟩⟩
theorem XB.set0{k:Nat}{op op':List UInt8}{T:Ty}{n va:Int}{g:Bool}{t:qQ}{kv:Value}{w W:World}(h:XB k op T n va g t kv w W):XB k op' T n va g t kv w (W.setCell ⟨w.1.size+1+1+k,0,none⟩ (.string ⟨op'.toArray⟩)):=by
 unfold XB at *;have⟨y,s,h2,h3,h4,C,z,G,A,_⟩:=h.a;have hf:=h.f;generalize w.1.size+1+1+k=N at *;constructor
 case f=>intro j o;have:=hf j o;simp[go_sem, *]
 all_goals simp[go_sem, *]
theorem exp_op(k x:List UInt8)(m ln co:Int)(ks:List qQ)(hw:wfE (.mk k x m ln co ks)=true)(hrec:∀ u∈ks,qXL u)(r:Nat)(hr:qXx (qXs k x)=some r)(h1:(k == zD)=false)(h2:(k == zL || k == qH)=false)(h3:(k == zM || k == qL)=false)(h5:(k == zK)=false):qXL (.mk k x m ln co ks):=by
 intro B L E v T w h hL hl;obtain⟨q,c,rfl,t3,s5,A⟩:=hl.kids;have Y:=hI (XIn.new (T:=T) h hL hl);have s7:2 < w.1.size:=by
  obtain⟨gv,vv,Mg,Mo,Mr,F,o,cl,hE⟩:=h;exact qJ hE.d0
 obtain⟨hx,⟨t4,s8⟩,g8,m6⟩:=qQs hw;have s6:ks.length<=2:=by rcases m6 with⟨_,h⟩ | ⟨_,h⟩ | ⟨_,_,h⟩ <;> first | omega | simp[h]
 clear h hl A;obtain⟨T0,T1⟩:=T;have HP:=hI (qK3 E k x m ln co ks (T0,T1));have d2:=hI (show qQT E (.mk k x m ln co ks) (T0,T1)=(qQr E (qXs k x) ks (T0,T1)).bind fun u=>(jQ u.2 (.mk k x m ln co ks) 41).bind fun _=>(vD E ks u.1).bind fun es=>.ok (.mk (qXs k x) (T0,T1) 0 0 false ln co es) by rw[HP.o,h1,h2,h3,h5];rfl);have g2:=hI (fun w'=>qVe (.mk k x m ln co ks) (.slice q ks.length c) w' hx);have g0:=hI (fun cl=>ask_any B L E ks q c (T0,T1) cl r (qXs k x) hr g8 (by omega));have p5:=hI hr;have p3:=hI (op_len k x);have g1:=hI hrec;have t5:=hI g8;clear HP hrec g8 m6 hr;simp only[Bool.or_eq_false_iff]at h2 h3;obtain⟨p4,p7⟩:=h2;obtain⟨p0,s2⟩:=h3;simp only[qZ,tyV,qB,tyO,exO,qS,zD,qQ.kind,qQ.text,qQ.num,qQ.line,qQ.col,qQ.kids]at Y ⊢;have f8:=hI (fun b w'=>qQk b (.mk k x m ln co ks) (.slice q ks.length c) 41 w');simp only[qZ,qQ.kind,qQ.text,qQ.num,qQ.line,qQ.col,qQ.kids]at f8 g2;unfold zD at h1;unfold zL at p4;unfold qH at p7;unfold zM at p0;unfold qL at s2;unfold zK at h5;generalize s4:qXs k x=op at *;go_enter func134,ntmps134
 go_wp2_with fail
 generalize ((((w.alloc _).alloc _).alloc _).alloc _)=W at *;obtain⟨Y,X⟩:=Y.o;have Y:=hI Y;have X:=hI X;refine(g2.o _).mono ?_;rintro e w2 ⟨rfl,m5⟩;have g6:=hI (Y.o.below m5);have f9:=hI (X.o.below m5);clear Y X m5 g2;have xb:=f9.o;unfold XB at xb;simp only[qQ.line,qQ.col,Nat.add_zero]at xb;have⟨U,x1,x2,x3,x4,x5,x6,x7,x8,_⟩:=xb.a;have⟨m3,g5,m1,g4,m0,m2,m4,g3,g9,_⟩:=xb.b;clear xb;have f3:=g6.o.sz;go_wp2
 have z:=hI (g6.o.turn (jR (N:=w.1.size+1+1+1) (o:=0) (Below.refl (w.1.size+3) w2) (by omega) (.string ⟨op.toArray⟩)));have d4:=hI (XB.set0 (op':=op) f9.o);clear U x1 x2 x3 x4 x5 x6 x7 x8 m3 g5 m1 g4 m0 m2 m4 g3 g9 g6 f9 f3;generalize (World.setCell w2 ⟨w.1.size+1+1+1,0,none⟩ (.string ⟨op.toArray⟩))=V at *;obtain⟨n0,n1,n2,n3,n4,G⟩:=z.o.nd.cells;have t0:=z.o.ty.c0;have t1:=z.o.ty.c1;have U:=d4.o.c0;try simp only[Nat.add_zero]at U
 have f3:=z.o.sz;have t2:=z.o.hL;obtain⟨gv,vv,Mg,Mo,Mr,F,o,cl,hE⟩:=z.o.en;have c6:=hE.c6;obtain⟨f,d8,m7,s9,f7⟩:=g0.o cl;have C:=hI f7;have d9:=hI (fun w' (hb:Below V.1.size V w')=>(hE.rm.below hb).look p5.o (by have:=p3.o;unfold maxLen;omega));unfold qKr at d9;simp only[m7]at d9;have f4:=hI hE;clear hE f7 g0 m7;cases hO:qQr E op ks (T0,T1)with
 | bad l' c' code =>
  refine wRg (S:=fun w'=>Below V.1.size V w') 99 ?_;refine wTk 0 22 (.pointer (some ⟨B,0,none⟩)) ?_ (bD V) ?_
  ·intro _ y;go_simp
  refine wTk 1 23 (.pointer (some ⟨B,0,none⟩)) ?_ (bD V) ?_
  ·intro _ y;go_simp
  refine wTk 2 24 (.pointer (some ⟨B,6,none⟩)) ?_ (bD V) ?_
  ·intro _ y;go_simp
  refine wTk 3 25 (.map (some Mr)) ?_ (bD V) ?_
  ·intro _ y;obtain⟨c6,U,G,t0,t1⟩:=kP5 y c6 U G t0 t1;go_simp
  refine wTk 4 26 (.pointer (some ⟨w.1.size+1+1+1,0,none⟩)) ?_ (bD V) ?_
  ·intro _ y;go_simp
  refine wTk 5 27 (.string ⟨op.toArray⟩) ?_ (bD V) ?_
  ·intro _ y;obtain⟨c6,U,G,t0,t1⟩:=kP5 y c6 U G t0 t1;go_simp
  refine wTk 6 28 (.agg #[.bool (decide (r<=2)), .func (.func f) #[] d8]) ?_ (bD V) ?_
  ·intro w' y;have hl:=d9.o w' y;go_simp
  refine wTk 7 29 (.func (.func f) #[] d8) ?_ (bD V) ?_
  ·intro _ y;have n9:=qWR;go_simp
  refine wTk 8 30 (.pointer (some ⟨w.1.size,5,none⟩)) ?_ (bD V) ?_
  ·intro _ y;go_simp
  refine wTk 9 31 (.slice q ks.length c) ?_ (bD V) ?_
  ·intro _ y;obtain⟨c6,U,G,t0,t1⟩:=kP5 y c6 U G t0 t1;go_simp
  refine wTk 10 32 (.agg #[.int .i64 T0, .bool T1]) ?_ (bD V) ?_
  ·intro _ y;obtain⟨c6,U,G,t0,t1⟩:=kP5 y c6 U G t0 t1;go_simp
  refine wE (i:=11) (j:=15) rfl rfl (by kernel_rfl) (by rfl) (by rfl) (fun K A=>?_) (fun K A=>?_)
  ·go_simp;refine(C.o _ ⟨gv,vv,Mg,Mo,Mr,F,o,f4.o.below ((Below.refl V.1.size V).drew)⟩ (by simp;omega) (z.o.kids.keep (((Below.refl V.1.size V).drew).mono (by omega)))).mono ?_;rintro e w3 hX;rw[hO]at hX;obtain⟨rfl,hb3⟩:=hX;exact⟨rfl,zP.badI (by rw[d2.o,hO];rfl) ⟨rfl,z.o.bl.trans ((zF hb3).mono z.o.bl.size)⟩⟩
  ·go_simp;refine kK A (bal (Below.refl V.1.size V).drew (.cells #[.int .i64 0, .bool false] 37)) ?_;clear A K;refine wOn 11 fun K A=>?_
   go_simp;refine(C.o _ ⟨gv,vv,Mg,Mo,Mr,F,o,f4.o.below (bal (Below.refl V.1.size V).drew (.cells #[.int .i64 0, .bool false] 37))⟩ (by simp;omega) (z.o.kids.keep ((bal (Below.refl V.1.size V).drew (.cells #[.int .i64 0, .bool false] 37)).mono (by omega)))).mono ?_;rintro e w3 hX;rw[hO]at hX;obtain⟨rfl,hb3⟩:=hX;exact⟨rfl,zP.badI (by rw[d2.o,hO];rfl) ⟨rfl,z.o.bl.trans (((bal (Below.refl V.1.size V).drew (.cells #[.int .i64 0, .bool false] 37)).trans (hb3.mono (by simp))).mono z.o.bl.size)⟩⟩
 | ok uu =>
  obtain⟨⟨U0,U1⟩,ub⟩:=uu;refine wRg (S:=fun w'=>Below V.1.size V w') 99 ?_;refine wTk 0 22 (.pointer (some ⟨B,0,none⟩)) ?_ (bD V) ?_
  ·intro _ y;go_simp
  refine wTk 1 23 (.pointer (some ⟨B,0,none⟩)) ?_ (bD V) ?_
  ·intro _ y;go_simp
  refine wTk 2 24 (.pointer (some ⟨B,6,none⟩)) ?_ (bD V) ?_
  ·intro _ y;go_simp
  refine wTk 3 25 (.map (some Mr)) ?_ (bD V) ?_
  ·intro _ y;obtain⟨c6,U,G,t0,t1⟩:=kP5 y c6 U G t0 t1;go_simp
  refine wTk 4 26 (.pointer (some ⟨w.1.size+1+1+1,0,none⟩)) ?_ (bD V) ?_
  ·intro _ y;go_simp
  refine wTk 5 27 (.string ⟨op.toArray⟩) ?_ (bD V) ?_
  ·intro _ y;obtain⟨c6,U,G,t0,t1⟩:=kP5 y c6 U G t0 t1;go_simp
  refine wTk 6 28 (.agg #[.bool (decide (r<=2)), .func (.func f) #[] d8]) ?_ (bD V) ?_
  ·intro w' y;have hl:=d9.o w' y;go_simp
  refine wTk 7 29 (.func (.func f) #[] d8) ?_ (bD V) ?_
  ·intro _ y;have n9:=qWR;go_simp
  refine wTk 8 30 (.pointer (some ⟨w.1.size,5,none⟩)) ?_ (bD V) ?_
  ·intro _ y;go_simp
  refine wTk 9 31 (.slice q ks.length c) ?_ (bD V) ?_
  ·intro _ y;obtain⟨c6,U,G,t0,t1⟩:=kP5 y c6 U G t0 t1;go_simp
  refine wTk 10 32 (.agg #[.int .i64 T0, .bool T1]) ?_ (bD V) ?_
  ·intro _ y;obtain⟨c6,U,G,t0,t1⟩:=kP5 y c6 U G t0 t1;go_simp
  refine wE (i:=11) (j:=15) rfl rfl (by kernel_rfl) (by rfl) (by rfl) (fun K A=>?_) (fun K A=>?_)
  ·go_simp;refine(C.o _ ⟨gv,vv,Mg,Mo,Mr,F,o,f4.o.below ((Below.refl V.1.size V).drew)⟩ (by simp;omega) (z.o.kids.keep (((Below.refl V.1.size V).drew).mono (by omega)))).mono ?_;rintro e w3 hX;rw[hO]at hX;obtain⟨u,rfl,rfl,hb3⟩:=hX;have hb3:=zF hb3;unfold qQt tyV;refine kK A hb3 ?_;clear A K;refine wTk 12 21 (.tuple #[.agg #[.int .i64 U0, .bool U1], .bool ub]) ?_ (hb3) ?_
   ·intro _ y;go_simp
   refine wTk 13 34 (.agg #[.int .i64 U0, .bool U1]) ?_ (hb3) ?_
   ·intro _ y;go_simp
   refine wTk 14 35 (.bool ub) ?_ (hb3) ?_
   ·intro _ y;go_simp
   refine wOn 15 fun K A=>?_
   go_simp;refine kK A (bal hb3 _) ?_;clear A K;refine wOn 16 fun K A=>?_
   go_simp;refine kK A (bal hb3 _) ?_;clear A K;refine wOn 17 fun K A=>?_
   go_simp;refine kK A (bal hb3 _) ?_;clear A K;refine wDn ?_ _;have f5:=qZ7.new (U0,U1) w3;unfold tyO at f5;have d6:=bal hb3 (.cells #[.int .i64 U0, .bool U1] 37);generalize (w3.alloc (.cells #[.int .i64 U0, .bool U1] 37))=Z at *;have J:=hI (z.o.below d6);have d5:=hI (d4.o.below d6);clear hb3 d6 n0 n1 n2 n3 n4 G t0 t1 U c6 d9 C f4 z d4 f3;obtain⟨n0,n1,n2,n3,n4,G⟩:=J.o.nd.cells;go_wp2_with fail
   refine(f8.o _ _).mono ?_;rintro e w5 (⟨hbt,rfl,hb5⟩ | ⟨hbt,rfl,hb5⟩);rotate_left
   ·exact⟨rfl,zP.badI (ln:=ln) (co:=co) (code:=41) (by rw[d2.o,hO,hbt];rfl) ⟨rfl,J.o.bl.trans (hb5.mono J.o.bl.size)⟩⟩
   have f6:=hI (d2.o.trans (by rw[hO,hbt];rfl:_=(vD E ks (U0,U1)).bind fun es=>.ok (.mk op (T0,T1) 0 0 false ln co es)));have s:=hI (J.o.below hb5);have d3:=hI (d5.o.below hb5);have d7:=f5.below hb5;have u0:=d7.c0;have u1:=d7.c1;have HI:=hI (qZs B L E ks q c (U0,U1) w5 g1.o s.o.en (by have:=s.o.bl.size;omega) s.o.kids (by omega));have p1:=s.o.sz;unfold tyV at HI;clear n0 n1 n2 n3 n4 G hbt hb5 J d5 d2 f5 d7 f8;obtain⟨n0,n1,n2,n3,n4,G⟩:=s.o.nd.cells;go_wp2_with fail
   refine(HI.o).mono ?_;rintro e w6 hX;rcases hX.cases with⟨es,u,hp,rfl,I,O⟩ | ⟨l',c',code,hp,rfl,O⟩;rotate_left
   ·exact⟨rfl,zP.badI (by rw[f6.o,hp];rfl) ⟨rfl,s.o.bl.trans (O.mono s.o.bl.size)⟩⟩
   obtain⟨uq,uc,rfl⟩:=I.shape;have HQ:=hI (f6.o.trans (by rw[hp];rfl:_=.ok (.mk op (T0,T1) 0 0 false ln co es)));have g7:=hI (I.mono (ok':=fun g=>w.1.size+4<=g) (fun g hg=>by omega));have Y:=hI (s.o.below O);have X:=hI (d3.o.below O);clear n0 n1 n2 n3 n4 G u0 u1 hX hp I O HI s d3;have⟨r0,r1,r2,r3,r4,r5,r6,r7,r8,_⟩:=Y.o.rs.a;have⟨p9,s3,p8,n6,s1,s0,m9,p6,n7,_⟩:=Y.o.rs.b;have xb:=X.o;unfold XB at xb;simp only[qQ.line,qQ.col,Nat.add_zero]at xb;have⟨U,x1,x2,x3,x4,x5,x6,x7,x8,_⟩:=xb.a;have⟨m3,g5,m1,g4,m0,m2,m4,g3,g9,_⟩:=xb.b;clear xb;have rl:=Y.o.rs.lt;have xl:=X.o.lt;have f3:=Y.o.sz;have p2:¬w.1.size+1+1+1=w.1.size+1+1:=by omega
   go_wp2
   refine bodyPost_ret (v:=exV (.mk op (T0,T1) 0 0 false ln co es) (.slice uq es.length uc)) (by simp[results,results134,go_sem,exV,r0,r1,r2,r3,r4,r5,r6,r7,r8,rl]) rfl (zP.okI HQ.o ⟨_,rfl,?_⟩ ?_)
   ·exact qU.mono (qU.set9 (qU.setN g7.o (by omega) _) (by omega) _ _ _ _ _ _ _ _ _) (fun g hg=>by omega)
   ·exact set9 (jR Y.o.bl (by omega) _) (by omega) _ _ _ _ _ _ _ _ _
  ·go_simp;refine kK A (bal (Below.refl V.1.size V).drew (.cells #[.int .i64 0, .bool false] 37)) ?_;clear A K;refine wOn 11 fun K A=>?_
   go_simp;refine(C.o _ ⟨gv,vv,Mg,Mo,Mr,F,o,f4.o.below (bal (Below.refl V.1.size V).drew (.cells #[.int .i64 0, .bool false] 37))⟩ (by simp;omega) (z.o.kids.keep ((bal (Below.refl V.1.size V).drew (.cells #[.int .i64 0, .bool false] 37)).mono (by omega)))).mono ?_;rintro e w3 hX;rw[hO]at hX;obtain⟨u,rfl,rfl,R⟩:=hX;have hb3:=(bal (Below.refl V.1.size V).drew (.cells #[.int .i64 0, .bool false] 37)).trans (R.mono (by simp));have tb:=(qZ7.new (0,false) V).below (show Below (V.alloc (tyO (0,false))).1.size (V.alloc (tyO (0,false))) w3 from⟨R.os,R.tape,R.output,R.size,R.block⟩);unfold qQt tyV;refine kK A hb3 ?_;clear A K;refine wTk 12 21 (.tuple #[.agg #[.int .i64 U0, .bool U1], .bool ub]) ?_ (hb3) ?_
   ·intro _ y;go_simp
   refine wTk 13 34 (.agg #[.int .i64 U0, .bool U1]) ?_ (hb3) ?_
   ·intro _ y;go_simp
   refine wTk 14 35 (.bool ub) ?_ (hb3) ?_
   ·intro _ y;go_simp
   refine wOn 16 fun K A=>?_
   have b0:=tb.c0;have b1:=tb.c1;have r9:=tb.f0;have n8:=tb.f1;go_simp;refine kK A (jR (jR hb3 (Nat.le_refl _) _) (Nat.le_refl _) _) ?_;clear A K;refine wOn 17 fun K A=>?_
   go_simp;refine kK A (jR (jR hb3 (Nat.le_refl _) _) (Nat.le_refl _) _) ?_;clear A K;refine wDn ?_ _;have f5:qZ7 V.1.size (U0,U1) ((w3.setCell ⟨V.1.size,0,none⟩ (.int .i64 U0)).setCell ⟨V.1.size,1,none⟩ (.bool U1)):=by constructor <;> simp[go_sem, *]
   have d6:=jR (jR hb3 (Nat.le_refl V.1.size) (o:=0) (.int .i64 U0)) (Nat.le_refl V.1.size) (o:=1) (.bool U1);clear tb b0 b1 r9 n8;generalize ((w3.setCell ⟨V.1.size,0,none⟩ (.int .i64 U0)).setCell ⟨V.1.size,1,none⟩ (.bool U1))=Z at *;have J:=hI (z.o.below d6);have d5:=hI (d4.o.below d6);clear hb3 R d6 n0 n1 n2 n3 n4 G t0 t1 U c6 d9 C f4 z d4 f3;obtain⟨n0,n1,n2,n3,n4,G⟩:=J.o.nd.cells;go_wp2_with fail
   refine(f8.o _ _).mono ?_;rintro e w5 (⟨hbt,rfl,hb5⟩ | ⟨hbt,rfl,hb5⟩);rotate_left
   ·exact⟨rfl,zP.badI (ln:=ln) (co:=co) (code:=41) (by rw[d2.o,hO,hbt];rfl) ⟨rfl,J.o.bl.trans (hb5.mono J.o.bl.size)⟩⟩
   have f6:=hI (d2.o.trans (by rw[hO,hbt];rfl:_=(vD E ks (U0,U1)).bind fun es=>.ok (.mk op (T0,T1) 0 0 false ln co es)));have s:=hI (J.o.below hb5);have d3:=hI (d5.o.below hb5);have d7:=f5.below hb5;have u0:=d7.c0;have u1:=d7.c1;have HI:=hI (qZs B L E ks q c (U0,U1) w5 g1.o s.o.en (by have:=s.o.bl.size;omega) s.o.kids (by omega));have p1:=s.o.sz;unfold tyV at HI;clear n0 n1 n2 n3 n4 G hbt hb5 J d5 d2 f5 d7 f8;obtain⟨n0,n1,n2,n3,n4,G⟩:=s.o.nd.cells;go_wp2_with fail
   refine(HI.o).mono ?_;rintro e w6 hX;rcases hX.cases with⟨es,u,hp,rfl,I,O⟩ | ⟨l',c',code,hp,rfl,O⟩;rotate_left
   ·exact⟨rfl,zP.badI (by rw[f6.o,hp];rfl) ⟨rfl,s.o.bl.trans (O.mono s.o.bl.size)⟩⟩
   obtain⟨uq,uc,rfl⟩:=I.shape;have HQ:=hI (f6.o.trans (by rw[hp];rfl:_=.ok (.mk op (T0,T1) 0 0 false ln co es)));have g7:=hI (I.mono (ok':=fun g=>w.1.size+4<=g) (fun g hg=>by omega));have Y:=hI (s.o.below O);have X:=hI (d3.o.below O);clear n0 n1 n2 n3 n4 G u0 u1 hX hp I O HI s d3;have⟨r0,r1,r2,r3,r4,r5,r6,r7,r8,_⟩:=Y.o.rs.a;have⟨p9,s3,p8,n6,s1,s0,m9,p6,n7,_⟩:=Y.o.rs.b;have xb:=X.o;unfold XB at xb;simp only[qQ.line,qQ.col,Nat.add_zero]at xb;have⟨U,x1,x2,x3,x4,x5,x6,x7,x8,_⟩:=xb.a;have⟨m3,g5,m1,g4,m0,m2,m4,g3,g9,_⟩:=xb.b;clear xb;have rl:=Y.o.rs.lt;have xl:=X.o.lt;have f3:=Y.o.sz;have p2:¬w.1.size+1+1+1=w.1.size+1+1:=by omega
   go_wp2
   refine bodyPost_ret (v:=exV (.mk op (T0,T1) 0 0 false ln co es) (.slice uq es.length uc)) (by simp[results,results134,go_sem,exV,r0,r1,r2,r3,r4,r5,r6,r7,r8,rl]) rfl (zP.okI HQ.o ⟨_,rfl,?_⟩ ?_)
   ·exact qU.mono (qU.set9 (qU.setN g7.o (by omega) _) (by omega) _ _ _ _ _ _ _ _ _) (fun g hg=>by omega)
   ·exact set9 (jR Y.o.bl (by omega) _) (by omega) _ _ _ _ _ _ _ _ _
theorem exp_step(k x:List UInt8)(m ln co:Int)(ks:List qQ)(o:wfE (.mk k x m ln co ks)=true)(hrec:∀ u∈ks,qXL u):qXL (.mk k x m ln co ks):=by
 cases j:(k == zD);case true=>exact exp_num k x m ln co ks o j
 cases h2:(k == zL || k == qH);case true=>exact exp_bool k x m ln co ks o j h2
 cases h3:(k == zM || k == qL);case true=>exact exp_name k x m ln co ks o hrec j h2 h3
 cases z:(k == zK);case true=>exact exp_cast k x m ln co ks o hrec j h2 h3 z
 obtain⟨_,_,_,C⟩:=qQs o;have G:=j;have A:=h2;have s:=h3;have y:=z;simp only[Bool.or_eq_false_iff]at h2 h3;rcases C with⟨h,_⟩ | ⟨h,_⟩ | ⟨_,⟨r,hr⟩,_⟩
 ·simp[j,h2.1,h2.2,h3.1]at h
 ·simp[h3.2,z]at h
 ·exact exp_op k x m ln co ks o hrec r hr G A s y
mutual
theorem exp_all:∀ (t:qQ),wfE t=true->qXL t
 | .mk k x m ln co ks,h=>exp_step k x m ln co ks h (qXZ ks (qQs h).2.2.1)
theorem qXZ:∀ (ts:List qQ),qZV ts=true->∀ u∈ts,qXL u
 | [],_,u,hu=>by simp at hu
 | t :: r,h,u,hu=>by
  rw[qZV,bE]at h;rcases List.mem_cons.1 hu with e | hu
  ·rw[e];exact exp_all t h.1
  ·exact qXZ r h.2 u hu
end
theorem qUU{E:Env}{t:qQ}{a:Ex}(h:qQ1 E t=.ok a):∃ op T va g,a=.mk op T 0 va g t.line t.col []:=by
 unfold qQ1 at h;cases hf:qZD E t with
 | bad _ _ _=>rw[hf]at h;cases h
 | ok r =>
  rw[hf]at h;simp only[CR.bind,jQ]at h;split at h
  ·injection h with h;exact⟨_,_,_,_,h.symm⟩
  ·cases h
theorem qKO(k x:List UInt8)(m ln co:Int)(ks:List qQ)(hw:wfE (.mk k x m ln co ks)=true)(B L:Nat)(E:Env)(v:Value)(w:World)(h:EAt B E w)(hL:L<=w.1.size)(hl:xZ w (· < L) (.mk k x m ln co ks) v) :
 Calls prog 133 #[.pointer (some ⟨B,0,none⟩),qZ (.mk k x m ln co ks) v] w (zP (wJ E (.mk k x m ln co ks)) (ExpR w.1.size) w):=by
 obtain⟨q,c,rfl,g9,d9,hK⟩:=hl.kids;obtain⟨hx,⟨m1,g2⟩,d3,d2⟩:=qQs hw;have f8:ks.length<=2:=by rcases d2 with⟨_,h⟩ | ⟨_,h⟩ | ⟨_,_,h⟩ <;> first | omega | simp[h]
 have I:=bal (bal (Below.refl w.1.size w) (qB (.mk k x m ln co ks) (.slice q ks.length c))) (exO [] noT 0 0 false 0 0 (.slice none 0 0));have z:=hI I;have X:=hI (qUq B E (.mk k x m ln co ks) (.slice q ks.length c) _ (h.below I) hx);have HN:=hI ((Bx.new (.mk k x m ln co ks) (.slice q ks.length c) w).below (bal (Below.refl _ _) (exO [] noT 0 0 false 0 0 (.slice none 0 0))));have HT:=hI (qQf.new [] noT 0 0 false 0 0 (.slice none 0 0) (w.alloc (qB (.mk k x m ln co ks) (.slice q ks.length c))));simp only[World.size_alloc]at HT;have H0:=hI h;have HK:=hI hK;have d6:=hI d3;have C:=hI (show wJ E (.mk k x m ln co ks)=(qQ1 E (.mk k x m ln co ks)).bind fun p=>(qQL E ks).bind fun V=>.ok (p.withKids V)from rfl);clear h hl hK d2 d3 I;simp only[qZ,qB,exO,qS,noT,qQ.kind,qQ.text,qQ.num,qQ.line,qQ.col,qQ.kids]at *;go_enter func133,ntmps133
 go_wp2_with fail
 refine(X.o).mono ?_;rintro e w2 hX;rcases hX.cases with⟨a,u,hp,rfl,rfl,j⟩ | ⟨l',c',code,hp,rfl,j⟩;rotate_left
 ·exact⟨rfl,zP.badI (by rw[C.o,hp];rfl) ⟨rfl,z.o.trans (j.mono z.o.size)⟩⟩
 obtain⟨s,⟨R,G⟩,O,J,rfl⟩:=qUU hp;have U:=z.o.trans (j.mono z.o.size);have hz:=bal (Below.refl w2.1.size w2) (exO s (R,G) 0 O J ln co (.slice none 0 0));have A:=hI (U.trans (hz.mono U.size));have d7:=hI ((HN.o.below j).below hz);have d5:=hI ((HT.o.below j).below hz);have d4:=hI (qQf.new s (R,G) 0 O J ln co (.slice none 0 0) w2);have hs2:=j.size;simp only[World.size_alloc]at hs2;have HI:=hI (qVE B L E ks q c _ d6.o (qXZ ks d6.o) (H0.o.below A.o) (by have:=A.o.size;omega) (HK.o.keep (A.o.mono hL)) (by omega));have Y:=hI (C.o.trans (by rw[hp];rfl:_=(qQL E ks).bind fun V=>.ok (.mk s (R,G) 0 O J ln co V)));have g5:(w2.alloc (exO s (R,G) 0 O J ln co (.slice none 0 0))).1.size=w2.1.size+1:=by simp
 obtain⟨n0,n1,n2,n3,n4,n5⟩:=(HN.o.below j).cells;have f9:=(HN.o.below j).lt;simp only[exV,exO,qQ.line,qQ.col]at *;clear hX hp j hz U X z HN HT C;go_wp2_with fail
 generalize (w2.alloc (.cells #[.string ⟨s.toArray⟩, .int .i64 R, .bool G, .int .u64 0, .int .i64 O, .bool J, .int .i64 ln, .int .i64 co, .slice none 0 0] 76))=Z at *;refine(HI.o).mono ?_;rintro e w4 hX;rcases hX.cases with⟨V,u,hp,rfl,y,hb4⟩ | ⟨l',c',code,hp,rfl,hb4⟩;rotate_left
 ·exact⟨rfl,zP.badI (by rw[Y.o,hp];rfl) ⟨rfl,A.o.trans (hb4.mono A.o.size)⟩⟩
 obtain⟨uq,uc,rfl⟩:=y.shape;have HQ:=hI (Y.o.trans (by rw[hp];rfl:_=.ok (.mk s (R,G) 0 O J ln co V)));have g1:=A.o.size;have d8:=hI (y.mono (ok':=fun g=>w2.1.size+1<=g) (fun g hg=>by omega));have HX:=hI (A.o.trans (hb4.mono A.o.size));have rs:=d5.o.below hb4;have xb:=d4.o.below hb4;have rl:=rs.lt;have xl:=xb.lt;have f7:¬w2.1.size=w.1.size+1:=by omega
 have f6:¬w.1.size+1=w2.1.size:=by omega
 have⟨r0,r1,r2,r3,r4,r5,r6,r7,r8,_⟩:=rs.a;have⟨g6,m0,g4,f4,g8,g7,f3,g0,f5,_⟩:=rs.b;have⟨x0,x1,x2,x3,x4,x5,x6,x7,x8,_⟩:=xb.a;have g3:=xb.f 8 nL;clear n0 n1 n2 n3 n4 n5 hX hp y hb4 HI d7 d5 d4 rs xb A;go_wp2
 refine bodyPost_ret (v:=exV (.mk s (R,G) 0 O J ln co V) (.slice uq V.length uc)) (by simp[results,results133,go_sem,exV,r0,r1,r2,r3,r4,r5,r6,r7,r8,rl]) rfl (zP.okI HQ.o ⟨_,rfl,?_⟩ ?_)
 ·exact qU.mono (qU.set9 (qU.setN d8.o (by omega) _) (by omega) _ _ _ _ _ _ _ _ _) (fun g hg=>by omega)
 ·exact set9 (jR HX.o (by omega) _) (by omega) _ _ _ _ _ _ _ _ _
structure FnM where
 h:kI
 vars:List qI
 vv:Value
 bv:Value
def fnC(f:FnM):List Value:=[.string ⟨f.h.name.toArray⟩, .int .i64 f.h.t.1, .bool f.h.t.2, .int .i64 f.h.params.length,f.vv,f.bv]
theorem qZu(f:FnM):(fnC f).length=6:=rfl
def noF:FnM:=⟨⟨[],noT,[]⟩,[], .slice none 0 0, .slice none 0 0⟩
structure RIn(B:Nat)(gs:List qI)(fs:List FnM)(ci FC Mf:Nat)(gv:Value)(Mg Mo Mr F:Nat)(cl:vE)(w:World):Prop where
 hi:ci < fs.length
 en:EIn B ⟨gs,(fs.getD ci noF).vars⟩ gv (fs.getD ci noF).vv Mg Mo Mr F (ci * 6) cl w
 c1:w.cell? ⟨B,1,none⟩=some (.slice (some ⟨F,0,none⟩) fs.length FC)
 c4:w.cell? ⟨B,4,none⟩=some (.map (some Mf))
 frow:w.ownsRow 0 40 6 (.slice (some ⟨F,0,none⟩) fs.length FC) fs.length (xD fnC fs)
 vrow:∀ f∈fs,qQI w 0 f.vars f.vv
 fm:wY w Mf ((fs.map (·.h)).map (·.name))
 par:∀ f∈fs,∃ rest,f.vars=f.h.params++rest
 fl:fs.length<=16
 vl:∀ f∈fs,f.vars.length<=64
theorem RIn.below{B:Nat}{gs:List qI}{fs:List FnM}{ci FC Mf:Nat}{gv:Value}{Mg Mo Mr F:Nat}{cl:vE}{w w':World}(h:RIn B gs fs ci FC Mf gv Mg Mo Mr F cl w)(hb:Below w.1.size w w'):RIn B gs fs ci FC Mf gv Mg Mo Mr F cl w' :=
 ⟨h.hi,h.en.below hb,kP hb h.c1,kP hb h.c4,zU h.frow (fun g hg=>hb.block g (h.frow.lt g hg).2),fun f hf=>zU (h.vrow f hf) (fun g hg=>hb.block g ((h.vrow f hf).lt g hg).2),h.fm.below hb,h.par,h.fl,h.vl⟩
def RAt(B:Nat)(gs:List qI)(fs:List FnM)(ci:Nat)(w:World):Prop:=∃ FC Mf gv Mg Mo Mr F cl,RIn B gs fs ci FC Mf gv Mg Mo Mr F cl w
section
variable {B:Nat} {gs:List qI} {fs:List FnM} {ci:Nat} {w w':World}
theorem RAt.below(h:RAt B gs fs ci w)(hb:Below w.1.size w w'):RAt B gs fs ci w':=by
 obtain⟨FC,Mf,gv,Mg,Mo,Mr,F,cl,h⟩:=h;exact⟨FC,Mf,gv,Mg,Mo,Mr,F,cl,h.below hb⟩
theorem RAt.en(h:RAt B gs fs ci w):EAt B ⟨gs,(fs.getD ci noF).vars⟩ w:=by
 obtain⟨FC,Mf,gv,Mg,Mo,Mr,F,cl,h⟩:=h;exact⟨_,_,_,_,_,_,_,_,h.en⟩
end
theorem qZv{w:World}{fs:List FnM}{F FC:Nat}(h:w.ownsRow 0 40 6 (.slice (some ⟨F,0,none⟩) fs.length FC) fs.length (xD fnC fs)){i:Nat}(hi:i < fs.length) :
 w.cell? ⟨F,i * 6,none⟩=some (.string ⟨fs[i].h.name.toArray⟩)/\w.cell? ⟨F,i * 6+1,none⟩=some (.int .i64 fs[i].h.t.1)/\w.cell? ⟨F,i * 6+2,none⟩=some (.bool fs[i].h.t.2)/\w.cell? ⟨F,i * 6+3,none⟩=some (.int .i64 fs[i].h.params.length)/\w.cell? ⟨F,i * 6+4,none⟩=some fs[i].vv/\w.cell? ⟨F,i * 6+5,none⟩=some fs[i].bv :=
 ⟨qQm qZu h rfl hi (k:=0) (by omega) rfl,qQm qZu h rfl hi (k:=1) (by omega) rfl,qQm qZu h rfl hi (k:=2) (by omega) rfl,qQm qZu h rfl hi (k:=3) (by omega) rfl,qQm qZu h rfl hi (k:=4) (by omega) rfl,qQm qZu h rfl hi (k:=5) (by omega) rfl⟩
theorem qWL(B:Nat)(gs:List qI)(fs:List FnM)(ci:Nat)(t:qQ)(v:Value)(w:World)(h:RAt B gs fs ci w)(hx:t.text.length<=1000000)(hv:∃ q c,v=.slice q t.kids.length c)(hk:t.kids.length<=1000000) :
 Calls prog 135 #[.pointer (some ⟨B,0,none⟩),qZ t v] w (zP (wI (fs.map (·.h)) t) (fun a u _=>u=.int .i64 a.2) w):=by
 obtain⟨q,c,rfl⟩:=hv;have HB:=hI (bal (Below.refl w.1.size w) (qB t (.slice q t.kids.length c)));have H2:=hI (h.below HB.o);have HN:=hI (Bx.new t (.slice q t.kids.length c) w);have d9:(w.alloc (qB t (.slice q t.kids.length c))).1.size=w.1.size+1:=by simp
 clear h;obtain⟨k,x,m,ln,co,ks⟩:=t;have d2:=hI (show wI (fs.map (·.h)) (.mk k x m ln co ks)=match qQN x 0 (fs.map (·.h))with
  | some (h,i)=>(jQ (decide (ks.length=h.params.length)) (.mk k x m ln co ks) 43).bind fun _=>.ok (h,i)
  | none=>.bad ln co 40 from rfl)
 have d3:=hI (fun cd w'=>qQl (.mk k x m ln co ks) (.slice q ks.length c) cd w');have d4:=hI (fun cd w'=>qQ5 (.mk k x m ln co ks) (.slice q ks.length c) cd w');simp only[qZ,qB,qS,qQ.kind,qQ.text,qQ.num,qQ.line,qQ.col,qQ.kids]at *;go_enter func135,ntmps135
 go_wp2
 generalize (w.alloc _)=W at *;obtain⟨s,I,z,G,C,A⟩:=HN.o.cells;obtain⟨FC,Mf,gv,Mg,Mo,Mr,F,cl,Y⟩:=H2.o;have c4:=Y.c4;have V:=(Y.fm.below (Below.refl _ _).drew).look x (by unfold maxLen;omega);cases hl:qQN x 0 (fs.map (·.h))with
 | none =>
  have Z:=hI (d2.o.trans (by rw[hl]));obtain⟨e1,e2⟩:=qKJ hl;rw[e1,e2]at V;clear hl e1 e2 Y;go_region
  go_wp2_with fail
  refine(d4.o _ _).mono ?_;rintro e j ⟨rfl,hb3⟩;exact⟨rfl,zP.badI Z.o ⟨rfl,HB.o.trans ((zF hb3).mono (by omega))⟩⟩
 | some r =>
  obtain⟨hd,i⟩:=r;have Z:=hI (d2.o.trans (by rw[hl]:_=(jQ (decide (ks.length=hd.params.length)) (.mk k x m ln co ks) 43).bind fun _=>.ok (hd,i)));obtain⟨e1,e2,d7,rfl⟩:=qJK hl;rw[e1,e2]at V;have hi:i < fs.length:=by simpa using d7
  have HE:=hI (show(fs.map (·.h))[i]=fs[i].h by simp);rw[HE.o]at Z;have HR:=hI Y;have f6:=Y.fl;clear hl e1 e2 Y;go_region
  go_wp2_with fail
  refine(d3.o _ _).mono ?_;rintro e j ⟨rfl,hb3⟩;have O:=zF hb3;have X:=HR.o.below O;obtain⟨f0,f1,f2,J,f4,f5⟩:=qZv X.frow hi;have c1:=X.c1;obtain⟨s,I,z,G,C,A⟩:=(HN.o.below O).cells;have U:=hI (HB.o.trans (O.mono (by omega)));have d8:(i:Int) < (fs.length:Nat):=by omega
  clear hb3 O X V c4 HR;by_cases hn:ks.length=fs[i].h.params.length
  ·have R:=hI hn;clear hn;go_wp2
   refine wRg (S:=fun w'=>Below j.1.size j w') 14 ?_;refine wTk 0 20 (.pointer (some ⟨w.1.size,5,none⟩)) ?_ (bD j) ?_
   ·intro _ y;go_simp
   refine wTk 1 21 (.slice q ks.length c) ?_ (bD j) ?_
   ·intro _ y;obtain⟨c1,J,s,I,z,G,C,A⟩:=kP8 y c1 J s I z G C A;go_simp
   refine wTk 2 22 (.int .i64 ks.length) ?_ (bD j) ?_
   ·intro _ y;go_simp
   refine wTk 3 23 (.pointer (some ⟨B,0,none⟩)) ?_ (bD j) ?_
   ·intro _ y;go_simp
   refine wTk 4 24 (.pointer (some ⟨B,0,none⟩)) ?_ (bD j) ?_
   ·intro _ y;go_simp
   refine wTk 5 25 (.pointer (some ⟨B,0,none⟩)) ?_ (bD j) ?_
   ·intro _ y;go_simp
   refine wTk 6 26 (.pointer (some ⟨B,1,none⟩)) ?_ (bD j) ?_
   ·intro _ y;go_simp
   refine wTk 7 27 (.slice (some ⟨F,0,none⟩) fs.length FC) ?_ (bD j) ?_
   ·intro _ y;obtain⟨c1,J,s,I,z,G,C,A⟩:=kP8 y c1 J s I z G C A;go_simp
   refine wTk 8 28 (.int .i64 i) ?_ (bD j) ?_
   ·intro _ y;go_simp
   refine wTk 9 29 (.pointer (some ⟨F,i * 6,none⟩)) ?_ (bD j) ?_
   ·intro _ y;go_simp
   refine wTk 10 30 (.pointer (some ⟨F,i * 6+3,none⟩)) ?_ (bD j) ?_
   ·intro _ y;go_simp
   refine wTk 11 31 (.int .i64 fs[i].h.params.length) ?_ (bD j) ?_
   ·intro _ y;obtain⟨c1,J,s,I,z,G,C,A⟩:=kP8 y c1 J s I z G C A;go_simp
   refine wTk 12 32 (.bool true) ?_ (bD j) ?_
   ·intro _ y;clear y;have d5:(ks.length:Int)=(fs[i].h.params.length:Int):=by have:=R.o;omega
    go_simp
   refine wTk 13 33 (.agg #[.string ⟨k.toArray⟩, .string ⟨x.toArray⟩, .int .u64 m, .int .i64 ln, .int .i64 co, .slice q ks.length c]) ?_ (bD j) ?_
   ·intro _ y;obtain⟨c1,J,s,I,z,G,C,A⟩:=kP8 y c1 J s I z G C A;go_simp
   refine wOn 14 fun K hK=>?_
   go_simp;refine(d3.o _ _).mono ?_;rintro e w4 ⟨rfl,hb4⟩;refine kD hK ?_;clear hK K;refine wDn ?_ _;have HQ:=hI (Z.o.trans (by rw[decide_eq_true R.o];rfl:_=.ok (fs[i].h,i)));have d6:=hI (U.o.trans ((zF hb4).mono U.o.size));clear s I z G C A f0 f1 f2 J f4 f5 c1 hb4;go_wp2
   go_ret;exact zP.okI HQ.o rfl d6.o
  ·have R:=hI hn;clear hn;go_wp2
   refine wRg (S:=fun w'=>Below j.1.size j w') 14 ?_;refine wTk 0 20 (.pointer (some ⟨w.1.size,5,none⟩)) ?_ (bD j) ?_
   ·intro _ y;go_simp
   refine wTk 1 21 (.slice q ks.length c) ?_ (bD j) ?_
   ·intro _ y;obtain⟨c1,J,s,I,z,G,C,A⟩:=kP8 y c1 J s I z G C A;go_simp
   refine wTk 2 22 (.int .i64 ks.length) ?_ (bD j) ?_
   ·intro _ y;go_simp
   refine wTk 3 23 (.pointer (some ⟨B,0,none⟩)) ?_ (bD j) ?_
   ·intro _ y;go_simp
   refine wTk 4 24 (.pointer (some ⟨B,0,none⟩)) ?_ (bD j) ?_
   ·intro _ y;go_simp
   refine wTk 5 25 (.pointer (some ⟨B,0,none⟩)) ?_ (bD j) ?_
   ·intro _ y;go_simp
   refine wTk 6 26 (.pointer (some ⟨B,1,none⟩)) ?_ (bD j) ?_
   ·intro _ y;go_simp
   refine wTk 7 27 (.slice (some ⟨F,0,none⟩) fs.length FC) ?_ (bD j) ?_
   ·intro _ y;obtain⟨c1,J,s,I,z,G,C,A⟩:=kP8 y c1 J s I z G C A;go_simp
   refine wTk 8 28 (.int .i64 i) ?_ (bD j) ?_
   ·intro _ y;go_simp
   refine wTk 9 29 (.pointer (some ⟨F,i * 6,none⟩)) ?_ (bD j) ?_
   ·intro _ y;go_simp
   refine wTk 10 30 (.pointer (some ⟨F,i * 6+3,none⟩)) ?_ (bD j) ?_
   ·intro _ y;go_simp
   refine wTk 11 31 (.int .i64 fs[i].h.params.length) ?_ (bD j) ?_
   ·intro _ y;obtain⟨c1,J,s,I,z,G,C,A⟩:=kP8 y c1 J s I z G C A;go_simp
   refine wTk 12 32 (.bool false) ?_ (bD j) ?_
   ·intro _ y;clear y;have d5:¬(ks.length:Int)=(fs[i].h.params.length:Int):=by have:=R.o;omega
    go_simp
   refine wTk 13 33 (.agg #[.string ⟨k.toArray⟩, .string ⟨x.toArray⟩, .int .u64 m, .int .i64 ln, .int .i64 co, .slice q ks.length c]) ?_ (bD j) ?_
   ·intro _ y;obtain⟨c1,J,s,I,z,G,C,A⟩:=kP8 y c1 J s I z G C A;go_simp
   refine wOn 14 fun K hK=>?_
   go_simp;refine(d4.o _ _).mono ?_;rintro e w4 ⟨rfl,hb4⟩;exact⟨rfl,zP.badI (by rw[Z.o,decide_eq_false R.o];rfl) ⟨rfl,U.o.trans ((zF hb4).mono U.o.size)⟩⟩
theorem argsC_at{E:Env}{ts:List qQ}{ps:List qI}{k:Nat}(h:k < ts.length)(j:k < ps.length):wM E (ts.drop k) (ps.drop k)=(qQT E ts[k] ps[k].t).bind fun e=>(wM E (ts.drop (k+1)) (ps.drop (k+1))).bind fun es=>.ok (e :: es):=by
 rw[List.drop_eq_getElem_cons h,List.drop_eq_getElem_cons j,wM];rfl
def ARel(E:Env)(ts:List qQ)(ps:List qI)(W:World)(v i:Value)(wr:World):Prop :=
 ∃ (k:Nat) (acc:List Ex),k<=ts.length/\i=.int .i64 k/\acc.length=k/\wC wr W.1.size acc v/\wM E ts ps=((wM E (ts.drop k) (ps.drop k)).bind fun es=>.ok (acc++es))/\Below W.1.size W wr
theorem qPg(B L:Nat)(gs:List qI)(fs:List FnM)(ci s:Nat)(ts:List qQ)(q:Option Addr)(c:Nat)(W:World)(hw:qZV ts=true)(h:RAt B gs fs ci W)(m0:s < fs.length)(g2:ts.length=fs[s].h.params.length)(hL:L<=W.1.size)(C:yD L W ts q) :
 Calls prog 136 #[.pointer (some ⟨B,0,none⟩), .int .i64 s, .slice q ts.length c] W (zP (wM ⟨gs,(fs.getD ci noF).vars⟩ ts fs[s].h.params) (fun a u w'=>qU w' (fun g=>W.1.size<=g) a u) W):=by
 have H0:=hI h;have HK:=hI C;have m1:=hI g2;have g0:=hI (qXZ ts hw);obtain⟨p0,p5⟩:ts.length<=64/\fs.length<=16:=by
  obtain⟨FC,Mf,gv,Mg,Mo,Mr,F,cl,G⟩:=h;obtain⟨rest,hr⟩:=G.par fs[s] (List.getElem_mem _);have h1:=G.vl fs[s] (List.getElem_mem _);rw[hr,lL]at h1;exact⟨by omega,G.fl⟩
 have p1:(s:Int) < (fs.length:Nat):=by omega
 clear h C g2 hw;go_enter func136,ntmps136
 go_wp2
 go_loopw [7,12] (fun v i wr=>ARel ⟨gs,(fs.getD ci noF).vars⟩ ts fs[s].h.params W v i wr) (fun _ i _=>ts.length - (intOf i).toNat)
 case atStart=>exact⟨0,[],Nat.zero_le _,rfl,rfl,wC.nil _ _,by rw[List.drop_zero,List.drop_zero];cases wM ⟨gs,(fs.getD ci noF).vars⟩ ts fs[s].h.params <;> rfl,Below.refl _ _⟩
 case round =>
  obtain⟨k,acc,hk,rfl,p3,d8,hf,hb⟩:=hrel;obtain⟨q7,n7,c7,rfl⟩:=d8.shape;have d2:=hI hb;have d6:=hI d8;have HF:=hI hf;clear d8 hf;by_cases O:k < ts.length
  ·obtain⟨g,p4,rfl,G⟩:=(HK.o.keep (hb.mono hL)).resolve_left (fun e=>by rw[e]at O;simp at O);obtain⟨qa,na,ca,g3,g4⟩:=G.2 k O;have⟨k0,k1,k2,k3,k4,k5,_⟩:=g4.a;have d3:ts[k]∈ts:=List.getElem_mem O;have g5:k < fs[s].h.params.length:=by have:=m1.o;omega
   have d7:=hb.size;have HA:=hI (argsC_at (E:=⟨gs,(fs.getD ci noF).vars⟩) O g5);have m6:=hI (g0.o _ d3);have g8:=hI g3;have m5:=hI (Bx.new ts[k] (.slice qa na ca) wr);have I:=hI (bal (Below.refl wr.1.size wr) (qB ts[k] (.slice qa na ca)));have n8:(wr.alloc (qB ts[k] (.slice qa na ca))).1.size=wr.1.size+1:=by simp
   clear g4 g3 G d3 hb;generalize hu:ts[k]=u at *;simp only[qS,qZ,qB]at *;go_wp2
   generalize (wr.alloc _)=Z at *;obtain⟨FC,Mf,gv,Mg,Mo,Mr,F,cl,G⟩:=H0.o.below (d2.o.trans (I.o.mono d7));obtain⟨f0,f1,f2,f3,f4,f5⟩:=qZv G.frow m0;obtain⟨rest,A⟩:=G.par fs[s] (List.getElem_mem _);have m3:fs[s].vars.length=fs[s].h.params.length+rest.length:=by rw[A,lL]
   have g6:k < fs[s].vars.length:=by omega
   obtain⟨gV,cV,m7,v0,U,R,v3⟩:=qKe (G.vrow fs[s] (List.getElem_mem _)) g6;have g1:fs[s].vars[k]=fs[s].h.params[k]:=by simp[A,List.getElem_append_left g5]
   rw[m7]at f4;rw[g1]at U R;have c1:=G.c1;obtain⟨V,n1,X,n3,n4,Y⟩:=Bx.cells (k:=u.kind) (x:=u.text) (m:=u.num) (ln:=u.line) (co:=u.col) (ks:=u.kids) (show Bx wr.1.size (.mk u.kind u.text u.num u.line u.col u.kids) (.slice qa na ca) Z from m5.o);have p2:(k:Int) < (fs[s].vars.length:Nat):=by omega
   have f9:=hI G.en;have g7:fs[s]? = some fs[s]:=by simp
   generalize hT:fs[s].h.params[k].t=T at *;obtain⟨T0,T1⟩:=T;clear G f0 f1 f2 f3 f5 v0 v3 A g1 m3 k0 k1 k2 k3 k4 k5;refine wRg (S:=fun w'=>Below Z.1.size Z w') 18 ?_;refine wTk 0 17 (.slice q7 n7 c7) ?_ (bD Z) ?_
   ·intro _ y;go_simp
   refine wTk 1 18 (.pointer (some ⟨B,0,none⟩)) ?_ (bD Z) ?_
   ·intro _ y;go_simp
   refine wTk 2 19 (.agg #[.string ⟨u.kind.toArray⟩, .string ⟨u.text.toArray⟩, .int .u64 u.num, .int .i64 u.line, .int .i64 u.col, .slice qa na ca]) ?_ (bD Z) ?_
   ·intro _ y;obtain⟨c1,f4,U,R,V,n1,X,n3,n4,Y⟩:=kP10 y c1 f4 U R V n1 X n3 n4 Y;go_simp
   refine wTk 3 20 (.pointer (some ⟨B,0,none⟩)) ?_ (bD Z) ?_
   ·intro _ y;go_simp
   refine wTk 4 21 (.pointer (some ⟨B,0,none⟩)) ?_ (bD Z) ?_
   ·intro _ y;go_simp
   refine wTk 5 22 (.pointer (some ⟨B,0,none⟩)) ?_ (bD Z) ?_
   ·intro _ y;go_simp
   refine wTk 6 23 (.pointer (some ⟨B,1,none⟩)) ?_ (bD Z) ?_
   ·intro _ y;go_simp
   refine wTk 7 24 (.slice (some ⟨F,0,none⟩) fs.length FC) ?_ (bD Z) ?_
   ·intro _ y;obtain⟨c1,f4,U,R,V,n1,X,n3,n4,Y⟩:=kP10 y c1 f4 U R V n1 X n3 n4 Y;go_simp
   refine wTk 8 25 (.int .i64 s) ?_ (bD Z) ?_
   ·intro _ y;go_simp
   refine wTk 9 26 (.pointer (some ⟨F,s * 6,none⟩)) ?_ (bD Z) ?_
   ·intro _ y;go_simp
   refine wTk 10 27 (.pointer (some ⟨F,s * 6+4,none⟩)) ?_ (bD Z) ?_
   ·intro _ y;go_simp
   refine wTk 11 28 (.slice (some ⟨gV,0,none⟩) fs[s].vars.length cV) ?_ (bD Z) ?_
   ·intro _ y;obtain⟨c1,f4,U,R,V,n1,X,n3,n4,Y⟩:=kP10 y c1 f4 U R V n1 X n3 n4 Y;go_simp
   refine wTk 12 29 (.int .i64 k) ?_ (bD Z) ?_
   ·intro _ y;go_simp
   refine wTk 13 30 (.pointer (some ⟨gV,k * 4,none⟩)) ?_ (bD Z) ?_
   ·intro _ y;go_simp
   refine wTk 14 31 (.pointer (some ⟨gV,k * 4+1,none⟩)) ?_ (bD Z) ?_
   ·intro _ y;go_simp
   refine wTk 15 32 (.agg #[.int .i64 T0, .bool T1]) ?_ (bD Z) ?_
   ·intro _ y;obtain⟨c1,f4,U,R,V,n1,X,n3,n4,Y⟩:=kP10 y c1 f4 U R V n1 X n3 n4 Y;go_simp
   refine wOn 16 fun K C=>?_
   go_simp;refine(m6.o B L ⟨gs,(fs.getD ci noF).vars⟩ (.slice qa na ca) (T0,T1) _ ⟨_,_,_,_,_,_,_,_,f9.o.below (Below.refl _ _).drew⟩ (by simp;omega) (xZ.move (fun g hg hok=>⟨hok,(I.o.drew.block g (by omega))⟩) u _ g8.o)).mono ?_;rintro e w2 hX;rcases hX.cases with⟨a,uu,hp,rfl,⟨kv,rfl,J⟩,z⟩ | ⟨ln,co,code,hp,rfl,z⟩;rotate_left
   ·exact⟨rfl,zP.badI (by rw[HF.o,HA.o,hp];rfl) ⟨rfl,d2.o.trans ((I.o.trans ((zF z).mono (by omega))).mono d7)⟩⟩
   obtain⟨d9,⟨f8,f7⟩,an,av,ag,al,ac,ak⟩:=a;have z:=zF z;simp only[World.size_drew]at J;simp only[exV,Ex.kids]at *;refine kK C z ?_;clear C K;have m4:=hI (d2.o.trans ((I.o.trans (z.mono (by omega))).mono d7));have hs2:=z.size;have d5:=hI ((d6.o.below I.o).below (show Below Z.1.size Z w2 from z));have d4:=d6.o.lt;have g9:=hI (J.mono (ok':=fun g=>W.1.size<=g/\some g≠(Value.slice q7 n7 c7).ownBlock) (fun g hg=>⟨by omega,fun e=>by have:=(d4 g e.symm).2;omega⟩));have HP:=hI hp;have f6:=hI (show Below Z.1.size Z w2 from z);clear hX hp J z d4 c1 f4 U R V n1 X n3 n4 Y f9;refine wOn 17 fun K C=>?_
   go_simp;refine kK C (bal f6.o _) ?_;clear C K;refine wOn 18 fun K C=>?_
   refine qYU (dd:=35) (e:=.mk d9 (f8,f7) an av ag al ac ak) (u:=kv) (acc:=acc) (lo:=W.1.size) _ _ rfl rfl d5.o g9.o (by omega) rfl rfl rfl (by omega) (fun v9 w9 hb9 hg9=>?_);refine kD C ?_;clear C K;obtain⟨q9,n9,c9,rfl⟩:=hb9.shape;have m9:=hg9.size;simp at m9;have m2:=hI (Below.grown (m4.o.trans (((Below.refl w2.1.size w2).alloc (Nat.le_refl _) _).mono (by omega))) hg9 (by simp;omega) (fun j e=>(d5.o.lt j e).1));have n6:=hI hb9;clear hb9 hg9;refine wOn 19 fun K C=>?_
   go_simp;refine kD C ?_;clear C K;refine wDn ?_ _;go_wp2
   refine⟨⟨k+1,acc++[.mk d9 (f8,f7) an av ag al ac ak],by omega,rfl,by simp;omega,n6.o,?_,m2.o⟩,by simp[intOf];omega⟩;rw[HF.o,HA.o,HP.o,CR.bind_assoc];generalize wM ⟨gs,(fs.getD ci noF).vars⟩ (List.drop (k+1) ts) (List.drop (k+1) fs[s].h.params)=r;cases r <;> simp[CR.bind]
  ·have HE:=hI (show wM ⟨gs,(fs.getD ci noF).vars⟩ ts fs[s].h.params=.ok acc by rw[HF.o,List.drop_eq_nil_of_le (by omega),wM];simp[CR.bind]);go_wp2
   go_ret;exact zP.okI HE.o d6.o.lies d2.o
structure jO(N:Nat)(op:List UInt8)(l c:Int)(tv ev:Value)(fn:Int)(hv lv:Value)(w:World):Prop where
 c0:w.cell? ⟨N,0,none⟩=some (.string ⟨op.toArray⟩)
 c1:w.cell? ⟨N,1,none⟩=some (.int .i64 l)
 c2:w.cell? ⟨N,2,none⟩=some (.int .i64 c)
 c3:w.cell? ⟨N,3,none⟩=some tv
 c4:w.cell? ⟨N,4,none⟩=some ev
 c5:w.cell? ⟨N,5,none⟩=some (.int .i64 fn)
 c6:w.cell? ⟨N,6,none⟩=some hv
 c7:w.cell? ⟨N,7,none⟩=some lv
 f:∀ k,k < 8->w.frozen? ⟨N,k,none⟩=false
theorem jO.a{N:Nat}{op:List UInt8}{l c:Int}{tv ev:Value}{fn:Int}{hv lv:Value}{w:World}(h:jO N op l c tv ev fn hv lv w):w.cell? ⟨N,0,none⟩=some (.string ⟨op.toArray⟩)/\w.cell? ⟨N,1,none⟩=some (.int .i64 l)/\w.cell? ⟨N,2,none⟩=some (.int .i64 c)/\w.cell? ⟨N,3,none⟩=some tv/\w.cell? ⟨N,4,none⟩=some ev/\w.cell? ⟨N,5,none⟩=some (.int .i64 fn)/\w.cell? ⟨N,6,none⟩=some hv/\w.cell? ⟨N,7,none⟩=some lv/\True:=⟨h.c0,h.c1,h.c2,h.c3,h.c4,h.c5,h.c6,h.c7,trivial⟩
theorem jO.b{N:Nat}{op:List UInt8}{l c:Int}{tv ev:Value}{fn:Int}{hv lv:Value}{w:World}(h:jO N op l c tv ev fn hv lv w):w.frozen? ⟨N,0,none⟩=false/\w.frozen? ⟨N,1,none⟩=false/\w.frozen? ⟨N,2,none⟩=false/\w.frozen? ⟨N,3,none⟩=false/\w.frozen? ⟨N,4,none⟩=false/\w.frozen? ⟨N,5,none⟩=false/\w.frozen? ⟨N,6,none⟩=false/\w.frozen? ⟨N,7,none⟩=false/\True:=⟨h.f 0 (by decide),h.f 1 (by decide),h.f 2 (by decide),h.f 3 (by decide),h.f 4 (by decide),h.f 5 (by decide),h.f 6 (by decide),h.f 7 (by decide),trivial⟩
def sxO(op:List UInt8)(l c:Int)(tv ev:Value)(fn:Int)(hv lv:Value):Obj:=.cells #[.string ⟨op.toArray⟩, .int .i64 l, .int .i64 c,tv,ev, .int .i64 fn,hv,lv] 73
section
variable {N:Nat} {op:List UInt8} {l c:Int} {tv ev:Value} {fn:Int} {hv lv:Value} {w w':World}
theorem jO.new(op:List UInt8)(l c:Int)(tv ev:Value)(fn:Int)(hv lv:Value)(w:World):jO w.1.size op l c tv ev fn hv lv (w.alloc (sxO op l c tv ev fn hv lv)):=by
 unfold sxO;constructor
 case f=>intro k j;match k,j with | 0,_=>simp[go_sem] | 1,_=>simp[go_sem] | 2,_=>simp[go_sem] | 3,_=>simp[go_sem] | 4,_=>simp[go_sem] | 5,_=>simp[go_sem] | 6,_=>simp[go_sem] | 7,_=>simp[go_sem]
 all_goals simp[go_sem]
theorem jO.lt(h:jO N op l c tv ev fn hv lv w):N < w.1.size:=qJ h.c0
theorem jO.turn(h:jO N op l c tv ev fn hv lv w)(hb:w'.1[N]? = w.1[N]?):jO N op l c tv ev fn hv lv w' :=
 have k:∀ {o:Nat} {v:Value},w.cell? ⟨N,o,none⟩=some v->w'.cell? ⟨N,o,none⟩=some v:=fun e=>(cB hb).trans e
 ⟨k h.c0,k h.c1,k h.c2,k h.c3,k h.c4,k h.c5,k h.c6,k h.c7,fun j hj=>(World.frozen?_of_block hb).trans (h.f j hj)⟩
theorem jO.below(h:jO N op l c tv ev fn hv lv w)(hb:Below w.1.size w w'):jO N op l c tv ev fn hv lv w':=h.turn (hb.block N h.lt)
theorem jO.setE(h:jO N op l c tv ev fn hv lv w)(v:Value):jO N op l c tv v fn hv lv (w.setCell ⟨N,4,none⟩ v):=by
 have⟨z,y,h2,h3,h4,C,s,A,_⟩:=h.a;have hf:=h.f;constructor
 case f=>intro j o;have:=hf j o;simp[go_sem, *]
 all_goals simp[go_sem, *]
theorem jO.setT(h:jO N op l c tv ev fn hv lv w)(v:Value):jO N op l c v ev fn hv lv (w.setCell ⟨N,3,none⟩ v):=by
 have⟨z,y,h2,h3,h4,C,s,A,_⟩:=h.a;have hf:=h.f;constructor
 case f=>intro j o;have:=hf j o;simp[go_sem, *]
 all_goals simp[go_sem, *]
theorem jO.setF(h:jO N op l c tv ev fn hv lv w)(n:Int):jO N op l c tv ev n hv lv (w.setCell ⟨N,5,none⟩ (.int .i64 n)):=by
 have⟨z,y,h2,h3,h4,C,s,A,_⟩:=h.a;have hf:=h.f;constructor
 case f=>intro j o;have:=hf j o;simp[go_sem, *]
 all_goals simp[go_sem, *]
theorem jO.setO(h:jO N op l c tv ev fn hv lv w)(x:List UInt8):jO N x l c tv ev fn hv lv (w.setCell ⟨N,0,none⟩ (.string ⟨x.toArray⟩)):=by
 have⟨z,y,h2,h3,h4,C,s,A,_⟩:=h.a;have hf:=h.f;constructor
 case f=>intro j o;have:=hf j o;simp[go_sem, *]
 all_goals simp[go_sem, *]
end
def qQY{α:Type}(NS:Nat)(p:CR α)(R:α->World->Prop)(w:World)(e:Ending)(w':World):Prop :=
 match p with
 | .ok a=>e=.returned (.tuple #[])/\R a w'/\w.grownBy w' (some NS)
 | .bad ln co code=>e=.panicked [{ v:=xO ln co code,recovered:=false }]/\w.grownBy w' (some NS)
theorem qQY.okI{α:Type}{NS:Nat}{p:CR α}{R:α->World->Prop}{w w':World}{a:α}(hp:p=.ok a)(j:R a w')(hg:w.grownBy w' (some NS)):qQY NS p R w (.returned (.tuple #[])) w':=by
 rw[hp];exact⟨rfl,j,hg⟩
theorem qQY.badI{α:Type}{NS:Nat}{p:CR α}{R:α->World->Prop}{w w':World}{ln co code:Int}(hp:p=.bad ln co code)(hg:w.grownBy w' (some NS)):qQY NS p R w (.panicked [{ v:=xO ln co code,recovered:=false }]) w':=by
 rw[hp];exact⟨rfl,hg⟩
theorem yY{fs:List FnM}{i:Nat}(h:i < fs.length):fs.getD i noF=fs[i]:=by simp[List.getD_eq_getElem?_getD,h]
def qXp(E:Env)(ret:Ty)(t:qQ):CR (List Ex):=(jQ (decide (ret=noT) == decide (t.kids.length=0)) t 41).bind fun _=>vD E t.kids ret
theorem leave_any(B L NS:Nat)(gs:List qI)(fs:List FnM)(ci:Nat)(k x:List UInt8)(m ln co:Int)(ks:List qQ)(q:Option Addr)(cp:Nat)(op:List UInt8)(sl sc:Int)(tv ev:Value)(fn:Int)(hv lv:Value)(w:World)
 (hw:qZV ks=true) (f8:ks.length<=2) (h:RAt B gs fs ci w) (hL:L<=w.1.size) (s:yD L w ks q) (hS:jO NS op sl sc tv ev fn hv lv w) :
 Calls prog 138 #[.pointer (some ⟨B,0,none⟩),qZ (.mk k x m ln co ks) (.slice q ks.length cp), .pointer (some ⟨NS,0,none⟩)] w
  (qQY NS (qXp ⟨gs,(fs.getD ci noF).vars⟩ (fs.getD ci noF).h.t (.mk k x m ln co ks)) (fun es w'=>∃ kv,jO NS op sl sc tv kv fn hv lv w'/\qU w' (fun g=>w.1.size<=g) es kv) w):=by
 have J:=hI (bal (Below.refl w.1.size w) (qB (.mk k x m ln co ks) (.slice q ks.length cp)));have HN:=hI (Bx.new (.mk k x m ln co ks) (.slice q ks.length cp) w);have HR:=hI (h.below J.o);have HK:=hI (s.keep (J.o.mono hL));have R:=hI (hS.below J.o);have g0:=hS.lt;have g1:(w.alloc (qB (.mk k x m ln co ks) (.slice q ks.length cp))).1.size=w.1.size+1:=by simp
 have f9:B < w.1.size:=by
  obtain⟨FC,Mf,gv,Mg,Mo,Mr,F,cl,hR⟩:=h;exact qJ hR.c1
 have d5:∃ F FC,w.cell? ⟨B,7,none⟩=some (.pointer (some ⟨F,ci * 6,none⟩))/\w.cell? ⟨F,ci * 6+1,none⟩=some (.int .i64 (fs.getD ci noF).h.t.1)/\w.cell? ⟨F,ci * 6+2,none⟩=some (.bool (fs.getD ci noF).h.t.2)/\FC=F:=by
  obtain⟨FC,Mf,gv,Mg,Mo,Mr,F,cl,hR⟩:=h;obtain⟨f0,f1,f2,f3,f4,f5⟩:=qZv hR.frow hR.hi;rw[yY hR.hi];exact⟨F,F,hR.en.c7,f1,f2,rfl⟩
 obtain⟨F,_,c7,f1,f2,_⟩:=d5;have hF:F < w.1.size:=qJ f1;have d2:=hI (qXZ ks hw);generalize f7:(fs.getD ci noF).h.t=T at *;obtain⟨V,T1⟩:=T;have I:=hI (show qXp ⟨gs,(fs.getD ci noF).vars⟩ (V,T1) (.mk k x m ln co ks)=(jQ (decide (((V,T1):Ty)=noT) == decide (ks.length=0)) (.mk k x m ln co ks) 41).bind fun _=>vD ⟨gs,(fs.getD ci noF).vars⟩ ks (V,T1)from rfl);have U:=hI (fun b w'=>qQk b (.mk k x m ln co ks) (.slice q ks.length cp) 41 w');clear h s hS hw;simp only[qZ,qB,qS,qQ.kind,qQ.text,qQ.num,qQ.line,qQ.col,qQ.kids]at *;have d6:∃ b:Bool,b=decide (((V,T1):Ty)=noT):=⟨_,rfl⟩;obtain⟨vb,d7⟩:=d6;have g2:=hI d7;have f6:V=0/\T1=false\/V=0/\T1=true\/¬V=0:=by cases T1 <;> by_cases V=0 <;> simp_all
 clear d7;rcases f6 with⟨rfl,rfl⟩ | ⟨rfl,rfl⟩ | h0
 ·skip
  go_enter func138,ntmps138
  go_wp2_with fail
  generalize (w.alloc _)=W at *;refine(U.o _ _).mono ?_;rintro e j (⟨hbt,rfl,hb3⟩ | ⟨hbt,rfl,hb3⟩);rotate_left
  ·refine⟨rfl,qQY.badI (ln:=ln) (co:=co) (code:=41) ?_ (zV (J.o.trans (hb3.mono (by omega))) _)⟩;rw[I.o];simp at hbt;simp[jQ,CR.bind,noT,hbt,qQ.line,qQ.col]
  have HQ:=hI (show qXp ⟨gs,(fs.getD ci noF).vars⟩ (0,false) (.mk k x m ln co ks)=vD ⟨gs,(fs.getD ci noF).vars⟩ ks (0,false) by
   rw[I.o];simp at hbt;simp[jQ,CR.bind,noT,hbt])
  have A:=hI (J.o.trans (hb3.mono (by omega)));have hs3:=hb3.size;have X:=hI (HR.o.below hb3);have d3:=hI (HK.o.keep (hb3.mono (by omega)));have Z:=hI (R.o.below hb3);obtain⟨n0,n1,n2,n3,n4,G⟩:=(HN.o.below hb3).cells;obtain⟨c7,f1,f2⟩:=kP3 A.o c7 f1 f2;clear hbt hb3 I U HR HK R;go_wp2
  refine wRg (S:=fun w'=>Below j.1.size j w') 14 ?_;refine wTk 0 24 (.pointer (some ⟨NS,0,none⟩)) ?_ (bD j) ?_
  ·intro _ y;go_simp
  refine wTk 1 25 (.pointer (some ⟨B,0,none⟩)) ?_ (bD j) ?_
  ·intro _ y;go_simp
  refine wTk 2 26 (.pointer (some ⟨w.1.size,5,none⟩)) ?_ (bD j) ?_
  ·intro _ y;go_simp
  refine wTk 3 27 (.slice q ks.length cp) ?_ (bD j) ?_
  ·intro _ y;obtain⟨c7,f1,f2,G⟩:=kP4 y c7 f1 f2 G;go_simp
  refine wTk 4 28 (.pointer (some ⟨B,0,none⟩)) ?_ (bD j) ?_
  ·intro _ y;go_simp
  refine wTk 5 29 (.pointer (some ⟨B,0,none⟩)) ?_ (bD j) ?_
  ·intro _ y;go_simp
  refine wTk 6 30 (.pointer (some ⟨B,7,none⟩)) ?_ (bD j) ?_
  ·intro _ y;go_simp
  refine wTk 7 31 (.pointer (some ⟨F,ci * 6,none⟩)) ?_ (bD j) ?_
  ·intro _ y;obtain⟨c7,f1,f2,G⟩:=kP4 y c7 f1 f2 G;go_simp
  refine wTk 8 32 (.pointer (some ⟨F,ci * 6,none⟩)) ?_ (bD j) ?_
  ·intro _ y;go_simp
  refine wTk 9 33 (.pointer (some ⟨F,ci * 6+1,none⟩)) ?_ (bD j) ?_
  ·intro _ y;go_simp
  refine wTk 10 34 (.agg #[.int .i64 0, .bool false]) ?_ (bD j) ?_
  ·intro _ y;obtain⟨c7,f1,f2,G⟩:=kP4 y c7 f1 f2 G;go_simp
  refine wOn 11 fun K s=>?_
  go_simp;refine(qZs B L ⟨gs,(fs.getD ci noF).vars⟩ ks q cp (0,false) _ d2.o (RAt.en (X.o.below (Below.refl _ _).drew)) (by simp;omega) (d3.o.keep (Below.refl _ _).drew) (by omega)).mono ?_;rintro e w4 hX;rcases hX.cases with⟨es,u,hp,rfl,z,hb4⟩ | ⟨l',c',code,hp,rfl,hb4⟩;rotate_left
  ·exact⟨rfl,qQY.badI (by rw[HQ.o,hp]) (zV (A.o.trans ((zF hb4).mono (by omega))) _)⟩
  obtain⟨uq,uc,rfl⟩:=z.shape;have hb4:=zF hb4;have d8:=hb4.size;refine kK s hb4 ?_;clear s K;have C:=hI (Z.o.below hb4);have O:=hI (show Below j.1.size j w4 from hb4);have d4:=hI (A.o.trans (hb4.mono (by omega)));have Y:=hI (z.mono (ok':=fun g=>w.1.size+1<=g) (fun g hg=>by simp at hg;omega));have HE:=hI (HQ.o.trans hp);have s4:=C.o.c4;have d9:=C.o.f 4 nL;clear n0 n1 n2 n3 n4 G c7 f1 f2 hX hp z hb4;refine wOn 12 fun K s=>?_
  go_simp;refine kK s O.o ?_;clear s K;refine wOn 13 fun K s=>?_
  go_simp;refine kK s O.o ?_;clear s K;refine wOn 14 fun K s=>?_
  go_simp;refine kD s ?_;clear s K;refine wDn ?_ _;go_wp2
  go_end0;exact qQY.okI HE.o ⟨_,C.o.setE _,qU.mono (qU.setN Y.o (by omega) _) (fun g hg=>by omega)⟩ (vC (zV d4.o _) _)
 ·skip
  go_enter func138,ntmps138
  go_wp2_with fail
  generalize (w.alloc _)=W at *;refine(U.o _ _).mono ?_;rintro e j (⟨hbt,rfl,hb3⟩ | ⟨hbt,rfl,hb3⟩);rotate_left
  ·refine⟨rfl,qQY.badI (ln:=ln) (co:=co) (code:=41) ?_ (zV (J.o.trans (hb3.mono (by omega))) _)⟩;rw[I.o];simp at hbt;simp[jQ,CR.bind,noT,hbt,qQ.line,qQ.col]
  have HQ:=hI (show qXp ⟨gs,(fs.getD ci noF).vars⟩ (0,true) (.mk k x m ln co ks)=vD ⟨gs,(fs.getD ci noF).vars⟩ ks (0,true) by
   rw[I.o];simp at hbt;simp[jQ,CR.bind,noT,hbt])
  have A:=hI (J.o.trans (hb3.mono (by omega)));have hs3:=hb3.size;have X:=hI (HR.o.below hb3);have d3:=hI (HK.o.keep (hb3.mono (by omega)));have Z:=hI (R.o.below hb3);obtain⟨n0,n1,n2,n3,n4,G⟩:=(HN.o.below hb3).cells;obtain⟨c7,f1,f2⟩:=kP3 A.o c7 f1 f2;clear hbt hb3 I U HR HK R;go_wp2
  refine wRg (S:=fun w'=>Below j.1.size j w') 14 ?_;refine wTk 0 24 (.pointer (some ⟨NS,0,none⟩)) ?_ (bD j) ?_
  ·intro _ y;go_simp
  refine wTk 1 25 (.pointer (some ⟨B,0,none⟩)) ?_ (bD j) ?_
  ·intro _ y;go_simp
  refine wTk 2 26 (.pointer (some ⟨w.1.size,5,none⟩)) ?_ (bD j) ?_
  ·intro _ y;go_simp
  refine wTk 3 27 (.slice q ks.length cp) ?_ (bD j) ?_
  ·intro _ y;obtain⟨c7,f1,f2,G⟩:=kP4 y c7 f1 f2 G;go_simp
  refine wTk 4 28 (.pointer (some ⟨B,0,none⟩)) ?_ (bD j) ?_
  ·intro _ y;go_simp
  refine wTk 5 29 (.pointer (some ⟨B,0,none⟩)) ?_ (bD j) ?_
  ·intro _ y;go_simp
  refine wTk 6 30 (.pointer (some ⟨B,7,none⟩)) ?_ (bD j) ?_
  ·intro _ y;go_simp
  refine wTk 7 31 (.pointer (some ⟨F,ci * 6,none⟩)) ?_ (bD j) ?_
  ·intro _ y;obtain⟨c7,f1,f2,G⟩:=kP4 y c7 f1 f2 G;go_simp
  refine wTk 8 32 (.pointer (some ⟨F,ci * 6,none⟩)) ?_ (bD j) ?_
  ·intro _ y;go_simp
  refine wTk 9 33 (.pointer (some ⟨F,ci * 6+1,none⟩)) ?_ (bD j) ?_
  ·intro _ y;go_simp
  refine wTk 10 34 (.agg #[.int .i64 0, .bool true]) ?_ (bD j) ?_
  ·intro _ y;obtain⟨c7,f1,f2,G⟩:=kP4 y c7 f1 f2 G;go_simp
  refine wOn 11 fun K s=>?_
  go_simp;refine(qZs B L ⟨gs,(fs.getD ci noF).vars⟩ ks q cp (0,true) _ d2.o (RAt.en (X.o.below (Below.refl _ _).drew)) (by simp;omega) (d3.o.keep (Below.refl _ _).drew) (by omega)).mono ?_;rintro e w4 hX;rcases hX.cases with⟨es,u,hp,rfl,z,hb4⟩ | ⟨l',c',code,hp,rfl,hb4⟩;rotate_left
  ·exact⟨rfl,qQY.badI (by rw[HQ.o,hp]) (zV (A.o.trans ((zF hb4).mono (by omega))) _)⟩
  obtain⟨uq,uc,rfl⟩:=z.shape;have hb4:=zF hb4;have d8:=hb4.size;refine kK s hb4 ?_;clear s K;have C:=hI (Z.o.below hb4);have O:=hI (show Below j.1.size j w4 from hb4);have d4:=hI (A.o.trans (hb4.mono (by omega)));have Y:=hI (z.mono (ok':=fun g=>w.1.size+1<=g) (fun g hg=>by simp at hg;omega));have HE:=hI (HQ.o.trans hp);have s4:=C.o.c4;have d9:=C.o.f 4 nL;clear n0 n1 n2 n3 n4 G c7 f1 f2 hX hp z hb4;refine wOn 12 fun K s=>?_
  go_simp;refine kK s O.o ?_;clear s K;refine wOn 13 fun K s=>?_
  go_simp;refine kK s O.o ?_;clear s K;refine wOn 14 fun K s=>?_
  go_simp;refine kD s ?_;clear s K;refine wDn ?_ _;go_wp2
  go_end0;exact qQY.okI HE.o ⟨_,C.o.setE _,qU.mono (qU.setN Y.o (by omega) _) (fun g hg=>by omega)⟩ (vC (zV d4.o _) _)
 ·skip
  go_enter func138,ntmps138
  go_wp2_with fail
  generalize (w.alloc _)=W at *;refine(U.o _ _).mono ?_;rintro e j (⟨hbt,rfl,hb3⟩ | ⟨hbt,rfl,hb3⟩);rotate_left
  ·refine⟨rfl,qQY.badI (ln:=ln) (co:=co) (code:=41) ?_ (zV (J.o.trans (hb3.mono (by omega))) _)⟩;rw[I.o];simp at hbt;simp[jQ,CR.bind,noT,hbt,h0,qQ.line,qQ.col]
  have HQ:=hI (show qXp ⟨gs,(fs.getD ci noF).vars⟩ (V,T1) (.mk k x m ln co ks)=vD ⟨gs,(fs.getD ci noF).vars⟩ ks (V,T1) by
   rw[I.o];simp at hbt;simp[jQ,CR.bind,noT,hbt,h0])
  have A:=hI (J.o.trans (hb3.mono (by omega)));have hs3:=hb3.size;have X:=hI (HR.o.below hb3);have d3:=hI (HK.o.keep (hb3.mono (by omega)));have Z:=hI (R.o.below hb3);obtain⟨n0,n1,n2,n3,n4,G⟩:=(HN.o.below hb3).cells;obtain⟨c7,f1,f2⟩:=kP3 A.o c7 f1 f2;clear hbt hb3 I U HR HK R;go_wp2
  refine wRg (S:=fun w'=>Below j.1.size j w') 14 ?_;refine wTk 0 24 (.pointer (some ⟨NS,0,none⟩)) ?_ (bD j) ?_
  ·intro _ y;go_simp
  refine wTk 1 25 (.pointer (some ⟨B,0,none⟩)) ?_ (bD j) ?_
  ·intro _ y;go_simp
  refine wTk 2 26 (.pointer (some ⟨w.1.size,5,none⟩)) ?_ (bD j) ?_
  ·intro _ y;go_simp
  refine wTk 3 27 (.slice q ks.length cp) ?_ (bD j) ?_
  ·intro _ y;obtain⟨c7,f1,f2,G⟩:=kP4 y c7 f1 f2 G;go_simp
  refine wTk 4 28 (.pointer (some ⟨B,0,none⟩)) ?_ (bD j) ?_
  ·intro _ y;go_simp
  refine wTk 5 29 (.pointer (some ⟨B,0,none⟩)) ?_ (bD j) ?_
  ·intro _ y;go_simp
  refine wTk 6 30 (.pointer (some ⟨B,7,none⟩)) ?_ (bD j) ?_
  ·intro _ y;go_simp
  refine wTk 7 31 (.pointer (some ⟨F,ci * 6,none⟩)) ?_ (bD j) ?_
  ·intro _ y;obtain⟨c7,f1,f2,G⟩:=kP4 y c7 f1 f2 G;go_simp
  refine wTk 8 32 (.pointer (some ⟨F,ci * 6,none⟩)) ?_ (bD j) ?_
  ·intro _ y;go_simp
  refine wTk 9 33 (.pointer (some ⟨F,ci * 6+1,none⟩)) ?_ (bD j) ?_
  ·intro _ y;go_simp
  refine wTk 10 34 (.agg #[.int .i64 V, .bool T1]) ?_ (bD j) ?_
  ·intro _ y;obtain⟨c7,f1,f2,G⟩:=kP4 y c7 f1 f2 G;go_simp
  refine wOn 11 fun K s=>?_
  go_simp;refine(qZs B L ⟨gs,(fs.getD ci noF).vars⟩ ks q cp (V,T1) _ d2.o (RAt.en (X.o.below (Below.refl _ _).drew)) (by simp;omega) (d3.o.keep (Below.refl _ _).drew) (by omega)).mono ?_;rintro e w4 hX;rcases hX.cases with⟨es,u,hp,rfl,z,hb4⟩ | ⟨l',c',code,hp,rfl,hb4⟩;rotate_left
  ·exact⟨rfl,qQY.badI (by rw[HQ.o,hp]) (zV (A.o.trans ((zF hb4).mono (by omega))) _)⟩
  obtain⟨uq,uc,rfl⟩:=z.shape;have hb4:=zF hb4;have d8:=hb4.size;refine kK s hb4 ?_;clear s K;have C:=hI (Z.o.below hb4);have O:=hI (show Below j.1.size j w4 from hb4);have d4:=hI (A.o.trans (hb4.mono (by omega)));have Y:=hI (z.mono (ok':=fun g=>w.1.size+1<=g) (fun g hg=>by simp at hg;omega));have HE:=hI (HQ.o.trans hp);have s4:=C.o.c4;have d9:=C.o.f 4 nL;clear n0 n1 n2 n3 n4 G c7 f1 f2 hX hp z hb4;refine wOn 12 fun K s=>?_
  go_simp;refine kK s O.o ?_;clear s K;refine wOn 13 fun K s=>?_
  go_simp;refine kK s O.o ?_;clear s K;refine wOn 14 fun K s=>?_
  go_simp;refine kD s ?_;clear s K;refine wDn ?_ _;go_wp2
  go_end0;exact qQY.okI HE.o ⟨_,C.o.setE _,qU.mono (qU.setN Y.o (by omega) _) (fun g hg=>by omega)⟩ (vC (zV d4.o _) _)
theorem qJc(L:Nat)(t u:qQ)(r:List qQ)(v:Value)(w:World)(z:t.kids=u :: r)(ht:qKi w)(hL:L<=w.1.size)(hl:xZ w (· < L) t v)(hx:t.text.length<=1000000) :
 Calls prog 100 #[qZ t v] w fun e w'=>e=.returned (qXK (qZr t))/\Below w.1.size w w':=by
 obtain⟨q,c,rfl,f3,d8,j⟩:=hl.kids;have O:=hI (bal (bal (Below.refl w.1.size w) (qB t (.slice q t.kids.length c))) (qYx qZU));have HN:=hI ((Bx.new t (.slice q t.kids.length c) w).below (bal (Below.refl _ _) (qYx qZU)));have HV:=hI (qQB.new qZU (w.alloc (qB t (.slice q t.kids.length c))));simp only[World.size_alloc]at HV;have HK:=hI (j.keep (O.o.mono hL));have HT:=hI (fun w' (hb:Below w.1.size w w')=>ht.below hb);have HD:=hI (show qZr t=⟨t.text,tyL u.text,0⟩ by unfold qZr;rw[z];rfl);have d9:((w.alloc (qB t (.slice q t.kids.length c))).alloc (qYx qZU)).1.size=w.1.size+2:=by simp
 clear j hl ht;obtain⟨k,x,m,ln,co,ks⟩:=t;simp only[qZ,qB,qS,qYx,qQe,qZU,qQ.kind,qQ.text,qQ.num,qQ.line,qQ.col,qQ.kids]at *;have s:0 < ks.length:=by rw[z];simp
 have d3:ks[0]=u:=by simp[z]
 have d5:=hI d3;clear z d3;go_enter func100,ntmps100
 go_wp2
 generalize ((w.alloc _).alloc _)=W at *;obtain⟨n0,Y,n2,n3,n4,J⟩:=HN.o.cells;obtain⟨g,Z,rfl,hR⟩:=HK.o.resolve_left (fun e=>by rw[e]at s;simp at s);obtain⟨qa,na,ca,d2,A⟩:=hR.2 0 s;rw[d5.o]at A d2;simp only[Nat.zero_mul,Nat.add_zero]at A;have⟨G,k1,I,X,R,V,_⟩:=A.a;have C:=hI (fun w' (hb:Below w.1.size w w')=>qKd u (.slice qa na ca) w' (HT.o w' hb));have d6:(0:Int) < (ks.length:Nat):=by omega
 unfold qZ at C;generalize hU:tyL u.text=U at *;obtain⟨U0,U1⟩:=U;unfold tyV at C;have d7:=hI hU;clear hU;clear A d2 hR;simp only at *;refine wRg (S:=fun w'=>Below W.1.size W w') 9 ?_;refine wTk 0 3 (.pointer (some ⟨w.1.size,1,none⟩)) ?_ (bD W) ?_
 ·intro _ y;go_simp
 refine wTk 1 4 (.string ⟨x.toArray⟩) ?_ (bD W) ?_
 ·intro _ y;obtain⟨Y,J,G,k1,I,X,R,V⟩:=kP8 y Y J G k1 I X R V;go_simp
 refine wTk 3 6 (.pointer (some ⟨w.1.size,5,none⟩)) ?_ (bD W) ?_
 ·intro _ y;go_simp
 refine wTk 4 7 (.slice (some ⟨g,Z,none⟩) ks.length c) ?_ (bD W) ?_
 ·intro _ y;obtain⟨Y,J,G,k1,I,X,R,V⟩:=kP8 y Y J G k1 I X R V;go_simp
 refine wTk 5 8 (.pointer (some ⟨g,Z,none⟩)) ?_ (bD W) ?_
 ·intro _ y;go_simp
 refine wTk 6 9 (.agg #[.string ⟨u.kind.toArray⟩, .string ⟨u.text.toArray⟩, .int .u64 u.num, .int .i64 u.line, .int .i64 u.col, .slice qa na ca]) ?_ (bD W) ?_
 ·intro _ y;obtain⟨Y,J,G,k1,I,X,R,V⟩:=kP8 y Y J G k1 I X R V;go_simp
 refine wOn 2 fun K j=>?_
 go_simp;refine(yP ⟨x.toArray⟩ _ (by simpa[ByteArray.size]using hx)).mono ?_;rintro e w3 ⟨rfl,hb3⟩;have hb3:=zF hb3;refine kK j hb3 ?_;clear j K;refine wOn 7 fun K j=>?_
 go_simp;refine(C.o _ (O.o.trans (hb3.mono (by omega)))).mono ?_;rintro e w4 ⟨rfl,hb4⟩;have hb5:=hb3.trans (hb4.mono hb3.size);refine kK j hb5 ?_;clear j K;refine wOn 8 fun K j=>?_
 go_simp;refine kK j hb5 ?_;clear j K;have hV:=HV.o.below hb5;have⟨v0,v1,v2,v3,_⟩:=hV.a;have⟨g0,g1,g2,g3,_⟩:=hV.b;have HW:=hI (O.o.trans (hb5.mono (by omega)));have d4:=hV.lt;clear hV hb3 hb4 hb5 n0 Y n2 n3 n4 J G k1 I X R V;refine wOn 9 fun K j=>?_
 go_simp;refine kD j ?_;clear j K;refine wDn ?_ _;go_wp2
 refine bodyPost_ret (v:=qXK ⟨x,(U0,U1),0⟩) (by simp[results,results100,go_sem,qXK,v0,v1,v2,v3,d4]) rfl ⟨by rw[HD.o];show Ending.returned (qXK ⟨x,(U0,U1),0⟩)=Ending.returned (qXK ⟨x,tyL u.text,0⟩);rw[d7.o],?_⟩;exact jR (jR (jR (jR HW.o (Nat.le_add_right _ _) _) (Nat.le_add_right _ _) _) (Nat.le_add_right _ _) _) (Nat.le_add_right _ _) _
def jX(w:World)(b:Nat)(T:TypeId):Prop:=∃ cs fr,w.1[b]? = some (.cells cs T fr)
theorem jX.turn{w w':World}{b:Nat}{T:TypeId}(h:jX w b T)(hb:w'.1[b]? = w.1[b]?):jX w' b T:=by
 obtain⟨j,o,h⟩:=h;exact⟨j,o,hb.trans h⟩
theorem zE{w:World}{base T size n:Nat}{v:Value}{xs:List Value}(h:w.ownsRow base T size v n xs){g:Nat}(hg:v.ownBlock=some g):jX w g T:=by
 rcases h.2 with⟨rfl,_⟩ | ⟨g',s,o,rfl,_,j,_⟩
 ·cases hg
 ·injection hg with hg;subst hg;exact⟨o,_,j⟩
theorem jX.ne{w:World}{a b:Nat}{S T:TypeId}(h:jX w a S)(k:jX w b T)(j:S≠T):a≠b:=by
 rintro rfl;obtain⟨y,z,h⟩:=h;obtain⟨o,s,k⟩:=k;rw[h]at k;injection k with k;injection k with _ k _;exact j k
theorem wY.isMap{w:World}{b:Nat}{L:List (List UInt8)}(h:wY w b L):∃ j c,w.1[b]? = some (.map j c):=by
 obtain⟨D,⟨j,c,o,_⟩,_⟩:=h;exact⟨j,c,o⟩
theorem qJs.isMap{w:World}{b:Nat}{cl:vE}(h:qJs w b cl):∃ j c,w.1[b]? = some (.map j c):=by
 obtain⟨n,D,⟨j,c,o,_⟩,_⟩:=h;exact⟨j,c,o⟩
theorem vU{w:World}{a b:Nat}{T:TypeId}(h:∃ j c,w.1[a]? = some (.map j c))(k:jX w b T):a≠b:=by
 rintro rfl;obtain⟨j,c,h⟩:=h;obtain⟨o,s,k⟩:=k;rw[h]at k;cases k
structure WIn(B L:Nat)(gs:List qI)(fs:List FnM)(ci FC Mf:Nat)(gv:Value)(Mg Mo Mr F:Nat)(cl:vE)(w:World):Prop where
 rd:RIn B gs fs ci FC Mf gv Mg Mo Mr F cl w
 kb:jX w B 121
 kc:jX w cl.c 135
 ke:jX w cl.eq 136
 mg:Mo≠Mg
 mf:Mo≠Mf
 mr:Mo≠Mr
 lo:L<=Mo/\L<=F/\4 < L/\L<=B
 lv:∀ g,(fs.getD ci noF).vv.ownBlock=some g->L<=g/\some g≠gv.ownBlock/\∀ j,j < fs.length->j≠ci->some g≠(fs.getD j noF).vv.ownBlock
 wt:∃ b off cap,qZo b off cap w/\b < L
structure yX(F Mo:Nat)(vv:Value)(w w':World):Prop where
 os:w'.os=w.os
 tape:w'.tape=w.tape
 output:w'.output=w.output
 size:w.1.size<=w'.1.size
 block:∀ k,k < w.1.size->k≠F->k≠Mo->some k≠vv.ownBlock->w'.1[k]? = w.1[k]?
theorem yX.of_below{F Mo:Nat}{vv:Value}{w w':World}(h:Below w.1.size w w'):yX F Mo vv w w':=⟨h.os,h.tape,h.output,h.size,fun k hk _ _ _=>h.block k hk⟩
theorem yX.trans{F Mo:Nat}{vv vv':Value}{u v w:World}(h:yX F Mo vv u v)(k:yX F Mo vv' v w)(hv:vv'.ownBlock=vv.ownBlock\/∃ g,u.1.size<=g/\vv'.ownBlock=some g):yX F Mo vv u w :=
 ⟨k.os.trans h.os,k.tape.trans h.tape,k.output.trans h.output,Nat.le_trans h.size k.size,fun b hb h1 h2 h3=>(k.block b (Nat.lt_of_lt_of_le hb h.size) h1 h2 (fun e=>by
  rcases hv with hv | ⟨g,hg,hv⟩
  ·exact h3 (e.trans hv)
  ·rw[hv]at e;injection e with e;omega)).trans (h.block b hb h1 h2 h3)⟩
def xU(fs:List FnM)(ci:Nat)(own:List qI)(vv:Value):List FnM:=fs.set ci { fs.getD ci noF with vars:=own,vv:=vv }
theorem qZC{fs:List FnM}{ci:Nat}(h:ci < fs.length)(own:List qI)(vv:Value):(xU fs ci own vv).getD ci noF={ fs.getD ci noF with vars:=own,vv:=vv }:=by
 simp[xU,List.getD_eq_getElem?_getD,h]
theorem wV{fs:List FnM}{ci j:Nat}(h:j≠ci)(own:List qI)(vv:Value):(xU fs ci own vv).getD j noF=fs.getD j noF:=by
 simp[xU,List.getD_eq_getElem?_getD,List.getElem?_set,Ne.symm h]
theorem qJY{fs:List FnM}{ci:Nat}(h:ci < fs.length)(own:List qI)(vv:Value):(xU fs ci own vv).map (·.h)=fs.map (·.h):=by
 apply List.ext_getElem?;intro i;by_cases hi:i=ci
 ·subst hi;simp[xU,List.getD_eq_getElem?_getD,h]
 ·simp[xU,List.getElem?_set,Ne.symm hi]
theorem kW(fs:List FnM)(ci:Nat)(own:List qI)(vv:Value):(xU fs ci own vv).length=fs.length:=by simp[xU]
theorem qXB{fs:List FnM}{ci:Nat}(h:ci < fs.length):xU fs ci (fs.getD ci noF).vars (fs.getD ci noF).vv=fs:=by
 unfold xU;apply List.ext_getElem?;intro i;by_cases hi:i=ci
 ·subst hi;simp[List.getD_eq_getElem?_getD,h]
 ·simp[List.getElem?_set,Ne.symm hi]
theorem qJZ(fs:List FnM){ci:Nat}(h:ci < fs.length)(own j:List qI)(vv vv':Value):xU (xU fs ci own vv) ci j vv'=xU fs ci j vv':=by
 have e:=qZC h own vv;unfold xU at *;rw[e,List.set_set]
theorem WIn.below{B L:Nat}{gs:List qI}{fs:List FnM}{ci FC Mf:Nat}{gv:Value}{Mg Mo Mr F:Nat}{cl:vE}{w w':World}(h:WIn B L gs fs ci FC Mf gv Mg Mo Mr F cl w)(hb:Below w.1.size w w'):WIn B L gs fs ci FC Mf gv Mg Mo Mr F cl w':=by
 have y:∀ {b T},jX w b T->jX w' b T:=fun k=>k.turn (hb.block _ (by obtain⟨A,C,k⟩:=k;exact qZF k))
 obtain⟨b,j,s,z,o⟩:=h.wt;exact⟨h.rd.below hb,y h.kb,y h.kc,y h.ke,h.mg,h.mf,h.mr,h.lo,h.lv,b,j,s,z.below hb,o⟩
theorem qVC{α:Type}{f:α->List Value}{n:Nat}(hf:∀ a,(f a).length=n):∀ (L:List α) (i k:Nat) (a':α) (u:Value) (h:i < L.length),k < n->f a'=(f L[i]).set k u->xD f (L.set i a')=(xD f L).set (i * n+k) u
 | a :: r,0,k,a',u,_,hk,he=>by
  simp only[List.getElem_cons_zero]at he;rw[List.set_cons_zero,xD,xD,he,Nat.zero_mul,Nat.zero_add,List.set_append_left _ _ (by rw[hf];exact hk)]
 | a :: r,i+1,k,a',u,h,hk,he=>by
  simp only[List.getElem_cons_succ]at he;have e:(i+1) * n+k=n+(i * n+k):=by rw[Nat.add_mul];omega
  rw[List.set_cons_succ,xD,xD,qVC hf r i k a' u (by simpa using h) hk he,e,List.set_append_right _ _ (by rw[hf];omega),hf,Nat.add_sub_cancel_left]
 | [],_,_,_,_,h,_,_=>by simp at h
theorem qZQ{fs:List FnM}{f:FnM}(h:f∈fs):∃ j,j < fs.length/\fs.getD j noF=f:=by
 obtain⟨j,o,e⟩:=List.mem_iff_getElem.1 h;exact⟨j,o,by rw[yY o,e]⟩
section
variable {B L:Nat} {gs:List qI} {fs:List FnM} {ci FC Mf:Nat} {gv:Value} {Mg Mo Mr F:Nat} {cl:vE} {w w':World}
theorem WIn.grow(h:WIn B L gs fs ci FC Mf gv Mg Mo Mr F cl w){d:qI}{vv':Value}(T:yX F Mo (fs.getD ci noF).vv w w')
 (hm:wY w' Mo ((fs.getD ci noF).vars.map (·.name)++[d.name])) (d7:w'.ownsRow 0 42 4 vv' ((fs.getD ci noF).vars.length+1) (xD qQe (fs.getD ci noF).vars++qQe d))
 (hF:∀ X,w.1[F]? = some (.cells X 40 (0,0))->w'.1[F]? = some (.cells (X.setIfInBounds (ci * 6+4) vv') 40 (0,0)))
 (J:vv'.ownBlock=(fs.getD ci noF).vv.ownBlock\/∃ g,w.1.size<=g/\vv'.ownBlock=some g) (f5:(fs.getD ci noF).vars.length < 64) :
 WIn B L gs (xU fs ci ((fs.getD ci noF).vars++[d]) vv') ci FC Mf gv Mg Mo Mr F cl w':=by
 have hi:=h.rd.hi;have e:=h.rd.en;have d3:=e.om.isMap;have kF:jX w F 40:=zE h.rd.frow rfl;have kV:∀ g,(fs.getD ci noF).vv.ownBlock=some g->jX w g 42:=fun g hg=>zE e.vrow hg
 -- a block of another kind,or below L,stays
 have st:∀ b,b < w.1.size->b≠F->b≠Mo->some b≠(fs.getD ci noF).vv.ownBlock->w'.1[b]? = w.1[b]?:=T.block;have O:∀ {b S},jX w b S->S≠40->S≠42->w'.1[b]? = w.1[b]?:=fun {b S} k h1 h2=>by
  have G:b < w.1.size:=by obtain⟨cs,fr,k⟩:=k;exact qZF k
  exact st b G (k.ne kF h1) (fun e=>vU d3 k e.symm) (fun e=>(k.ne (kV b e.symm) h2) rfl)
 have d2:∀ {b},(∃ es c,w.1[b]? = some (.map es c))->b≠Mo->w'.1[b]? = w.1[b]?:=fun {b} k hne=>by
  have G:b < w.1.size:=by obtain⟨es,c,k⟩:=k;exact qZF k
  exact st b G (vU k kF) hne (fun e=>vU k (kV b e.symm) rfl)
 have V:∀ b,b < w.1.size->b < L->w'.1[b]? = w.1[b]?:=fun b hb hL=>st b hb (by have:=h.lo;omega) (by have:=h.lo;omega) (fun e=>by have:=(h.lv b e.symm).1;omega)
 have C:=O h.kb (by decide) (by decide);have s:∀ {b o u},w'.1[b]? = w.1[b]?->w.cell? ⟨b,o,none⟩=some u->w'.cell? ⟨b,o,none⟩=some u:=fun hb hc=>(cB hb).trans hc
 have f4:∀ g,gv.ownBlock=some g->w'.1[g]? = w.1[g]?:=fun g hg=>by
  have k:jX w g 42:=zE e.grow hg;have G:=(e.grow.lt g hg).2;exact st g G (k.ne kF (by decide)) (fun e=>vU d3 k e.symm) (fun e=>by have:=(h.lv g e.symm).2.1;exact this hg.symm)
 have d9:∀ j,j < fs.length->j≠ci->∀ g,(fs.getD j noF).vv.ownBlock=some g->w'.1[g]? = w.1[g]?:=fun j z hne g hg=>by
  have hr:qQI w 0 (fs.getD j noF).vars (fs.getD j noF).vv:=by rw[yY z];exact h.rd.vrow _ (List.getElem_mem _)
  have k:jX w g 42:=zE hr hg;have G:=(hr.lt g hg).2;exact st g G (k.ne kF (by decide)) (fun e=>vU d3 k e.symm) (fun e=>(h.lv g e.symm).2.2 j z hne hg.symm)
 have y:=qZC hi ((fs.getD ci noF).vars++[d]) vv';have U:qQI w' 0 ((fs.getD ci noF).vars++[d]) vv':=by
  unfold qQI;rw[lL,qZt];simpa[xD]using d7
 obtain⟨b,Z,d4,I,d6⟩:=h.wt;have Y:qZo b Z d4 w':=by
  have s4:=V 4 (qJ I.tg) h.lo.2.2.1;have sb:w'.1[b]? = w.1[b]?:=V b (qJ (I.tn 0 (by omega))) d6;exact⟨s s4 I.tg,fun i hi=>s sb (I.tn i hi),fun i hi=>s sb (I.tw i hi),fun i hi=>s sb (I.ts i hi)⟩
 have R:w'.ownsRow 0 40 6 (.slice (some ⟨F,0,none⟩) fs.length FC) fs.length (xD fnC (xU fs ci ((fs.getD ci noF).vars++[d]) vv')):=by
  have f3:xD fnC (xU fs ci ((fs.getD ci noF).vars++[d]) vv')=(xD fnC fs).set (ci * 6+4) vv':=by
   unfold xU;refine qVC qZu fs ci 4 _ vv' hi (by omega) ?_;rw[yY hi];rfl
  refine⟨by rw[qVB qZu,kW], .inr ?_⟩;rcases h.rd.frow.2 with⟨hx,_⟩ | ⟨g,cp,X,hs,hb,hg,h1,h2,h3,h4⟩
  ·cases hx
  ·injection hs with hs1 hs2 hs3;injection hs1 with hs1;injection hs1 with hs1 _ _;subst hs1 hs3;exact⟨F,FC,_,rfl,hb,hF X hg,h1,h2,by simpa using h3,by rw[f3,<-h4];simp[List.take_set]⟩
 have d5:w'.cell? ⟨F,ci * 6+4,none⟩=some vv':=by
  have hl:ci < (xU fs ci ((fs.getD ci noF).vars++[d]) vv').length:=by rw[kW];exact hi
  have d8:=R;rw[<-kW fs ci ((fs.getD ci noF).vars++[d]) vv']at d8;have:=qQm (i:=ci) (k:=4) qZu d8 rfl hl (by omega) (u:=vv') (by
   have e2:=yY hl;rw[y]at e2;rw[<-e2];rfl)
  exact this
 have r1:w'.1[(1:Nat)]? = w.1[(1:Nat)]?:=V 1 (qJ e.b0) (by have:=h.lo;omega);have r2:w'.1[(2:Nat)]? = w.1[(2:Nat)]?:=V 2 (qJ e.d0) (by have:=h.lo;omega);refine⟨⟨by rw[kW];exact hi,?_,?_,s C h.rd.c4,?_,?_,?_,?_,?_,?_⟩,h.kb.turn C,h.kc.turn (O h.kc (by decide) (by decide)),h.ke.turn (O h.ke (by decide) (by decide)),h.mg,h.mf,h.mr,h.lo,?_,b,Z,d4,Y,d6⟩
 ·rw[y];exact⟨s C e.c0,s C e.c3,s C e.c6,s C e.c7,s C e.c8,d5,zU e.grow f4,U,e.gm.kept (d2 e.gm.isMap (Ne.symm h.mg)),by rw[List.map_append];exact hm,
   (by obtain⟨n,D,⟨es,k,g1,g2⟩,g3⟩:=e.rm;exact⟨n,D,⟨es,k,(d2 e.rm.isMap (Ne.symm h.mr)).trans g1,g2⟩,g3⟩),s (O h.kc (by decide) (by decide)) e.cc,s (O h.ke (by decide) (by decide)) e.ce,⟨b,Z,d4,Y⟩,s r1 e.b0,s r1 e.b1,s r2 e.d0,s r2 e.d1,e.gl,by simp only[lL,lO,lZ];omega⟩
 ·rw[kW];exact s C h.rd.c1
 ·rw[kW];exact R
 ·intro f hf;obtain⟨j,z,rfl⟩:=qZQ hf;rw[kW]at z;by_cases A:j=ci
  ·subst A;rw[y];exact U
  ·rw[wV A];have hr:qQI w 0 (fs.getD j noF).vars (fs.getD j noF).vv:=by rw[yY z];exact h.rd.vrow _ (List.getElem_mem _)
   exact zU hr (d9 j z A)
 ·rw[qJY hi];exact h.rd.fm.kept (d2 h.rd.fm.isMap (Ne.symm h.mf))
 ·intro f hf;obtain⟨j,z,rfl⟩:=qZQ hf;rw[kW]at z;by_cases A:j=ci
  ·subst A;rw[y];obtain⟨rest,hr⟩:=h.rd.par (fs.getD j noF) (by rw[yY z];exact List.getElem_mem _);exact⟨rest++[d],by show _++[d]=_++(rest++[d]);rw[hr,List.append_assoc]⟩
  ·rw[wV A,yY z];exact h.rd.par _ (List.getElem_mem _)
 ·rw[kW];exact h.rd.fl
 ·intro f hf;obtain⟨j,z,rfl⟩:=qZQ hf;rw[kW]at z;by_cases A:j=ci
  ·subst A;rw[y];simp only[lL,lO,lZ];omega
  ·rw[wV A,yY z];exact h.rd.vl _ (List.getElem_mem _)
 ·rw[y];intro g hg;change vv'.ownBlock=some g at hg;rcases J with J | ⟨g',f6,J⟩
  ·rw[J]at hg;obtain⟨h1,h2,h3⟩:=h.lv g hg;refine⟨h1,h2,fun j z hne=>?_⟩;rw[kW]at z;rw[wV hne];exact h3 j z hne
  ·rw[J]at hg;injection hg with hg;subst hg;refine⟨?_,fun e2=>?_,fun j z hne e2=>?_⟩
   ·have:=h.lo;have:=h.rd.frow.lt F rfl;omega
   ·have:=(e.grow.lt g' e2.symm).2;omega
   ·rw[kW]at z;rw[wV hne,yY z]at e2;have:=((h.rd.vrow _ (List.getElem_mem z)).lt g' e2.symm).2;omega
end
theorem qZL{w:World}{b:Nat}{L:List qI}{v:Value}(h:qQI w b L v):∃ q c,v=.slice q L.length c:=by
 rcases h.2 with⟨rfl,s⟩ | ⟨g,j,o,rfl,_⟩
 ·exact⟨none,0,by rw[s]⟩
 ·exact⟨_,_,rfl⟩
theorem qYb{w:World}{base T size n:Nat}{v:Value}{xs:List Value}(h:w.ownsRow base T size v n xs){g:Nat}(hg:v.ownBlock=some g)(o:Nat):w.frozen? ⟨g,o,none⟩=false:=by
 rcases h.2 with⟨rfl,_⟩ | ⟨g',s,y,rfl,_,j,_⟩
 ·cases hg
 ·injection hg with hg;subst hg;simp[World.frozen?,j]
def qKS(B L:Nat)(gs:List qI)(fs:List FnM)(ci FC Mf:Nat)(gv:Value)(Mg Mo Mr F:Nat)(cl:vE)(p:CR (List qI))(w:World)(e:Ending)(w':World):Prop :=
 match p with
 | .ok own'=>e=.returned (.tuple #[])/\∃ vv',WIn B L gs (xU fs ci own' vv') ci FC Mf gv Mg Mo Mr F cl w'/\yX F Mo (fs.getD ci noF).vv w w'/\(vv'.ownBlock=(fs.getD ci noF).vv.ownBlock\/∃ g,w.1.size<=g/\vv'.ownBlock=some g)
 | .bad ln co code=>e=.panicked [{ v:=xO ln co code,recovered:=false }]/\yX F Mo (fs.getD ci noF).vv w w'
theorem qKS.badI{B L:Nat}{gs:List qI}{fs:List FnM}{ci FC Mf:Nat}{gv:Value}{Mg Mo Mr F:Nat}{cl:vE}{p:CR (List qI)}{w w':World}{ln co code:Int}(hp:p=.bad ln co code)(hb:Below w.1.size w w') :
 qKS B L gs fs ci FC Mf gv Mg Mo Mr F cl p w (.panicked [{ v:=xO ln co code,recovered:=false }]) w':=by
 rw[hp];exact⟨rfl,yX.of_below hb⟩
theorem qKS.okI{B L:Nat}{gs:List qI}{fs:List FnM}{ci FC Mf:Nat}{gv:Value}{Mg Mo Mr F:Nat}{cl:vE}{p:CR (List qI)}{w w':World}{j:List qI}(hp:p=.ok j)(vv':Value)(h:WIn B L gs (xU fs ci j vv') ci FC Mf gv Mg Mo Mr F cl w')(hT:yX F Mo (fs.getD ci noF).vv w w')
 (hv:vv'.ownBlock=(fs.getD ci noF).vv.ownBlock\/∃ g,w.1.size<=g/\vv'.ownBlock=some g):qKS B L gs fs ci FC Mf gv Mg Mo Mr F cl p w (.returned (.tuple #[])) w':=by
 rw[hp];exact⟨rfl,vv',h,hT,hv⟩
theorem qVo(v:qI):∀ u∈qQe v,u.oneCell'=true:=by
 intro u j;simp[qQe]at j;rcases j with rfl | rfl | rfl | rfl <;> rfl
theorem local_any(B L:Nat)(gs:List qI)(fs:List FnM)(ci FC Mf:Nat)(gv:Value)(Mg Mo Mr F:Nat)(cl:vE)(t u:qQ)(r:List qQ)(v:Value)(w:World)(h:WIn B L gs fs ci FC Mf gv Mg Mo Mr F cl w)
 (m4:t.kids=u :: r) (hL:L<=w.1.size) (hl:xZ w (· < L) t v) (hx:t.text.length<=1000000) :
 Calls prog 121 #[.pointer (some ⟨B,0,none⟩),qZ t v] w (qKS B L gs fs ci FC Mf gv Mg Mo Mr F cl (qJJ (fs.getD ci noF).vars t) w):=by
 obtain⟨q,c,rfl,s4,r8,A⟩:=hl.kids;have g5:=hI (bal (Below.refl w.1.size w) (qB t (.slice q t.kids.length c)));have HN:=hI (Bx.new t (.slice q t.kids.length c) w);have HW:=hI (h.below g5.o);have p8:=hI (fun w' (hb:Below w.1.size w w')=>qJc L t u r (.slice q t.kids.length c) w' m4 (h.rd.en.wt.below hb) (by have:=hb.size;omega) (xZ.move (fun g hg hok=>⟨hok,hb.block g (by omega)⟩) t _ hl) hx);have m1:=hI (show qJJ (fs.getD ci noF).vars t=(jQ (qQj t.text 0 (fs.getD ci noF).vars).isNone t 40).bind fun _=>(jQ (decide ((fs.getD ci noF).vars.length < 64)) t 45).bind fun _=>.ok ((fs.getD ci noF).vars++[qZr t])from rfl);have g0:=hI (fun cd w'=>qQl t (.slice q t.kids.length c) cd w');have m6:=hI (fun cd w'=>qQ5 t (.slice q t.kids.length c) cd w');have p0:=hI (fun b cd w'=>qQk b t (.slice q t.kids.length c) cd w');have s1:(w.alloc (qB t (.slice q t.kids.length c))).1.size=w.1.size+1:=by simp
 have m9:=hI (show(qZr t).name=t.text from rfl);have H0:=hI h;have s0:B < w.1.size:=qJ h.rd.c1;clear h hl A m4;obtain⟨k,x,m,ln,co,ks⟩:=t;generalize hD:qZr (.mk k x m ln co ks)=D at *;simp only[qZ,qB,qS,qQ.kind,qQ.text,qQ.num,qQ.line,qQ.col,qQ.kids]at *;go_enter func121,ntmps121
 go_wp2
 generalize (w.alloc _)=W at *;obtain⟨n0,n1,n2,n3,n4,n5⟩:=HN.o.cells;have e:=HW.o.rd.en;have c8:=e.c8;have g1:=(e.om.below (Below.refl _ _).drew).look x (by unfold maxLen;omega);cases hlo:qQj x 0 (fs.getD ci noF).vars with
 | some p =>
  obtain⟨p1,p2⟩:=p;have HP:=hI (m1.o.trans (by rw[hlo];rfl:_=.bad ln co 40));obtain⟨e1,e2,_⟩:=qJL hlo;rw[e1,e2]at g1;clear e e1 e2 hlo;go_region
  go_wp2_with fail
  refine(m6.o _ _).mono ?_;rintro e w3 ⟨rfl,hb3⟩;exact⟨rfl,qKS.badI HP.o (g5.o.trans ((zF hb3).mono (by omega)))⟩
 | none =>
  have HP:=hI (m1.o.trans (by rw[hlo];rfl:_=(jQ (decide ((fs.getD ci noF).vars.length < 64)) (.mk k x m ln co ks) 45).bind fun _=>.ok ((fs.getD ci noF).vars++[D])));obtain⟨e1,e2⟩:=qXq hlo;have f4:=qZI.1.1 hlo;have n6:=hI f4;rw[e1,e2]at g1;clear e e1 e2 hlo f4;go_region
  go_wp2_with fail
  refine(g0.o _ _).mono ?_;rintro e w3 ⟨rfl,hb3⟩;have hb3:=zF hb3;have d2:=hI (HW.o.below hb3);have f9:=hI (g5.o.trans (hb3.mono (by omega)));obtain⟨n0,n1,n2,n3,n4,n5⟩:=(HN.o.below hb3).cells;have p3:=hI (HN.o.below hb3);obtain⟨vq,vc,d5⟩:=qZL d2.o.rd.en.vrow;simp only at d5;have c7:=d2.o.rd.en.c7;have fv:=d2.o.rd.en.fv;rw[d5]at fv;have O:=hI d5;have hs3:=f9.o.size;clear hb3 g1 c8 HW d5;by_cases C:(fs.getD ci noF).vars.length < 64
  ·have f3:=hI C;have HQ:=hI (HP.o.trans (by rw[decide_eq_true C];rfl:_=.ok ((fs.getD ci noF).vars++[D])));have d8:((fs.getD ci noF).vars.length:Int) < 64:=by omega
   have r0:=hI (show ∃ ol:Nat,ol=(fs.getD ci noF).vars.length from⟨_,rfl⟩);obtain⟨ol,R⟩:=r0.o;have s:=hI R;rw[<-R]at fv d8;clear R C;go_wp2_with fail
   refine(g0.o _ _).mono ?_;rintro e w4 ⟨rfl,hb4⟩;have n7:=hI (d2.o.below hb4);have g3:=hI (f9.o.trans (hb4.mono hs3));have n8:=hI (p3.o.below hb4);obtain⟨n0,n1,n2,n3,n4,n5⟩:=n8.o.cells;have m3:=hI (p8.o w4 g3.o);have r3:=g3.o.size;clear hb4 c7 fv p3 d2;go_wp2_with fail
   refine(m3.o).mono ?_;rintro e V ⟨rfl,hb5⟩;unfold qXK;have g6:=hI (n7.o.below hb5);have m7:=hI (g3.o.trans (hb5.mono r3));have p9:=m7.o.size;have hz:=bal (Below.refl V.1.size V) (qYx D);have j:=hI (g6.o.below hz);have z:=hI (qQB.new D V);have Y:=hI (m7.o.trans (hz.mono p9));have r6:(V.alloc (qYx D)).1.size=V.1.size+1:=by simp
   have r7:Mo < V.1.size:=g6.o.rd.en.om.lt;unfold qYx qQe at *;clear n0 n1 n2 n3 n4 n5 hb5 hz m3 n8 n7 g0 m6 p0;go_wp2
   generalize (V.alloc _)=Z at *;have c8:=j.o.rd.en.c8;have v0:=z.o.c0;obtain⟨U,X,n9,d4⟩:=(j.o.rd.en.om.below (Below.refl _ _).drew).store D.name (by rw[m9.o];unfold maxLen;omega) (by rw[m9.o];exact n6.o) (by simp only[List.length_map];have:=f3.o;omega);have f7:(((fs.getD ci noF).vars.map (·.name)).length:Int)=(ol:Nat):=by rw[List.length_map,s.o]
   try simp only at f7 X
   rw[f7]at X;refine wRg (S:=fun w'=>Below Z.1.size Z w') 7 ?_;refine wTk 0 36 (.pointer (some ⟨B,0,none⟩)) ?_ (bD Z) ?_
   ·intro _ y;go_simp
   refine wTk 1 37 (.pointer (some ⟨B,0,none⟩)) ?_ (bD Z) ?_
   ·intro _ y;go_simp
   refine wTk 2 38 (.pointer (some ⟨B,8,none⟩)) ?_ (bD Z) ?_
   ·intro _ y;go_simp
   refine wTk 3 39 (.map (some Mo)) ?_ (bD Z) ?_
   ·intro _ y;have c8:=kP y c8;have v0:=kP y v0;go_simp
   refine wTk 4 40 (.pointer (some ⟨V.1.size,0,none⟩)) ?_ (bD Z) ?_
   ·intro _ y;go_simp
   refine wTk 5 41 (.string ⟨D.name.toArray⟩) ?_ (bD Z) ?_
   ·intro _ y;have c8:=kP y c8;have v0:=kP y v0;go_simp
   refine wTk 6 42 (.int .i64 ol) ?_ (bD Z) ?_
   ·intro _ y;go_simp
   refine wOn 7 fun K A=>?_
   go_simp;refine kD A ?_;clear A K;refine wDn ?_ _;have hM:=j.o.rd.en.om.isMap;have k6:∀ b,b < Z.1.size->b≠Mo->U.1[b]? = Z.1[b]?:=fun b hb hne=>d4.block b hb (fun e=>hne (by injection e))
   have kF:jX Z F 40:=zE j.o.rd.frow rfl;have d6:F≠Mo:=(vU hM kF).symm;have p6:B≠Mo:=(vU hM j.o.kb).symm;have d7:V.1.size≠Mo:=by omega
   have kc:∀ {b o u},b < Z.1.size->b≠Mo->Z.cell? ⟨b,o,none⟩=some u->U.cell? ⟨b,o,none⟩=some u:=fun hb hne hc=>(cB (k6 _ hb hne)).trans hc
   have p4:=qJ j.o.rd.c1;have m0:=j.o.rd.frow.lt F rfl;have c7:=kc p4 p6 j.o.rd.en.c7;have fv:=kc m0.2 d6 j.o.rd.en.fv;try simp only at fv
   rw[O.o,<-s.o]at fv;have v0:=kc z.o.lt d7 z.o.c0;have v1:=kc z.o.lt d7 z.o.c1;have v2:=kc z.o.lt d7 z.o.c2;have v3:=kc z.o.lt d7 z.o.c3;have G:∀ g,(Value.slice vq ol vc).ownBlock=some g->jX Z g 42/\g < V.1.size:=fun g hg=>by
    have hr:=g6.o.rd.en.vrow;try simp only at hr
    rw[O.o,<-s.o]at hr;have g4:=j.o.rd.en.vrow;try simp only at g4
    rw[O.o,<-s.o]at g4;exact⟨zE g4 hg,(hr.lt g hg).2⟩
   have d9:some B≠(Value.slice vq ol vc).ownBlock:=fun e=>(j.o.kb.ne (G B e.symm).1 (by decide)) rfl
   have I:some F≠(Value.slice vq ol vc).ownBlock:=fun e=>(kF.ne (G F e.symm).1 (by decide)) rfl
   have J:some V.1.size≠(Value.slice vq ol vc).ownBlock:=fun e=>by have:=(G _ e.symm).2;omega
   have d3:U.ownsRow 0 42 4 (.slice vq ol vc) ol (xD qQe (fs.getD ci noF).vars):=by
    have hr:=j.o.rd.en.vrow;try simp only at hr
    rw[O.o]at hr;unfold qQI at hr;rw[<-s.o]at hr;exact zU hr (fun g hg=>k6 g (by have:=(G g hg).2;omega) (vU hM (G g hg).1).symm)
   have m2:=hI d3;have s2:Z.1.size<=U.1.size:=d4.size;have g7:=hI d4;have r1:=hI n9;have g8:=hI k6;clear d4 n9 d3 k6 kc X c8 z;go_wp2
   refine wRg (S:=fun w'=>∀ b,b < U.1.size->some b≠(Value.slice vq ol vc).ownBlock->w'.1[b]? = U.1[b]?) 16 ?_;refine wTk 0 43 (.pointer (some ⟨B,0,none⟩)) ?_ ((fun _ _ _=>rfl)) ?_
   ·intro _ y;go_simp
   refine wTk 1 44 (.pointer (some ⟨B,0,none⟩)) ?_ ((fun _ _ _=>rfl)) ?_
   ·intro _ y;go_simp
   refine wTk 2 45 (.pointer (some ⟨B,7,none⟩)) ?_ ((fun _ _ _=>rfl)) ?_
   ·intro _ y;go_simp
   refine wTk 3 46 (.pointer (some ⟨F,ci * 6,none⟩)) ?_ ((fun _ _ _=>rfl)) ?_
   ·intro _ y;have c7:=(cB (y _ (qJ c7) d9)).trans c7;go_simp
   refine wTk 4 47 (.pointer (some ⟨B,0,none⟩)) ?_ ((fun _ _ _=>rfl)) ?_
   ·intro _ y;go_simp
   refine wTk 5 48 (.pointer (some ⟨B,0,none⟩)) ?_ ((fun _ _ _=>rfl)) ?_
   ·intro _ y;go_simp
   refine wTk 6 49 (.pointer (some ⟨B,7,none⟩)) ?_ ((fun _ _ _=>rfl)) ?_
   ·intro _ y;go_simp
   refine wTk 7 50 (.pointer (some ⟨F,ci * 6,none⟩)) ?_ ((fun _ _ _=>rfl)) ?_
   ·intro _ y;have c7:=(cB (y _ (qJ c7) d9)).trans c7;go_simp
   refine wTk 8 51 (.pointer (some ⟨F,ci * 6,none⟩)) ?_ ((fun _ _ _=>rfl)) ?_
   ·intro _ y;go_simp
   refine wTk 9 52 (.pointer (some ⟨F,ci * 6+4,none⟩)) ?_ ((fun _ _ _=>rfl)) ?_
   ·intro _ y;go_simp
   refine wTk 10 53 (.slice vq ol vc) ?_ ((fun _ _ _=>rfl)) ?_
   ·intro _ y;have fv:=(cB (y _ (qJ fv) I)).trans fv;go_simp
   refine wTk 11 54 (.agg #[.string ⟨D.name.toArray⟩, .int .i64 D.t.1, .bool D.t.2, .int .i64 D.size]) ?_ ((fun _ _ _=>rfl)) ?_
   ·intro _ y;have v0:=(cB (y _ (qJ v0) J)).trans v0;have v1:=(cB (y _ (qJ v1) J)).trans v1;have v2:=(cB (y _ (qJ v2) J)).trans v2;have v3:=(cB (y _ (qJ v3) J)).trans v3;go_simp
   refine wOn 12 fun K A=>?_
   go_simp;refine kK A (fun b hb _=>Below.heap_alloc U.drew _ b hb) ?_;clear A K;refine wOn 13 fun K A=>?_
   refine qQJ (lo:=0) (dd:=56) (news:=qQe D) underlying27 info42 (by decide) rfl (by decide) _ _ rfl rfl m2.o.drew (Nat.zero_le _) rfl rfl rfl rfl (qVo D) (by omega) (fun v9 w9 ho9 hg9 hbk9=>?_);obtain⟨q9,c9,rfl⟩:∃ q c,v9=.slice q (ol+1) c:=by
    rcases ho9.2 with⟨_,h0⟩ | ⟨g,r9,r5,rfl,_⟩
    ·omega
    ·exact⟨_,_,rfl⟩
   have S9:∀ b,b < U.1.size->some b≠(Value.slice vq ol vc).ownBlock->w9.1[b]? = U.1[b]?:=fun b hb hne=>(hg9.block b (by simp;omega) hne).trans (Below.heap_alloc U.drew _ b hb)
   refine kK A S9 ?_;clear A K;refine wOn 14 fun K A=>?_
   go_simp;refine kK A S9 ?_;clear A K;refine wOn 15 fun K A=>?_
   go_simp;refine kK A S9 ?_;clear A K;have m5:F < U.1.size:=qJ fv;have p7:=(cB (S9 F m5 I)).trans fv;have r4:w9.frozen? ⟨F,ci * 6+4,none⟩=false:=(World.frozen?_of_block (S9 F m5 I)).trans ((World.frozen?_of_block (g8.o F m0.2 d6)).trans (qYb j.o.rd.frow rfl _));have s3:U.1.size+1<=w9.1.size:=by have:=hg9.size;simpa using this
   refine wOn 16 fun K A=>?_
   go_simp;refine kD A ?_;clear A K;refine wDn ?_ _;have p5:=hI ho9;have g2:=hI hg9;have f8:=hI hbk9;have g9:=hI S9;clear c7 fv v0 v1 v2 v3 p7 r4 ho9 hg9 hbk9 S9;go_wp2
   go_end0;have hi:=H0.o.rd.hi
   -- blocks of the first world
   have base:∀ b,b < w.1.size->b≠F->b≠Mo->some b≠(fs.getD ci noF).vv.ownBlock->(w9.setCell ⟨F,ci * 6+4,none⟩ (.slice q9 (ol+1) c9)).1[b]? = w.1[b]?:=fun b hb h1 h2 h3=>by
    rw[hS _ _ _ _ h1];refine(g9.o b (by omega) ?_).trans ((g8.o b (by omega) h2).trans (Y.o.block b hb));rw[s.o,<-O.o];exact h3
   have hT:yX F Mo (fs.getD ci noF).vv w (w9.setCell ⟨F,ci * 6+4,none⟩ (.slice q9 (ol+1) c9)) :=
    ⟨(rfl:(w9.setCell ⟨F,ci * 6+4,none⟩ (.slice q9 (ol+1) c9)).os=w9.os).trans <| g2.o.os.trans (g7.o.os.trans Y.o.os),by simpa using g2.o.tape.trans (g7.o.tape.trans Y.o.tape),(rfl:(w9.setCell ⟨F,ci * 6+4,none⟩ (.slice q9 (ol+1) c9)).output=w9.output).trans <| g2.o.output.trans (g7.o.output.trans Y.o.output),by simp;omega,base⟩
   have f6:(Value.slice q9 (ol+1) c9).ownBlock=(fs.getD ci noF).vv.ownBlock\/∃ g,w.1.size<=g/\(Value.slice q9 (ol+1) c9).ownBlock=some g:=by
    rcases f8.o with h1 | h1
    ·left
     rw[h1,s.o,<-O.o]
    ·right
     exact⟨_,by simp;omega,h1⟩
   refine qKS.okI HQ.o _ ?_ hT f6;have r2:Mo≠F:=d6.symm;refine H0.o.grow (d:=D) hT ?_ ?_ ?_ f6 f3.o
   ·refine wY.kept r1.o ?_;rw[hS _ _ _ _ r2];exact g9.o Mo (by omega) (fun e=>vU hM (G Mo e.symm).1 rfl)
   ·rw[<-s.o];refine zU p5.o (fun g hg=>hS _ _ _ _ ?_);rcases f8.o with h1 | h1
    ·rw[h1]at hg;exact(kF.ne (G g hg).1 (by decide)).symm
    ·rw[h1]at hg;injection hg with hg;simp at hg;show g≠F
     omega
   ·intro r5 f5;refine Lib.heap_setCell_same ?_ _;exact(g9.o F (by omega) I).trans ((g8.o F m0.2 d6).trans ((Y.o.block F (qZF f5)).trans f5))
  ·have HQ:=hI (HP.o.trans (by rw[decide_eq_false C];rfl:_=.bad ln co 45));obtain⟨ol,R⟩:∃ ol:Nat,ol=(fs.getD ci noF).vars.length:=⟨_,rfl⟩;have d8:(64:Int)<=(ol:Nat):=by omega
   rw[<-R]at fv;clear C R;go_wp2_with fail
   refine(p0.o _ _ _).mono ?_;rintro e w4 (⟨hbt,rfl,hb4⟩ | ⟨hbt,rfl,hb4⟩)
   ·exfalso;have:=of_decide_eq_true hbt;omega
   exact⟨rfl,qKS.badI HQ.o (f9.o.trans (hb4.mono hs3))⟩
end Go.Proofs.YtiajhekdhhhghaaGreatDoor
