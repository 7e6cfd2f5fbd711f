/- Walks. -/
import Derived.Test.YtiajhekdhhhghaaGreatDoorNah
set_option linter.all false
set_option maxHeartbeats 8000000
set_option maxRecDepth 100000
namespace Go.Proofs.YtiajhekdhhhghaaGreatDoor
open Tryz Go.Proofs.Tryz
open Go Go.RowKit
theorem qVq{P:Program}{ops:Array Oper}{Q:Exit->Act->World->Prop}{md:Region.Mode}{S:World->Prop}{tail:Nat->Bool}{i j l:Nat}{o y z:Oper}{fuel:Nat}{s:Array Bool}{a:Act}{w:World}(hi:ops[i]? = some o)(I:ops[j]? = some y)(hl:ops[l]? = some z)(hr:Region.ready md ops s=[i,j,l])(J:Region.wanted o (yielded ops a.tmps)=true)(C:Region.wanted y (yielded ops a.tmps)=true)(A:Region.wanted z (yielded ops a.tmps)=true)
 (h:∀ K:Act->World->Prop,Shut (∀ a' w',(tail i=false->S w')->vR P md ops Q S tail fuel (s.setIfInBounds i true) a' w'->K a' w')->o.wp P a w K Q)
 (O:∀ K:Act->World->Prop,Shut (∀ a' w',(tail j=false->S w')->vR P md ops Q S tail fuel (s.setIfInBounds j true) a' w'->K a' w')->y.wp P a w K Q)
 (h2:∀ K:Act->World->Prop,Shut (∀ a' w',(tail l=false->S w')->vR P md ops Q S tail fuel (s.setIfInBounds l true) a' w'->K a' w')->z.wp P a w K Q):vR P md ops Q S tail (fuel+1) s a w:=by
 refine⟨fun h0=>(by rw[hr]at h0;cases h0),fun k hk=>?_⟩;rw[hr]at hk;have G:k=i\/k=j\/k=l:=by simpa using hk
 rcases G with rfl | rfl | rfl
 ·unfold wpOp;simp only[hi,J,if_true];exact .inl (h _ (fun a' w' h1 h2=>⟨h1,h2⟩))
 ·unfold wpOp;simp only[I,C,if_true];exact .inl (O _ (fun a' w' h1 h2=>⟨h1,h2⟩))
 ·unfold wpOp;simp only[hl,A,if_true];exact .inl (h2 _ (fun a' w' h1 h2=>⟨h1,h2⟩))
def CutX{X:Type}(F:Act->X->Act)(a:Act)(I:X->World->Prop)(J:List PanicEntry->World->Prop)(e:Exit)(a':Act)(w':World):Prop :=
 match e with
 | .normal=>∃ x,a'=F a x/\I x w'
 | .panic c=>a'.defers=[]/\J c w'
 | _=>False
theorem wp_cutX{P:Program}{c:Code}{Q:Exit->Act->World->Prop}{a:Act}{w:World}{X:Type}(F:Act->X->Act)(I:X->World->Prop)(J:List PanicEntry->World->Prop)(h:c.wp P (CutX F a I J) a w)(k:∀ x w',I x w'->Q .normal (F a x) w')(kp:∀ ch a' w',a'.defers=[]->J ch w'->Q (.panic ch) a' w'):c.wp P Q a w:=by
 refine wp_mono h ?_;intro e a' w' j;cases e with
 | normal =>
  obtain⟨N,rfl,o⟩:=j;exact k N w' o
 | exit id=>exact j.elim
 | goto l=>exact j.elim
 | ret=>exact j.elim
 | panic ch=>exact kp _ _ _ j.1 j.2
 | outgrown=>exact j.elim
theorem qPs(a b:Int)(c d:Bool):decide (((a,c):Ty)=(b,d))=(decide (a=b) && decide (c=d)):=by
 simp[Prod.mk.injEq]
def qVk(E:Env)(fs:List kI)(a b:qQ):CR (Ex×Nat×List Ex) :=
 (wJ E a).bind fun p=>(wI fs b).bind fun h=>(jQ (decide (h.1.t=p.ty)) b 41).bind fun _=>(wM E b.kids h.1.params).bind fun es=>.ok (p,h.2,es)
structure QIn(M:Mem)(fs:List FnM)(k x:List UInt8)(m ln co:Int)(ks:List qQ)(q:Option Addr)(cp NS:Nat)(op:List UInt8)(sl sc:Int)(tv ev:Value)(fn:Int)(w wr:World):Prop where
 gr:w.grownBy wr (some NS)
 mm:M.at fs wr
 nd:Bx w.1.size (.mk k x m ln co ks) (.slice q ks.length cp) wr
 sb:jO NS op sl sc tv ev fn (.slice none 0 0) (.slice none 0 0) wr
 kn:jX wr NS 73
 ka:yD M.L wr ks q
 hN:M.L<=NS/\NS < w.1.size
 hL:M.L<=w.1.size
 sz:w.1.size+1<=wr.1.size
section
variable {M:Mem} {fs:List FnM} {k x:List UInt8} {m ln co:Int} {ks:List qQ} {q:Option Addr} {cp NS:Nat} {op:List UInt8} {sl sc:Int} {tv ev:Value} {fn:Int} {w wr wr':World}
theorem QIn.below(h:QIn M fs k x m ln co ks q cp NS op sl sc tv ev fn w wr)(hb:Below wr.1.size wr wr'):QIn M fs k x m ln co ks q cp NS op sl sc tv ev fn w wr' :=
 have s:=h.sz;have hL:=h.hL
 ⟨qR h.gr (zV hb _),h.mm.below hb,h.nd.below hb,h.sb.below hb,h.kn.turn (hb.block _ h.kn.lt),h.ka.keep (hb.mono (by omega)),h.hN,h.hL,Nat.le_trans h.sz hb.size⟩
theorem QIn.store{op':List UInt8}{y z:Value}{j:Int}(h:QIn M fs k x m ln co ks q cp NS op sl sc tv ev fn w wr)(o:Nat)(u:Value)(hs:jO NS op' sl sc y z j (.slice none 0 0) (.slice none 0 0) (wr.setCell ⟨NS,o,none⟩ u)):QIn M fs k x m ln co ks q cp NS op' sl sc y z j w (wr.setCell ⟨NS,o,none⟩ u) :=
 have s:=h.hN
 ⟨vC h.gr u,Mem.setS h.mm h.kn s.1 o u,(hS wr ⟨NS,o,none⟩ u _ (by show w.1.size≠NS;omega)).trans h.nd,hs,h.kn.set _ _ _,h.ka.keep (jR (Below.refl _ _) s.1 u),h.hN,h.hL,by simpa using h.sz⟩
theorem QIn.setT(h:QIn M fs k x m ln co ks q cp NS op sl sc tv ev fn w wr)(u:Value):QIn M fs k x m ln co ks q cp NS op sl sc u ev fn w (wr.setCell ⟨NS,3,none⟩ u):=h.store 3 u (h.sb.setT u)
theorem QIn.setE(h:QIn M fs k x m ln co ks q cp NS op sl sc tv ev fn w wr)(u:Value):QIn M fs k x m ln co ks q cp NS op sl sc tv u fn w (wr.setCell ⟨NS,4,none⟩ u):=h.store 4 u (h.sb.setE u)
theorem QIn.setF(h:QIn M fs k x m ln co ks q cp NS op sl sc tv ev fn w wr)(n:Int):QIn M fs k x m ln co ks q cp NS op sl sc tv ev n w (wr.setCell ⟨NS,5,none⟩ (.int .i64 n)):=h.store 5 _ (h.sb.setF n)
theorem QIn.ra(h:QIn M fs k x m ln co ks q cp NS op sl sc tv ev fn w wr):RAt M.B M.gs fs M.ci wr:=⟨_,_,_,_,_,_,_,_,h.mm.rd⟩
theorem QIn.ea(h:QIn M fs k x m ln co ks q cp NS op sl sc tv ev fn w wr):EAt M.B ⟨M.gs,M.own fs⟩ wr:=h.ra.en
theorem QIn.le(h:QIn M fs k x m ln co ks q cp NS op sl sc tv ev fn w wr):M.L<=wr.1.size:=by have:=h.hL;have:=h.sz;omega
theorem QIn.bad{α:Type}{p:CR α}{R:α->World->Prop}{l' c' code:Int}(h:QIn M fs k x m ln co ks q cp NS op sl sc tv ev fn w wr)(hp:p=.bad l' c' code):qQY NS p R w (.panicked [{ v:=xO l' c' code,recovered:=false }]) wr:=qQY.badI hp h.gr
theorem QIn.new(h:M.at fs w)(hL:M.L<=w.1.size)(C:yD M.L w ks q)(s:jO NS op sl sc tv ev fn (.slice none 0 0) (.slice none 0 0) w)(z:jX w NS 73)(hN:M.L<=NS)(y:List UInt8) :
 QIn M fs k x m ln co ks q cp NS y sl sc tv ev fn w ((w.setCell ⟨NS,0,none⟩ (.string ⟨y.toArray⟩)).alloc (qB (.mk k x m ln co ks) (.slice q ks.length cp))):=by
 have o:=z.lt;have r:=Below.refl (w.setCell ⟨NS,0,none⟩ (.string ⟨y.toArray⟩)).1.size (w.setCell ⟨NS,0,none⟩ (.string ⟨y.toArray⟩));have hb:=bal r (qB (.mk k x m ln co ks) (.slice q ks.length cp));have A:=Bx.new (.mk k x m ln co ks) (.slice q ks.length cp) (w.setCell ⟨NS,0,none⟩ (.string ⟨y.toArray⟩));have j:(w.setCell ⟨NS,0,none⟩ (.string ⟨y.toArray⟩)).1.size=w.1.size:=by simp
 rw[j]at A;exact⟨zY (jM _ _ _ _) _,(Mem.setS h z hN 0 _).below hb,A,(s.setO y).below hb,(z.set _ _ _).turn (hb.block _ (by rw[j];exact o)),(C.keep (jR (Below.refl _ _) hN _)).keep (hb.mono (by rw[j];exact hL)),⟨hN,o⟩,hL,by simp⟩
end
def EBx(N:Nat)(e:Ex)(kv:Value)(w:World):Prop:=match e with | .mk op T n va g l c _=>qQf N op T n va g l c kv w
theorem qUd(w:World)(N b:Nat)(h:b≠N)(G A y s o z C j u8:Value):(((((((((w.setCell ⟨N,0,none⟩ G).setCell ⟨N,1,none⟩ A).setCell ⟨N,2,none⟩ y).setCell ⟨N,3,none⟩ s).setCell ⟨N,4,none⟩ o).setCell ⟨N,5,none⟩ z).setCell ⟨N,6,none⟩ C).setCell ⟨N,7,none⟩ j).setCell ⟨N,8,none⟩ u8).1[b]? = w.1[b]?:=by
 rw[hS _ _ _ _ h,qJI _ _ _ h]
theorem qZE(w:World)(N b:Nat)(h:b≠N)(A z s o j y:Value):((((((w.setCell ⟨N,0,none⟩ A).setCell ⟨N,1,none⟩ z).setCell ⟨N,2,none⟩ s).setCell ⟨N,3,none⟩ o).setCell ⟨N,4,none⟩ j).setCell ⟨N,5,none⟩ y).1[b]? = w.1[b]?:=by
 rw[hS _ _ _ _ h,hS _ _ _ _ h,hS _ _ _ _ h,hS _ _ _ _ h,hS _ _ _ _ h,hS _ _ _ _ h]
theorem vN{b N:Nat}{a w:World}(h:Below b a w)(hN:b<=N)(A z s o j y:Value):Below b a ((((((w.setCell ⟨N,0,none⟩ A).setCell ⟨N,1,none⟩ z).setCell ⟨N,2,none⟩ s).setCell ⟨N,3,none⟩ o).setCell ⟨N,4,none⟩ j).setCell ⟨N,5,none⟩ y) :=
 jR (jR (jR (jR (jR (jR h hN _) hN _) hN _) hN _) hN _) hN _
theorem zI.turn{b:Nat}{k x:List UInt8}{n ln c:Int}{v:Value}{w w':World}(h:zI b k x n ln c v w)(hb:w'.1[b]? = w.1[b]?):zI b k x n ln c v w' :=
 have e:=fun {o:Nat} {u:Value} (e:w.cell? ⟨b,o,none⟩=some u)=>(cB (w:=w) (w':=w') (a:=⟨b,o,none⟩) hb).trans e
 ⟨e h.c0,e h.c1,e h.c2,e h.c3,e h.c4,e h.c5,fun j hj=>(World.frozen?_of_block hb).trans (h.f j hj)⟩
def RBox(E:Env)(a:qQ)(bk bx:List UInt8)(bm bl bc:Int)(bv:Value)(W:World)(x:Nat×Nat×Ex×Value)(w':World):Prop :=
 Below W.1.size W w'/\wJ E a=.ok x.2.2.1/\EBx x.1 x.2.2.1 x.2.2.2 w'/\zI x.2.1 bk bx bm bl bc bv w'/\qU w' (fun g=>W.1.size<=g) x.2.2.1.kids x.2.2.2/\W.1.size<=x.1/\W.1.size<=x.2.1/\x.1≠x.2.1
theorem result_any(M:Mem)(fs:List FnM)(NS:Nat)(k x:List UInt8)(m ln co:Int)(a b:qQ)(q:Option Addr)(cp:Nat)(op:List UInt8)(sl sc:Int)(tv ev:Value)(fn:Int)(w:World)
 (h:M.at fs w) (hL:M.L<=w.1.size) (O:yD M.L w [a,b] q) (G8:2<=cp) (ha:wfE a=true) (D1:b.text.length<=1000000) (D0:qZV b.kids=true) (t5:b.kids.length<=1000000)
 (n9:jO NS op sl sc tv ev fn (.slice none 0 0) (.slice none 0 0) w) (hk:jX w NS 73) (hN:M.L<=NS) :
 Calls prog 137 #[.pointer (some ⟨M.B,0,none⟩),qZ (.mk k x m ln co [a,b]) (.slice q 2 cp), .pointer (some ⟨NS,0,none⟩)] w
  (qQY NS (qVk ⟨M.gs,M.own fs⟩ (fs.map (·.h)) a b) (fun r w'=>∃ tv' ev',jO NS zW sl sc tv' ev' r.2.1 (.slice none 0 0) (.slice none 0 0) w'/\qU w' (fun g=>w.1.size<=g) [r.1] tv'/\qU w' (fun g=>w.1.size<=g) r.2.2 ev') w):=by
 have t2:=hI (QIn.new (k:=k) (x:=x) (m:=m) (ln:=ln) (co:=co) (ks:=[a,b]) (q:=q) (cp:=cp) h hL O n9 hk hN zW);have M5:=n9.lt;have s0:=n9.c0;have G0:=n9.f 0 nL;have M1:¬NS=w.1.size:=by omega
 have hwN:¬w.1.size=NS:=by omega
 obtain⟨g,g6,rfl,p7⟩:=O.resolve_left (by simp);obtain⟨qa,na,ca,s2,m3⟩:=p7.2 0 (by simp);obtain⟨qb,nb,cb,p8,m4⟩:=p7.2 1 (by simp);simp only[List.getElem_cons_zero,List.getElem_cons_succ]at s2 m3 p8 m4;have t4:=p7.1;obtain⟨bk,bx,bm,d7,d6,d3⟩:=b;obtain⟨M3,M7,e,G3,_⟩:=p8.shape;injection e with e1 e2 e3;simp only[qQ.kids]at e2 G3;subst e2 e1 e3;have D7:M.L<=w.1.size:=hL;have p3:=hI s2;have p5:=hI p8;have t6:=hI m3;have t1:=hI m4;have r4:=hI (show qVk ⟨M.gs,M.own fs⟩ (fs.map (·.h)) a (.mk bk bx bm d7 d6 d3)=(wJ ⟨M.gs,M.own fs⟩ a).bind fun p=>(wI (fs.map (·.h)) (.mk bk bx bm d7 d6 d3)).bind fun h=>(jQ (decide (h.1.t=p.ty)) (.mk bk bx bm d7 d6 d3) 41).bind fun _=>(wM ⟨M.gs,M.own fs⟩ d3 h.1.params).bind fun es=>.ok (p,h.2,es)from rfl);have F7:=hI D0;have F3:=hI D1;have F4:=hI t5;clear h hL O n9 hk D0 D1 t5 s2 p8 m3 m4 p7;obtain⟨ak,ax,am,p2,m6,s7⟩:=a;simp only[qZ,qB,qS,List.length,qQ.kind,qQ.text,qQ.num,qQ.line,qQ.col,qQ.kids]at *;have N2:(2:Int)<=(cp:Nat):=by omega
 go_enter func137,ntmps137
 go_wp2
 have r0:((w.setCell ⟨NS,0,none⟩ (.string ⟨zW.toArray⟩)).alloc (.cells #[.string ⟨k.toArray⟩, .string ⟨x.toArray⟩, .int .u64 m, .int .i64 ln, .int .i64 co, .slice (some ⟨g,g6,none⟩) 2 cp] 57)).1.size=w.1.size+1:=by simp
 have n8:Below M.L w ((w.setCell ⟨NS,0,none⟩ (.string ⟨zW.toArray⟩)).alloc (.cells #[.string ⟨k.toArray⟩, .string ⟨x.toArray⟩, .int .u64 m, .int .i64 ln, .int .i64 co, .slice (some ⟨g,g6,none⟩) 2 cp] 57)):=(jR (Below.refl _ _) hN _).alloc (by simpa using D7) _;have p3:=hI (p3.o.keep n8);have p5:=hI (p5.o.keep n8);have m3:=t6.o.move (n8.block g t4);have m4:=t1.o.move (n8.block g t4);unfold zW at *;clear n8 s0 G0;generalize ((w.setCell ⟨NS,0,none⟩ _).alloc _)=W at *;have m5:=t2;have M6:w.1.size < W.1.size:=by omega
 have N1:=hI r0;clear t2 r0;obtain⟨n0,n1,n2,n3,n4,n5⟩:=m5.o.nd.cells;have⟨k0,k1,k2,k3,k4,k5,_⟩:=m3.a;have⟨j0,j1,j2,j3,j4,j5,_⟩:=m4.a;simp only[Nat.zero_mul,Nat.one_mul,Nat.add_zero,qQ.kind,qQ.text,qQ.num,qQ.line,qQ.col,qQ.kids,List.length]at k0 k1 k2 k3 k4 k5 j0 j1 j2 j3 j4 j5 n0 n1 n2 n3 n4 n5;have m0:=hI (fun(C:World) (hC:Below W.1.size W C)=>qKO ak ax am p2 m6 s7 ha M.B M.L ⟨M.gs,M.own fs⟩ (.slice qa na ca) C (m5.o.below hC).ea (m5.o.below hC).le (p3.o.keep (hC.mono (by omega))));simp only[qZ,qS,qQ.kind,qQ.text,qQ.num,qQ.line,qQ.col,qQ.kids]at m0;clear m3 m4;refine wp_cutX (X:=Nat×Nat×Ex×Value) (fun a0 r=>((((((((((((a0.put (some 11) (.pointer (some ⟨M.B,0,none⟩))).put (some 12) (.pointer (some ⟨w.1.size,5,none⟩))).put (some 13) (.slice (some ⟨g,g6,none⟩) 2 cp)).put (some 14) (.pointer (some ⟨g,g6,none⟩))).put (some 15) (.agg #[.string ⟨ak.toArray⟩, .string ⟨ax.toArray⟩, .int .u64 am, .int .i64 p2, .int .i64 m6, .slice qa na ca])).put (some 17) (.pointer (some ⟨w.1.size,5,none⟩))).put (some 18) (.slice (some ⟨g,g6,none⟩) 2 cp)).put (some 19) (.pointer (some ⟨g,g6+6,none⟩))).put (some 20) (.agg #[.string ⟨bk.toArray⟩, .string ⟨bx.toArray⟩, .int .u64 bm, .int .i64 d7, .int .i64 d6, .slice qb d3.length cb])).put (some 16) (exV r.2.2.1 r.2.2.2)).put (some 6) (.pointer (some ⟨r.1,0,none⟩))).put (some 7) (.pointer (some ⟨r.2.1,0,none⟩)))) (RBox ⟨M.gs,M.own fs⟩ (.mk ak ax am p2 m6 s7) bk bx bm d7 d6 (.slice qb d3.length cb) W)
  (fun ch w'=>∃ l' c' code,ch=[{ v:=xO l' c' code,recovered:=false }]/\wJ ⟨M.gs,M.own fs⟩ (.mk ak ax am p2 m6 s7)=.bad l' c' code/\Below W.1.size W w') ?_ ?_ ?_
 rotate_left 2
 ·rintro ch a' w' hd ⟨l',c',code,rfl,hp,hb⟩;exact⟨hd,(m5.o.below hb).bad (by rw[r4.o,hp];rfl)⟩
 ·refine wRg (S:=fun w'=>Below W.1.size W w') 99 ?_;refine wTk 0 11 (.pointer (some ⟨M.B,0,none⟩)) ?_ (bD W) ?_
  ·intro _ y;go_simp
  refine wTk 1 12 (.pointer (some ⟨w.1.size,5,none⟩)) ?_ (bD W) ?_
  ·intro _ y;go_simp
  refine wTk 2 13 (.slice (some ⟨g,g6,none⟩) 2 cp) ?_ (bD W) ?_
  ·intro _ y;have n5:=kP y n5;go_simp
  refine wTk 3 14 (.pointer (some ⟨g,g6,none⟩)) ?_ (bD W) ?_
  ·intro _ y;go_simp
  refine wTk 4 15 (.agg #[.string ⟨ak.toArray⟩, .string ⟨ax.toArray⟩, .int .u64 am, .int .i64 p2, .int .i64 m6, .slice qa na ca]) ?_ (bD W) ?_
  ·intro _ y;obtain⟨k0,k1,k2,k3,k4,k5⟩:=kP6 y k0 k1 k2 k3 k4 k5;go_simp
  refine wTk 6 17 (.pointer (some ⟨w.1.size,5,none⟩)) ?_ (bD W) ?_
  ·intro _ y;go_simp
  refine wTk 7 18 (.slice (some ⟨g,g6,none⟩) 2 cp) ?_ (bD W) ?_
  ·intro _ y;have n5:=kP y n5;go_simp
  refine wTk 8 19 (.pointer (some ⟨g,g6+6,none⟩)) ?_ (bD W) ?_
  ·intro _ y;go_simp
  refine wTk 9 20 (.agg #[.string ⟨bk.toArray⟩, .string ⟨bx.toArray⟩, .int .u64 bm, .int .i64 d7, .int .i64 d6, .slice qb d3.length cb]) ?_ (bD W) ?_
  ·intro _ y;obtain⟨j0,j1,j2,j3,j4,j5⟩:=kP6 y j0 j1 j2 j3 j4 j5;go_simp
  have g1:=hI ((Below.refl W.1.size W).drew);clear n0 n1 n2 n3 n4 n5 k0 k1 k2 k3 k4 k5 j0 j1 j2 j3 j4 j5;generalize World.drew W=C0 at *;refine qVq (i:=5) (j:=10) (l:=11) rfl rfl rfl (by kernel_rfl) (by rfl) (by rfl) (by rfl) (fun K O=>?_) (fun K O=>?_) (fun K O=>?_)
  ·go_simp;refine(m0.o C0 g1.o).mono ?_;rintro e I hX;rcases hX.cases with⟨p,u,hp,rfl,⟨kv,rfl,Z⟩,hb⟩ | ⟨l',c',code,hp,rfl,hb⟩;rotate_left
   ·exact⟨rfl,l',c',code,rfl,hp,g1.o.trans (hb.mono g1.o.size)⟩
   obtain⟨Y,⟨R,J⟩,pn,pv,pg,pl,pc,pk⟩:=p;obtain⟨uq,uc,rfl⟩:=Z.shape;simp only[exV,exC,Ex.kids]at *;have hw0:=g1.o.size;have d4:=hI (g1.o.trans (hb.mono g1.o.size));have s9:=hb.size;have HL:=hI (Z.mono (ok':=fun g=>W.1.size<=g) (fun g hg=>by omega));have HP:=hI hp;refine kK O d4.o ?_;clear O K hX hp Z hb;try simp only[Act.put,pZa,pZb,pZc]
   refine jA (i:=10) (j:=11) rfl rfl (by kernel_rfl) (by rfl) (by rfl) (fun K O=>?_) (fun K O=>?_)
   ·go_simp;refine kK O (bal d4.o _) ?_;clear O K;have d2:=hI (bal d4.o (.cells #[.string ⟨#[]⟩, .int .i64 0, .bool false, .int .u64 0, .int .i64 0, .bool false, .int .i64 0, .int .i64 0, .slice none 0 0] 76));have hA:Below I.1.size I (I.alloc (.cells #[.string ⟨#[]⟩, .int .i64 0, .bool false, .int .u64 0, .int .i64 0, .bool false, .int .i64 0, .int .i64 0, .slice none 0 0] 76)):=bal (Below.refl _ _) _;have hs2:I.1.size < (I.alloc (.cells #[.string ⟨#[]⟩, .int .i64 0, .bool false, .int .u64 0, .int .i64 0, .bool false, .int .i64 0, .int .i64 0, .slice none 0 0] 76)).1.size:=by simp
    have m7:=d4.o.size;have s:=hI (show qQf I.1.size [] (0,false) 0 0 false 0 0 (.slice none 0 0) (I.alloc (.cells #[.string ⟨#[]⟩, .int .i64 0, .bool false, .int .u64 0, .int .i64 0, .bool false, .int .i64 0, .int .i64 0, .slice none 0 0] 76))from qQf.new [] (0,false) 0 0 false 0 0 (.slice none 0 0) I);have HL:=hI (qU.move HL.o (ok':=fun g=>W.1.size<=g/\g≠I.1.size) (fun g hg hok=>⟨by first | exact⟨hok,by omega⟩ | exact⟨hok.1,by omega,hok.2⟩ | exact⟨hok.1,hok.2,by omega⟩ | omega,hA.block g hg⟩));clear hA;generalize (I.alloc (.cells #[.string ⟨#[]⟩, .int .i64 0, .bool false, .int .u64 0, .int .i64 0, .bool false, .int .i64 0, .int .i64 0, .slice none 0 0] 76))=G at *;refine wOn 11 fun K O=>?_
    go_simp;refine kK O (bal d2.o _) ?_;clear O K;have d5:=hI (bal d2.o (.cells #[.string ⟨#[]⟩, .string ⟨#[]⟩, .int .u64 0, .int .i64 0, .int .i64 0, .slice none 0 0] 57));have hA:Below G.1.size G (G.alloc (.cells #[.string ⟨#[]⟩, .string ⟨#[]⟩, .int .u64 0, .int .i64 0, .int .i64 0, .slice none 0 0] 57)):=bal (Below.refl _ _) _;have hs3:G.1.size < (G.alloc (.cells #[.string ⟨#[]⟩, .string ⟨#[]⟩, .int .u64 0, .int .i64 0, .int .i64 0, .slice none 0 0] 57)).1.size:=by simp
    have m9:=d2.o.size;have s:=hI (s.o.below hA);have A:=hI (show zI G.1.size [] [] 0 0 0 (.slice none 0 0) (G.alloc (.cells #[.string ⟨#[]⟩, .string ⟨#[]⟩, .int .u64 0, .int .i64 0, .int .i64 0, .slice none 0 0] 57))from zI.new [] [] 0 0 0 (.slice none 0 0) G);have HL:=hI (qU.move HL.o (ok':=fun g=>W.1.size<=g/\g≠I.1.size/\g≠G.1.size) (fun g hg hok=>⟨by first | exact⟨hok,by omega⟩ | exact⟨hok.1,by omega,hok.2⟩ | exact⟨hok.1,hok.2,by omega⟩ | omega,hA.block g hg⟩));clear hA;generalize (G.alloc (.cells #[.string ⟨#[]⟩, .string ⟨#[]⟩, .int .u64 0, .int .i64 0, .int .i64 0, .slice none 0 0] 57))=C3 at *;refine wOn 12 fun K O=>?_
    have x0:=s.o.c0;have f9:=s.o.f 0 nL;have x1:=s.o.c1;have d9:=s.o.f 1 nL;have x2:=s.o.c2;have f8:=s.o.f 2 nL;have x3:=s.o.c3;have d8:=s.o.f 3 nL;have x4:=s.o.c4;have f7:=s.o.f 4 nL;have x5:=s.o.c5;have g0:=s.o.f 5 nL;have x6:=s.o.c6;have g5:=s.o.f 6 nL;have x7:=s.o.c7;have g2:=s.o.f 7 nL;have x8:=s.o.c8;have g3:=s.o.f 8 nL;go_simp;refine kK O (set9 d5.o (by omega) _ _ _ _ _ _ _ _ _) ?_;clear O K;clear x0 f9 x1 d9 x2 f8 x3 d8 x4 f7 x5 g0 x6 g5 x7 g2 x8 g3;have f6:=hI (set9 (N:=I.1.size) d5.o (by omega) (.string ⟨Y.toArray⟩) (.int .i64 R) (.bool J) (.int .u64 pn) (.int .i64 pv) (.bool pg) (.int .i64 pl) (.int .i64 pc) (.slice uq pk.length uc));have s:=hI (s.o.set9 (op':=Y) (T':=(R,J)) (n':=pn) (va':=pv) (g':=pg) (l':=pl) (c':=pc) (kv':=.slice uq pk.length uc));have hh:∀ g,g≠I.1.size->((((((((((C3.setCell ⟨I.1.size,0,none⟩ (.string ⟨Y.toArray⟩)).setCell ⟨I.1.size,1,none⟩ (.int .i64 R)).setCell ⟨I.1.size,2,none⟩ (.bool J)).setCell ⟨I.1.size,3,none⟩ (.int .u64 pn)).setCell ⟨I.1.size,4,none⟩ (.int .i64 pv)).setCell ⟨I.1.size,5,none⟩ (.bool pg)).setCell ⟨I.1.size,6,none⟩ (.int .i64 pl)).setCell ⟨I.1.size,7,none⟩ (.int .i64 pc)).setCell ⟨I.1.size,8,none⟩ (.slice uq pk.length uc))).1[g]? = C3.1[g]?:=fun g hg=>qUd _ _ _ hg _ _ _ _ _ _ _ _ _
    have A:=hI (A.o.turn (hh _ (by omega)));have HL:=hI (qU.move HL.o (ok':=fun g=>W.1.size<=g/\g≠I.1.size/\g≠G.1.size) (fun g hg hok=>⟨hok,hh _ hok.2.1⟩));clear hh;generalize ((((((((((C3.setCell ⟨I.1.size,0,none⟩ (.string ⟨Y.toArray⟩)).setCell ⟨I.1.size,1,none⟩ (.int .i64 R)).setCell ⟨I.1.size,2,none⟩ (.bool J)).setCell ⟨I.1.size,3,none⟩ (.int .u64 pn)).setCell ⟨I.1.size,4,none⟩ (.int .i64 pv)).setCell ⟨I.1.size,5,none⟩ (.bool pg)).setCell ⟨I.1.size,6,none⟩ (.int .i64 pl)).setCell ⟨I.1.size,7,none⟩ (.int .i64 pc)).setCell ⟨I.1.size,8,none⟩ (.slice uq pk.length uc)))=C4 at *;refine wOn 13 fun K O=>?_
    have x0:=A.o.c0;have f9:=A.o.f 0 nL;have x1:=A.o.c1;have d9:=A.o.f 1 nL;have x2:=A.o.c2;have f8:=A.o.f 2 nL;have x3:=A.o.c3;have d8:=A.o.f 3 nL;have x4:=A.o.c4;have f7:=A.o.f 4 nL;have x5:=A.o.c5;have g0:=A.o.f 5 nL;go_simp;refine kK O (vN f6.o (by omega) _ _ _ _ _ _) ?_;clear O K;refine wDn ?_ _;exact⟨(I.1.size,G.1.size, .mk Y (R,J) pn pv pg pl pc pk, .slice uq pk.length uc),by simp only[Act.put,pZa,pZb,pZc,exV,exC],vN f6.o (by omega) _ _ _ _ _ _,HP.o,s.o.turn (qZE _ _ _ (by omega) _ _ _ _ _ _),A.o.six bk bx bm d7 d6 (.slice qb d3.length cb),qU.move HL.o (fun g hg hok=>⟨hok.1,qZE _ _ _ hok.2.2 _ _ _ _ _ _⟩),by show W.1.size<=I.1.size;omega,by show W.1.size<=G.1.size;omega,by show I.1.size≠G.1.size;omega⟩
   ·go_simp;refine kK O (bal d4.o _) ?_;clear O K;have d2:=hI (bal d4.o (.cells #[.string ⟨#[]⟩, .string ⟨#[]⟩, .int .u64 0, .int .i64 0, .int .i64 0, .slice none 0 0] 57));have hA:Below I.1.size I (I.alloc (.cells #[.string ⟨#[]⟩, .string ⟨#[]⟩, .int .u64 0, .int .i64 0, .int .i64 0, .slice none 0 0] 57)):=bal (Below.refl _ _) _;have hs2:I.1.size < (I.alloc (.cells #[.string ⟨#[]⟩, .string ⟨#[]⟩, .int .u64 0, .int .i64 0, .int .i64 0, .slice none 0 0] 57)).1.size:=by simp
    have m7:=d4.o.size;have A:=hI (show zI I.1.size [] [] 0 0 0 (.slice none 0 0) (I.alloc (.cells #[.string ⟨#[]⟩, .string ⟨#[]⟩, .int .u64 0, .int .i64 0, .int .i64 0, .slice none 0 0] 57))from zI.new [] [] 0 0 0 (.slice none 0 0) I);have HL:=hI (qU.move HL.o (ok':=fun g=>W.1.size<=g/\g≠I.1.size) (fun g hg hok=>⟨by first | exact⟨hok,by omega⟩ | exact⟨hok.1,by omega,hok.2⟩ | exact⟨hok.1,hok.2,by omega⟩ | omega,hA.block g hg⟩));clear hA;generalize (I.alloc (.cells #[.string ⟨#[]⟩, .string ⟨#[]⟩, .int .u64 0, .int .i64 0, .int .i64 0, .slice none 0 0] 57))=G at *;refine wOn 10 fun K O=>?_
    go_simp;refine kK O (bal d2.o _) ?_;clear O K;have d5:=hI (bal d2.o (.cells #[.string ⟨#[]⟩, .int .i64 0, .bool false, .int .u64 0, .int .i64 0, .bool false, .int .i64 0, .int .i64 0, .slice none 0 0] 76));have hA:Below G.1.size G (G.alloc (.cells #[.string ⟨#[]⟩, .int .i64 0, .bool false, .int .u64 0, .int .i64 0, .bool false, .int .i64 0, .int .i64 0, .slice none 0 0] 76)):=bal (Below.refl _ _) _;have hs3:G.1.size < (G.alloc (.cells #[.string ⟨#[]⟩, .int .i64 0, .bool false, .int .u64 0, .int .i64 0, .bool false, .int .i64 0, .int .i64 0, .slice none 0 0] 76)).1.size:=by simp
    have m9:=d2.o.size;have A:=hI (A.o.below hA);have s:=hI (show qQf G.1.size [] (0,false) 0 0 false 0 0 (.slice none 0 0) (G.alloc (.cells #[.string ⟨#[]⟩, .int .i64 0, .bool false, .int .u64 0, .int .i64 0, .bool false, .int .i64 0, .int .i64 0, .slice none 0 0] 76))from qQf.new [] (0,false) 0 0 false 0 0 (.slice none 0 0) G);have HL:=hI (qU.move HL.o (ok':=fun g=>W.1.size<=g/\g≠G.1.size/\g≠I.1.size) (fun g hg hok=>⟨by first | exact⟨hok,by omega⟩ | exact⟨hok.1,by omega,hok.2⟩ | exact⟨hok.1,hok.2,by omega⟩ | omega,hA.block g hg⟩));clear hA;generalize (G.alloc (.cells #[.string ⟨#[]⟩, .int .i64 0, .bool false, .int .u64 0, .int .i64 0, .bool false, .int .i64 0, .int .i64 0, .slice none 0 0] 76))=C3 at *;refine wOn 12 fun K O=>?_
    have x0:=s.o.c0;have f9:=s.o.f 0 nL;have x1:=s.o.c1;have d9:=s.o.f 1 nL;have x2:=s.o.c2;have f8:=s.o.f 2 nL;have x3:=s.o.c3;have d8:=s.o.f 3 nL;have x4:=s.o.c4;have f7:=s.o.f 4 nL;have x5:=s.o.c5;have g0:=s.o.f 5 nL;have x6:=s.o.c6;have g5:=s.o.f 6 nL;have x7:=s.o.c7;have g2:=s.o.f 7 nL;have x8:=s.o.c8;have g3:=s.o.f 8 nL;go_simp;refine kK O (set9 d5.o (by omega) _ _ _ _ _ _ _ _ _) ?_;clear O K;clear x0 f9 x1 d9 x2 f8 x3 d8 x4 f7 x5 g0 x6 g5 x7 g2 x8 g3;have f6:=hI (set9 (N:=G.1.size) d5.o (by omega) (.string ⟨Y.toArray⟩) (.int .i64 R) (.bool J) (.int .u64 pn) (.int .i64 pv) (.bool pg) (.int .i64 pl) (.int .i64 pc) (.slice uq pk.length uc));have s:=hI (s.o.set9 (op':=Y) (T':=(R,J)) (n':=pn) (va':=pv) (g':=pg) (l':=pl) (c':=pc) (kv':=.slice uq pk.length uc));have hh:∀ g,g≠G.1.size->((((((((((C3.setCell ⟨G.1.size,0,none⟩ (.string ⟨Y.toArray⟩)).setCell ⟨G.1.size,1,none⟩ (.int .i64 R)).setCell ⟨G.1.size,2,none⟩ (.bool J)).setCell ⟨G.1.size,3,none⟩ (.int .u64 pn)).setCell ⟨G.1.size,4,none⟩ (.int .i64 pv)).setCell ⟨G.1.size,5,none⟩ (.bool pg)).setCell ⟨G.1.size,6,none⟩ (.int .i64 pl)).setCell ⟨G.1.size,7,none⟩ (.int .i64 pc)).setCell ⟨G.1.size,8,none⟩ (.slice uq pk.length uc))).1[g]? = C3.1[g]?:=fun g hg=>qUd _ _ _ hg _ _ _ _ _ _ _ _ _
    have A:=hI (A.o.turn (hh _ (by omega)));have HL:=hI (qU.move HL.o (ok':=fun g=>W.1.size<=g/\g≠G.1.size/\g≠I.1.size) (fun g hg hok=>⟨hok,hh _ hok.2.1⟩));clear hh;generalize ((((((((((C3.setCell ⟨G.1.size,0,none⟩ (.string ⟨Y.toArray⟩)).setCell ⟨G.1.size,1,none⟩ (.int .i64 R)).setCell ⟨G.1.size,2,none⟩ (.bool J)).setCell ⟨G.1.size,3,none⟩ (.int .u64 pn)).setCell ⟨G.1.size,4,none⟩ (.int .i64 pv)).setCell ⟨G.1.size,5,none⟩ (.bool pg)).setCell ⟨G.1.size,6,none⟩ (.int .i64 pl)).setCell ⟨G.1.size,7,none⟩ (.int .i64 pc)).setCell ⟨G.1.size,8,none⟩ (.slice uq pk.length uc)))=C4 at *;refine wOn 13 fun K O=>?_
    have x0:=A.o.c0;have f9:=A.o.f 0 nL;have x1:=A.o.c1;have d9:=A.o.f 1 nL;have x2:=A.o.c2;have f8:=A.o.f 2 nL;have x3:=A.o.c3;have d8:=A.o.f 3 nL;have x4:=A.o.c4;have f7:=A.o.f 4 nL;have x5:=A.o.c5;have g0:=A.o.f 5 nL;go_simp;refine kK O (vN f6.o (by omega) _ _ _ _ _ _) ?_;clear O K;refine wDn ?_ _;exact⟨(G.1.size,I.1.size, .mk Y (R,J) pn pv pg pl pc pk, .slice uq pk.length uc),by simp only[Act.put,pZa,pZb,pZc,exV,exC],vN f6.o (by omega) _ _ _ _ _ _,HP.o,s.o.turn (qZE _ _ _ (by omega) _ _ _ _ _ _),A.o.six bk bx bm d7 d6 (.slice qb d3.length cb),qU.move HL.o (fun g hg hok=>⟨hok.1,qZE _ _ _ hok.2.2 _ _ _ _ _ _⟩),by show W.1.size<=G.1.size;omega,by show W.1.size<=I.1.size;omega,by show G.1.size≠I.1.size;omega⟩
  ·go_simp;refine kK O (bal g1.o _) ?_;clear O K;have d4:=hI (bal g1.o (.cells #[.string ⟨#[]⟩, .int .i64 0, .bool false, .int .u64 0, .int .i64 0, .bool false, .int .i64 0, .int .i64 0, .slice none 0 0] 76));have hA:Below C0.1.size C0 (C0.alloc (.cells #[.string ⟨#[]⟩, .int .i64 0, .bool false, .int .u64 0, .int .i64 0, .bool false, .int .i64 0, .int .i64 0, .slice none 0 0] 76)):=bal (Below.refl _ _) _;have s9:C0.1.size < (C0.alloc (.cells #[.string ⟨#[]⟩, .int .i64 0, .bool false, .int .u64 0, .int .i64 0, .bool false, .int .i64 0, .int .i64 0, .slice none 0 0] 76)).1.size:=by simp
   have hw0:=g1.o.size;have s:=hI (show qQf C0.1.size [] (0,false) 0 0 false 0 0 (.slice none 0 0) (C0.alloc (.cells #[.string ⟨#[]⟩, .int .i64 0, .bool false, .int .u64 0, .int .i64 0, .bool false, .int .i64 0, .int .i64 0, .slice none 0 0] 76))from qQf.new [] (0,false) 0 0 false 0 0 (.slice none 0 0) C0);clear hA;generalize (C0.alloc (.cells #[.string ⟨#[]⟩, .int .i64 0, .bool false, .int .u64 0, .int .i64 0, .bool false, .int .i64 0, .int .i64 0, .slice none 0 0] 76))=I at *;refine jA (i:=5) (j:=11) rfl rfl (by kernel_rfl) (by rfl) (by rfl) (fun K O=>?_) (fun K O=>?_)
   ·go_simp;refine(m0.o I d4.o).mono ?_;rintro e G hX;rcases hX.cases with⟨p,u,hp,rfl,⟨kv,rfl,Z⟩,hb⟩ | ⟨l',c',code,hp,rfl,hb⟩;rotate_left
    ·exact⟨rfl,l',c',code,rfl,hp,d4.o.trans (hb.mono d4.o.size)⟩
    obtain⟨Y,⟨R,J⟩,pn,pv,pg,pl,pc,pk⟩:=p;obtain⟨uq,uc,rfl⟩:=Z.shape;simp only[exV,exC,Ex.kids]at *;have m7:=d4.o.size;have d2:=hI (d4.o.trans (hb.mono d4.o.size));have hs2:=hb.size;have s:=hI (s.o.below hb);have HL:=hI (Z.mono (ok':=fun g=>W.1.size<=g/\g≠C0.1.size) (fun g hg=>by omega));have HP:=hI hp;refine kK O d2.o ?_;clear O K hX hp Z hb;try simp only[Act.put,pZa,pZb,pZc]
    refine wOn 11 fun K O=>?_
    go_simp;refine kK O (bal d2.o _) ?_;clear O K;have d5:=hI (bal d2.o (.cells #[.string ⟨#[]⟩, .string ⟨#[]⟩, .int .u64 0, .int .i64 0, .int .i64 0, .slice none 0 0] 57));have hA:Below G.1.size G (G.alloc (.cells #[.string ⟨#[]⟩, .string ⟨#[]⟩, .int .u64 0, .int .i64 0, .int .i64 0, .slice none 0 0] 57)):=bal (Below.refl _ _) _;have hs3:G.1.size < (G.alloc (.cells #[.string ⟨#[]⟩, .string ⟨#[]⟩, .int .u64 0, .int .i64 0, .int .i64 0, .slice none 0 0] 57)).1.size:=by simp
    have m9:=d2.o.size;have s:=hI (s.o.below hA);have A:=hI (show zI G.1.size [] [] 0 0 0 (.slice none 0 0) (G.alloc (.cells #[.string ⟨#[]⟩, .string ⟨#[]⟩, .int .u64 0, .int .i64 0, .int .i64 0, .slice none 0 0] 57))from zI.new [] [] 0 0 0 (.slice none 0 0) G);have HL:=hI (qU.move HL.o (ok':=fun g=>W.1.size<=g/\g≠C0.1.size/\g≠G.1.size) (fun g hg hok=>⟨by first | exact⟨hok,by omega⟩ | exact⟨hok.1,by omega,hok.2⟩ | exact⟨hok.1,hok.2,by omega⟩ | omega,hA.block g hg⟩));clear hA;generalize (G.alloc (.cells #[.string ⟨#[]⟩, .string ⟨#[]⟩, .int .u64 0, .int .i64 0, .int .i64 0, .slice none 0 0] 57))=C3 at *;refine wOn 12 fun K O=>?_
    have x0:=s.o.c0;have f9:=s.o.f 0 nL;have x1:=s.o.c1;have d9:=s.o.f 1 nL;have x2:=s.o.c2;have f8:=s.o.f 2 nL;have x3:=s.o.c3;have d8:=s.o.f 3 nL;have x4:=s.o.c4;have f7:=s.o.f 4 nL;have x5:=s.o.c5;have g0:=s.o.f 5 nL;have x6:=s.o.c6;have g5:=s.o.f 6 nL;have x7:=s.o.c7;have g2:=s.o.f 7 nL;have x8:=s.o.c8;have g3:=s.o.f 8 nL;go_simp;refine kK O (set9 d5.o (by omega) _ _ _ _ _ _ _ _ _) ?_;clear O K;clear x0 f9 x1 d9 x2 f8 x3 d8 x4 f7 x5 g0 x6 g5 x7 g2 x8 g3;have f6:=hI (set9 (N:=C0.1.size) d5.o (by omega) (.string ⟨Y.toArray⟩) (.int .i64 R) (.bool J) (.int .u64 pn) (.int .i64 pv) (.bool pg) (.int .i64 pl) (.int .i64 pc) (.slice uq pk.length uc));have s:=hI (s.o.set9 (op':=Y) (T':=(R,J)) (n':=pn) (va':=pv) (g':=pg) (l':=pl) (c':=pc) (kv':=.slice uq pk.length uc));have hh:∀ g,g≠C0.1.size->((((((((((C3.setCell ⟨C0.1.size,0,none⟩ (.string ⟨Y.toArray⟩)).setCell ⟨C0.1.size,1,none⟩ (.int .i64 R)).setCell ⟨C0.1.size,2,none⟩ (.bool J)).setCell ⟨C0.1.size,3,none⟩ (.int .u64 pn)).setCell ⟨C0.1.size,4,none⟩ (.int .i64 pv)).setCell ⟨C0.1.size,5,none⟩ (.bool pg)).setCell ⟨C0.1.size,6,none⟩ (.int .i64 pl)).setCell ⟨C0.1.size,7,none⟩ (.int .i64 pc)).setCell ⟨C0.1.size,8,none⟩ (.slice uq pk.length uc))).1[g]? = C3.1[g]?:=fun g hg=>qUd _ _ _ hg _ _ _ _ _ _ _ _ _
    have A:=hI (A.o.turn (hh _ (by omega)));have HL:=hI (qU.move HL.o (ok':=fun g=>W.1.size<=g/\g≠C0.1.size/\g≠G.1.size) (fun g hg hok=>⟨hok,hh _ hok.2.1⟩));clear hh;generalize ((((((((((C3.setCell ⟨C0.1.size,0,none⟩ (.string ⟨Y.toArray⟩)).setCell ⟨C0.1.size,1,none⟩ (.int .i64 R)).setCell ⟨C0.1.size,2,none⟩ (.bool J)).setCell ⟨C0.1.size,3,none⟩ (.int .u64 pn)).setCell ⟨C0.1.size,4,none⟩ (.int .i64 pv)).setCell ⟨C0.1.size,5,none⟩ (.bool pg)).setCell ⟨C0.1.size,6,none⟩ (.int .i64 pl)).setCell ⟨C0.1.size,7,none⟩ (.int .i64 pc)).setCell ⟨C0.1.size,8,none⟩ (.slice uq pk.length uc)))=C4 at *;refine wOn 13 fun K O=>?_
    have x0:=A.o.c0;have f9:=A.o.f 0 nL;have x1:=A.o.c1;have d9:=A.o.f 1 nL;have x2:=A.o.c2;have f8:=A.o.f 2 nL;have x3:=A.o.c3;have d8:=A.o.f 3 nL;have x4:=A.o.c4;have f7:=A.o.f 4 nL;have x5:=A.o.c5;have g0:=A.o.f 5 nL;go_simp;refine kK O (vN f6.o (by omega) _ _ _ _ _ _) ?_;clear O K;refine wDn ?_ _;exact⟨(C0.1.size,G.1.size, .mk Y (R,J) pn pv pg pl pc pk, .slice uq pk.length uc),by simp only[Act.put,pZa,pZb,pZc,exV,exC],vN f6.o (by omega) _ _ _ _ _ _,HP.o,s.o.turn (qZE _ _ _ (by omega) _ _ _ _ _ _),A.o.six bk bx bm d7 d6 (.slice qb d3.length cb),qU.move HL.o (fun g hg hok=>⟨hok.1,qZE _ _ _ hok.2.2 _ _ _ _ _ _⟩),by show W.1.size<=C0.1.size;omega,by show W.1.size<=G.1.size;omega,by show C0.1.size≠G.1.size;omega⟩
   ·go_simp;refine kK O (bal d4.o _) ?_;clear O K;have d2:=hI (bal d4.o (.cells #[.string ⟨#[]⟩, .string ⟨#[]⟩, .int .u64 0, .int .i64 0, .int .i64 0, .slice none 0 0] 57));have hA:Below I.1.size I (I.alloc (.cells #[.string ⟨#[]⟩, .string ⟨#[]⟩, .int .u64 0, .int .i64 0, .int .i64 0, .slice none 0 0] 57)):=bal (Below.refl _ _) _;have hs2:I.1.size < (I.alloc (.cells #[.string ⟨#[]⟩, .string ⟨#[]⟩, .int .u64 0, .int .i64 0, .int .i64 0, .slice none 0 0] 57)).1.size:=by simp
    have m7:=d4.o.size;have s:=hI (s.o.below hA);have A:=hI (show zI I.1.size [] [] 0 0 0 (.slice none 0 0) (I.alloc (.cells #[.string ⟨#[]⟩, .string ⟨#[]⟩, .int .u64 0, .int .i64 0, .int .i64 0, .slice none 0 0] 57))from zI.new [] [] 0 0 0 (.slice none 0 0) I);clear hA;generalize (I.alloc (.cells #[.string ⟨#[]⟩, .string ⟨#[]⟩, .int .u64 0, .int .i64 0, .int .i64 0, .slice none 0 0] 57))=G at *;refine wOn 5 fun K O=>?_
    go_simp;refine(m0.o G d2.o).mono ?_;rintro e C3 hX;rcases hX.cases with⟨p,u,hp,rfl,⟨kv,rfl,Z⟩,hb⟩ | ⟨l',c',code,hp,rfl,hb⟩;rotate_left
    ·exact⟨rfl,l',c',code,rfl,hp,d2.o.trans (hb.mono d2.o.size)⟩
    obtain⟨Y,⟨R,J⟩,pn,pv,pg,pl,pc,pk⟩:=p;obtain⟨uq,uc,rfl⟩:=Z.shape;simp only[exV,exC,Ex.kids]at *;have m9:=d2.o.size;have d5:=hI (d2.o.trans (hb.mono d2.o.size));have hs3:=hb.size;have s:=hI (s.o.below hb);have A:=hI (A.o.below hb);have HL:=hI (Z.mono (ok':=fun g=>W.1.size<=g/\g≠C0.1.size/\g≠I.1.size) (fun g hg=>by omega));have HP:=hI hp;refine kK O d5.o ?_;clear O K hX hp Z hb;try simp only[Act.put,pZa,pZb,pZc]
    refine wOn 12 fun K O=>?_
    have x0:=s.o.c0;have f9:=s.o.f 0 nL;have x1:=s.o.c1;have d9:=s.o.f 1 nL;have x2:=s.o.c2;have f8:=s.o.f 2 nL;have x3:=s.o.c3;have d8:=s.o.f 3 nL;have x4:=s.o.c4;have f7:=s.o.f 4 nL;have x5:=s.o.c5;have g0:=s.o.f 5 nL;have x6:=s.o.c6;have g5:=s.o.f 6 nL;have x7:=s.o.c7;have g2:=s.o.f 7 nL;have x8:=s.o.c8;have g3:=s.o.f 8 nL;go_simp;refine kK O (set9 d5.o (by omega) _ _ _ _ _ _ _ _ _) ?_;clear O K;clear x0 f9 x1 d9 x2 f8 x3 d8 x4 f7 x5 g0 x6 g5 x7 g2 x8 g3;have f6:=hI (set9 (N:=C0.1.size) d5.o (by omega) (.string ⟨Y.toArray⟩) (.int .i64 R) (.bool J) (.int .u64 pn) (.int .i64 pv) (.bool pg) (.int .i64 pl) (.int .i64 pc) (.slice uq pk.length uc));have s:=hI (s.o.set9 (op':=Y) (T':=(R,J)) (n':=pn) (va':=pv) (g':=pg) (l':=pl) (c':=pc) (kv':=.slice uq pk.length uc));have hh:∀ g,g≠C0.1.size->((((((((((C3.setCell ⟨C0.1.size,0,none⟩ (.string ⟨Y.toArray⟩)).setCell ⟨C0.1.size,1,none⟩ (.int .i64 R)).setCell ⟨C0.1.size,2,none⟩ (.bool J)).setCell ⟨C0.1.size,3,none⟩ (.int .u64 pn)).setCell ⟨C0.1.size,4,none⟩ (.int .i64 pv)).setCell ⟨C0.1.size,5,none⟩ (.bool pg)).setCell ⟨C0.1.size,6,none⟩ (.int .i64 pl)).setCell ⟨C0.1.size,7,none⟩ (.int .i64 pc)).setCell ⟨C0.1.size,8,none⟩ (.slice uq pk.length uc))).1[g]? = C3.1[g]?:=fun g hg=>qUd _ _ _ hg _ _ _ _ _ _ _ _ _
    have A:=hI (A.o.turn (hh _ (by omega)));have HL:=hI (qU.move HL.o (ok':=fun g=>W.1.size<=g/\g≠C0.1.size/\g≠I.1.size) (fun g hg hok=>⟨hok,hh _ hok.2.1⟩));clear hh;generalize ((((((((((C3.setCell ⟨C0.1.size,0,none⟩ (.string ⟨Y.toArray⟩)).setCell ⟨C0.1.size,1,none⟩ (.int .i64 R)).setCell ⟨C0.1.size,2,none⟩ (.bool J)).setCell ⟨C0.1.size,3,none⟩ (.int .u64 pn)).setCell ⟨C0.1.size,4,none⟩ (.int .i64 pv)).setCell ⟨C0.1.size,5,none⟩ (.bool pg)).setCell ⟨C0.1.size,6,none⟩ (.int .i64 pl)).setCell ⟨C0.1.size,7,none⟩ (.int .i64 pc)).setCell ⟨C0.1.size,8,none⟩ (.slice uq pk.length uc)))=C4 at *;refine wOn 13 fun K O=>?_
    have x0:=A.o.c0;have f9:=A.o.f 0 nL;have x1:=A.o.c1;have d9:=A.o.f 1 nL;have x2:=A.o.c2;have f8:=A.o.f 2 nL;have x3:=A.o.c3;have d8:=A.o.f 3 nL;have x4:=A.o.c4;have f7:=A.o.f 4 nL;have x5:=A.o.c5;have g0:=A.o.f 5 nL;go_simp;refine kK O (vN f6.o (by omega) _ _ _ _ _ _) ?_;clear O K;refine wDn ?_ _;exact⟨(C0.1.size,I.1.size, .mk Y (R,J) pn pv pg pl pc pk, .slice uq pk.length uc),by simp only[Act.put,pZa,pZb,pZc,exV,exC],vN f6.o (by omega) _ _ _ _ _ _,HP.o,s.o.turn (qZE _ _ _ (by omega) _ _ _ _ _ _),A.o.six bk bx bm d7 d6 (.slice qb d3.length cb),qU.move HL.o (fun g hg hok=>⟨hok.1,qZE _ _ _ hok.2.2 _ _ _ _ _ _⟩),by show W.1.size<=C0.1.size;omega,by show W.1.size<=I.1.size;omega,by show C0.1.size≠I.1.size;omega⟩
  ·go_simp;refine kK O (bal g1.o _) ?_;clear O K;have d4:=hI (bal g1.o (.cells #[.string ⟨#[]⟩, .string ⟨#[]⟩, .int .u64 0, .int .i64 0, .int .i64 0, .slice none 0 0] 57));have hA:Below C0.1.size C0 (C0.alloc (.cells #[.string ⟨#[]⟩, .string ⟨#[]⟩, .int .u64 0, .int .i64 0, .int .i64 0, .slice none 0 0] 57)):=bal (Below.refl _ _) _;have s9:C0.1.size < (C0.alloc (.cells #[.string ⟨#[]⟩, .string ⟨#[]⟩, .int .u64 0, .int .i64 0, .int .i64 0, .slice none 0 0] 57)).1.size:=by simp
   have hw0:=g1.o.size;have A:=hI (show zI C0.1.size [] [] 0 0 0 (.slice none 0 0) (C0.alloc (.cells #[.string ⟨#[]⟩, .string ⟨#[]⟩, .int .u64 0, .int .i64 0, .int .i64 0, .slice none 0 0] 57))from zI.new [] [] 0 0 0 (.slice none 0 0) C0);clear hA;generalize (C0.alloc (.cells #[.string ⟨#[]⟩, .string ⟨#[]⟩, .int .u64 0, .int .i64 0, .int .i64 0, .slice none 0 0] 57))=I at *;refine jA (i:=5) (j:=10) rfl rfl (by kernel_rfl) (by rfl) (by rfl) (fun K O=>?_) (fun K O=>?_)
   ·go_simp;refine(m0.o I d4.o).mono ?_;rintro e G hX;rcases hX.cases with⟨p,u,hp,rfl,⟨kv,rfl,Z⟩,hb⟩ | ⟨l',c',code,hp,rfl,hb⟩;rotate_left
    ·exact⟨rfl,l',c',code,rfl,hp,d4.o.trans (hb.mono d4.o.size)⟩
    obtain⟨Y,⟨R,J⟩,pn,pv,pg,pl,pc,pk⟩:=p;obtain⟨uq,uc,rfl⟩:=Z.shape;simp only[exV,exC,Ex.kids]at *;have m7:=d4.o.size;have d2:=hI (d4.o.trans (hb.mono d4.o.size));have hs2:=hb.size;have A:=hI (A.o.below hb);have HL:=hI (Z.mono (ok':=fun g=>W.1.size<=g/\g≠C0.1.size) (fun g hg=>by omega));have HP:=hI hp;refine kK O d2.o ?_;clear O K hX hp Z hb;try simp only[Act.put,pZa,pZb,pZc]
    refine wOn 10 fun K O=>?_
    go_simp;refine kK O (bal d2.o _) ?_;clear O K;have d5:=hI (bal d2.o (.cells #[.string ⟨#[]⟩, .int .i64 0, .bool false, .int .u64 0, .int .i64 0, .bool false, .int .i64 0, .int .i64 0, .slice none 0 0] 76));have hA:Below G.1.size G (G.alloc (.cells #[.string ⟨#[]⟩, .int .i64 0, .bool false, .int .u64 0, .int .i64 0, .bool false, .int .i64 0, .int .i64 0, .slice none 0 0] 76)):=bal (Below.refl _ _) _;have hs3:G.1.size < (G.alloc (.cells #[.string ⟨#[]⟩, .int .i64 0, .bool false, .int .u64 0, .int .i64 0, .bool false, .int .i64 0, .int .i64 0, .slice none 0 0] 76)).1.size:=by simp
    have m9:=d2.o.size;have A:=hI (A.o.below hA);have s:=hI (show qQf G.1.size [] (0,false) 0 0 false 0 0 (.slice none 0 0) (G.alloc (.cells #[.string ⟨#[]⟩, .int .i64 0, .bool false, .int .u64 0, .int .i64 0, .bool false, .int .i64 0, .int .i64 0, .slice none 0 0] 76))from qQf.new [] (0,false) 0 0 false 0 0 (.slice none 0 0) G);have HL:=hI (qU.move HL.o (ok':=fun g=>W.1.size<=g/\g≠G.1.size/\g≠C0.1.size) (fun g hg hok=>⟨by first | exact⟨hok,by omega⟩ | exact⟨hok.1,by omega,hok.2⟩ | exact⟨hok.1,hok.2,by omega⟩ | omega,hA.block g hg⟩));clear hA;generalize (G.alloc (.cells #[.string ⟨#[]⟩, .int .i64 0, .bool false, .int .u64 0, .int .i64 0, .bool false, .int .i64 0, .int .i64 0, .slice none 0 0] 76))=C3 at *;refine wOn 12 fun K O=>?_
    have x0:=s.o.c0;have f9:=s.o.f 0 nL;have x1:=s.o.c1;have d9:=s.o.f 1 nL;have x2:=s.o.c2;have f8:=s.o.f 2 nL;have x3:=s.o.c3;have d8:=s.o.f 3 nL;have x4:=s.o.c4;have f7:=s.o.f 4 nL;have x5:=s.o.c5;have g0:=s.o.f 5 nL;have x6:=s.o.c6;have g5:=s.o.f 6 nL;have x7:=s.o.c7;have g2:=s.o.f 7 nL;have x8:=s.o.c8;have g3:=s.o.f 8 nL;go_simp;refine kK O (set9 d5.o (by omega) _ _ _ _ _ _ _ _ _) ?_;clear O K;clear x0 f9 x1 d9 x2 f8 x3 d8 x4 f7 x5 g0 x6 g5 x7 g2 x8 g3;have f6:=hI (set9 (N:=G.1.size) d5.o (by omega) (.string ⟨Y.toArray⟩) (.int .i64 R) (.bool J) (.int .u64 pn) (.int .i64 pv) (.bool pg) (.int .i64 pl) (.int .i64 pc) (.slice uq pk.length uc));have s:=hI (s.o.set9 (op':=Y) (T':=(R,J)) (n':=pn) (va':=pv) (g':=pg) (l':=pl) (c':=pc) (kv':=.slice uq pk.length uc));have hh:∀ g,g≠G.1.size->((((((((((C3.setCell ⟨G.1.size,0,none⟩ (.string ⟨Y.toArray⟩)).setCell ⟨G.1.size,1,none⟩ (.int .i64 R)).setCell ⟨G.1.size,2,none⟩ (.bool J)).setCell ⟨G.1.size,3,none⟩ (.int .u64 pn)).setCell ⟨G.1.size,4,none⟩ (.int .i64 pv)).setCell ⟨G.1.size,5,none⟩ (.bool pg)).setCell ⟨G.1.size,6,none⟩ (.int .i64 pl)).setCell ⟨G.1.size,7,none⟩ (.int .i64 pc)).setCell ⟨G.1.size,8,none⟩ (.slice uq pk.length uc))).1[g]? = C3.1[g]?:=fun g hg=>qUd _ _ _ hg _ _ _ _ _ _ _ _ _
    have A:=hI (A.o.turn (hh _ (by omega)));have HL:=hI (qU.move HL.o (ok':=fun g=>W.1.size<=g/\g≠G.1.size/\g≠C0.1.size) (fun g hg hok=>⟨hok,hh _ hok.2.1⟩));clear hh;generalize ((((((((((C3.setCell ⟨G.1.size,0,none⟩ (.string ⟨Y.toArray⟩)).setCell ⟨G.1.size,1,none⟩ (.int .i64 R)).setCell ⟨G.1.size,2,none⟩ (.bool J)).setCell ⟨G.1.size,3,none⟩ (.int .u64 pn)).setCell ⟨G.1.size,4,none⟩ (.int .i64 pv)).setCell ⟨G.1.size,5,none⟩ (.bool pg)).setCell ⟨G.1.size,6,none⟩ (.int .i64 pl)).setCell ⟨G.1.size,7,none⟩ (.int .i64 pc)).setCell ⟨G.1.size,8,none⟩ (.slice uq pk.length uc)))=C4 at *;refine wOn 13 fun K O=>?_
    have x0:=A.o.c0;have f9:=A.o.f 0 nL;have x1:=A.o.c1;have d9:=A.o.f 1 nL;have x2:=A.o.c2;have f8:=A.o.f 2 nL;have x3:=A.o.c3;have d8:=A.o.f 3 nL;have x4:=A.o.c4;have f7:=A.o.f 4 nL;have x5:=A.o.c5;have g0:=A.o.f 5 nL;go_simp;refine kK O (vN f6.o (by omega) _ _ _ _ _ _) ?_;clear O K;refine wDn ?_ _;exact⟨(G.1.size,C0.1.size, .mk Y (R,J) pn pv pg pl pc pk, .slice uq pk.length uc),by simp only[Act.put,pZa,pZb,pZc,exV,exC],vN f6.o (by omega) _ _ _ _ _ _,HP.o,s.o.turn (qZE _ _ _ (by omega) _ _ _ _ _ _),A.o.six bk bx bm d7 d6 (.slice qb d3.length cb),qU.move HL.o (fun g hg hok=>⟨hok.1,qZE _ _ _ hok.2.2 _ _ _ _ _ _⟩),by show W.1.size<=G.1.size;omega,by show W.1.size<=C0.1.size;omega,by show G.1.size≠C0.1.size;omega⟩
   ·go_simp;refine kK O (bal d4.o _) ?_;clear O K;have d2:=hI (bal d4.o (.cells #[.string ⟨#[]⟩, .int .i64 0, .bool false, .int .u64 0, .int .i64 0, .bool false, .int .i64 0, .int .i64 0, .slice none 0 0] 76));have hA:Below I.1.size I (I.alloc (.cells #[.string ⟨#[]⟩, .int .i64 0, .bool false, .int .u64 0, .int .i64 0, .bool false, .int .i64 0, .int .i64 0, .slice none 0 0] 76)):=bal (Below.refl _ _) _;have hs2:I.1.size < (I.alloc (.cells #[.string ⟨#[]⟩, .int .i64 0, .bool false, .int .u64 0, .int .i64 0, .bool false, .int .i64 0, .int .i64 0, .slice none 0 0] 76)).1.size:=by simp
    have m7:=d4.o.size;have A:=hI (A.o.below hA);have s:=hI (show qQf I.1.size [] (0,false) 0 0 false 0 0 (.slice none 0 0) (I.alloc (.cells #[.string ⟨#[]⟩, .int .i64 0, .bool false, .int .u64 0, .int .i64 0, .bool false, .int .i64 0, .int .i64 0, .slice none 0 0] 76))from qQf.new [] (0,false) 0 0 false 0 0 (.slice none 0 0) I);clear hA;generalize (I.alloc (.cells #[.string ⟨#[]⟩, .int .i64 0, .bool false, .int .u64 0, .int .i64 0, .bool false, .int .i64 0, .int .i64 0, .slice none 0 0] 76))=G at *;refine wOn 5 fun K O=>?_
    go_simp;refine(m0.o G d2.o).mono ?_;rintro e C3 hX;rcases hX.cases with⟨p,u,hp,rfl,⟨kv,rfl,Z⟩,hb⟩ | ⟨l',c',code,hp,rfl,hb⟩;rotate_left
    ·exact⟨rfl,l',c',code,rfl,hp,d2.o.trans (hb.mono d2.o.size)⟩
    obtain⟨Y,⟨R,J⟩,pn,pv,pg,pl,pc,pk⟩:=p;obtain⟨uq,uc,rfl⟩:=Z.shape;simp only[exV,exC,Ex.kids]at *;have m9:=d2.o.size;have d5:=hI (d2.o.trans (hb.mono d2.o.size));have hs3:=hb.size;have s:=hI (s.o.below hb);have A:=hI (A.o.below hb);have HL:=hI (Z.mono (ok':=fun g=>W.1.size<=g/\g≠I.1.size/\g≠C0.1.size) (fun g hg=>by omega));have HP:=hI hp;refine kK O d5.o ?_;clear O K hX hp Z hb;try simp only[Act.put,pZa,pZb,pZc]
    refine wOn 12 fun K O=>?_
    have x0:=s.o.c0;have f9:=s.o.f 0 nL;have x1:=s.o.c1;have d9:=s.o.f 1 nL;have x2:=s.o.c2;have f8:=s.o.f 2 nL;have x3:=s.o.c3;have d8:=s.o.f 3 nL;have x4:=s.o.c4;have f7:=s.o.f 4 nL;have x5:=s.o.c5;have g0:=s.o.f 5 nL;have x6:=s.o.c6;have g5:=s.o.f 6 nL;have x7:=s.o.c7;have g2:=s.o.f 7 nL;have x8:=s.o.c8;have g3:=s.o.f 8 nL;go_simp;refine kK O (set9 d5.o (by omega) _ _ _ _ _ _ _ _ _) ?_;clear O K;clear x0 f9 x1 d9 x2 f8 x3 d8 x4 f7 x5 g0 x6 g5 x7 g2 x8 g3;have f6:=hI (set9 (N:=I.1.size) d5.o (by omega) (.string ⟨Y.toArray⟩) (.int .i64 R) (.bool J) (.int .u64 pn) (.int .i64 pv) (.bool pg) (.int .i64 pl) (.int .i64 pc) (.slice uq pk.length uc));have s:=hI (s.o.set9 (op':=Y) (T':=(R,J)) (n':=pn) (va':=pv) (g':=pg) (l':=pl) (c':=pc) (kv':=.slice uq pk.length uc));have hh:∀ g,g≠I.1.size->((((((((((C3.setCell ⟨I.1.size,0,none⟩ (.string ⟨Y.toArray⟩)).setCell ⟨I.1.size,1,none⟩ (.int .i64 R)).setCell ⟨I.1.size,2,none⟩ (.bool J)).setCell ⟨I.1.size,3,none⟩ (.int .u64 pn)).setCell ⟨I.1.size,4,none⟩ (.int .i64 pv)).setCell ⟨I.1.size,5,none⟩ (.bool pg)).setCell ⟨I.1.size,6,none⟩ (.int .i64 pl)).setCell ⟨I.1.size,7,none⟩ (.int .i64 pc)).setCell ⟨I.1.size,8,none⟩ (.slice uq pk.length uc))).1[g]? = C3.1[g]?:=fun g hg=>qUd _ _ _ hg _ _ _ _ _ _ _ _ _
    have A:=hI (A.o.turn (hh _ (by omega)));have HL:=hI (qU.move HL.o (ok':=fun g=>W.1.size<=g/\g≠I.1.size/\g≠C0.1.size) (fun g hg hok=>⟨hok,hh _ hok.2.1⟩));clear hh;generalize ((((((((((C3.setCell ⟨I.1.size,0,none⟩ (.string ⟨Y.toArray⟩)).setCell ⟨I.1.size,1,none⟩ (.int .i64 R)).setCell ⟨I.1.size,2,none⟩ (.bool J)).setCell ⟨I.1.size,3,none⟩ (.int .u64 pn)).setCell ⟨I.1.size,4,none⟩ (.int .i64 pv)).setCell ⟨I.1.size,5,none⟩ (.bool pg)).setCell ⟨I.1.size,6,none⟩ (.int .i64 pl)).setCell ⟨I.1.size,7,none⟩ (.int .i64 pc)).setCell ⟨I.1.size,8,none⟩ (.slice uq pk.length uc)))=C4 at *;refine wOn 13 fun K O=>?_
    have x0:=A.o.c0;have f9:=A.o.f 0 nL;have x1:=A.o.c1;have d9:=A.o.f 1 nL;have x2:=A.o.c2;have f8:=A.o.f 2 nL;have x3:=A.o.c3;have d8:=A.o.f 3 nL;have x4:=A.o.c4;have f7:=A.o.f 4 nL;have x5:=A.o.c5;have g0:=A.o.f 5 nL;go_simp;refine kK O (vN f6.o (by omega) _ _ _ _ _ _) ?_;clear O K;refine wDn ?_ _;exact⟨(I.1.size,C0.1.size, .mk Y (R,J) pn pv pg pl pc pk, .slice uq pk.length uc),by simp only[Act.put,pZa,pZb,pZc,exV,exC],vN f6.o (by omega) _ _ _ _ _ _,HP.o,s.o.turn (qZE _ _ _ (by omega) _ _ _ _ _ _),A.o.six bk bx bm d7 d6 (.slice qb d3.length cb),qU.move HL.o (fun g hg hok=>⟨hok.1,qZE _ _ _ hok.2.2 _ _ _ _ _ _⟩),by show W.1.size<=I.1.size;omega,by show W.1.size<=C0.1.size;omega,by show I.1.size≠C0.1.size;omega⟩
 ·rintro⟨N6,N7,p,kv⟩ w3 G1;obtain⟨hb3,hp,hE,r6,Z,h6,h7,G6⟩:=G1;simp only at hp hE r6 Z h6 h7 G6;obtain⟨Y,⟨R,J⟩,pn,pv,pg,pl,pc,pk⟩:=p;obtain⟨uq,uc,rfl⟩:=Z.shape;have r9:=hI (r4.o.trans (by rw[hp];rfl:_=(wI (fs.map (·.h)) (.mk bk bx bm d7 d6 d3)).bind fun h=>(jQ (decide (h.1.t=(R,J))) (.mk bk bx bm d7 d6 d3) 41).bind fun _=>(wM ⟨M.gs,M.own fs⟩ d3 h.1.params).bind fun es=>.ok (.mk Y (R,J) pn pv pg pl pc pk,h.2,es)));have n7:=hI (m5.o.below hb3);have r2:=hI (p5.o.keep (hb3.mono (by omega)));have t3:=hI Z;have p6:=hI r6;have m1:=hI (show qQf N6 Y (R,J) pn pv pg pl pc (.slice uq pk.length uc) w3 from hE);have hs3:=hb3.size;clear n0 n1 n2 n3 n4 n5 k0 k1 k2 k3 k4 k5 j0 j1 j2 j3 j4 j5 hp hE r6 Z hb3 m0 p3 p5 t6 t1 r4 m5;simp only[exV,exC,Ex.kids]at *;have⟨x0,x1,x2,x3,x4,x5,x6,x7,x8,_⟩:=m1.o.a;have⟨y0,y1,y2,y3,y4,y5,_⟩:=p6.o.a;have s3:=n7.o.sb.c3;have F9:=n7.o.sb.f 3 nL;have D6:=n7.o.sb.lt;have N0:¬N7=NS:=by omega
  have N3:¬NS=N7:=by omega
  have F6:¬NS=w3.1.size:=by omega
  have G5:¬w3.1.size=NS:=by omega
  have M9:=p6.o.lt;have D9:¬N7=w3.1.size:=by omega
  have G2:¬w3.1.size=N7:=by omega
  try simp only[Act.put,pZa,pZb,pZc]
  go_wp2_with fail
  have m2:(w3.setCell ⟨NS,3,none⟩ (.slice (some ⟨w3.1.size,0,none⟩) 1 1)).1.size=w3.1.size:=by simp
  have p1:=hI (bal (Below.refl (w3.setCell ⟨NS,3,none⟩ (.slice (some ⟨w3.1.size,0,none⟩) 1 1)).1.size (w3.setCell ⟨NS,3,none⟩ (.slice (some ⟨w3.1.size,0,none⟩) 1 1))) (exO Y (R,J) pn pv pg pl pc (.slice uq pk.length uc)));have n6:=hI ((n7.o.setT (.slice (some ⟨w3.1.size,0,none⟩) 1 1)).below p1.o);have s1:=hI ((m1.o.turn (hS w3 ⟨NS,3,none⟩ (.slice (some ⟨w3.1.size,0,none⟩) 1 1) N6 (by show N6≠NS;omega))).below p1.o);have s6:=hI ((p6.o.turn (hS w3 ⟨NS,3,none⟩ (.slice (some ⟨w3.1.size,0,none⟩) 1 1) N7 (by show N7≠NS;omega))).below p1.o);have r8:=hI (qU.single (ok:=fun g=>w.1.size+1<=g) (p:=.mk Y (R,J) pn pv pg pl pc pk) (qU.mono (qU.setN (N:=NS) t3.o (by omega) (o:=3) (.slice (some ⟨w3.1.size,0,none⟩) 1 1)) (ok':=fun g=>w.1.size+1<=g) (fun g hg=>by omega)) (show w.1.size+1<=(w3.setCell ⟨NS,3,none⟩ (.slice (some ⟨w3.1.size,0,none⟩) 1 1)).1.size by rw[m2];omega));have p0:=hI ((r2.o.keep (jR (Below.refl _ _) hN (o:=3) (.slice (some ⟨w3.1.size,0,none⟩) 1 1))).keep (p1.o.mono (by rw[m2];omega)));simp only[exO,exC,m2]at n6 s1 s6 r8 p0;have M2:w3.1.size < ((w3.setCell ⟨NS,3,none⟩ (.slice (some ⟨w3.1.size,0,none⟩) 1 1)).alloc (.cells #[.string ⟨Y.toArray⟩, .int .i64 R, .bool J, .int .u64 pn, .int .i64 pv, .bool pg, .int .i64 pl, .int .i64 pc, .slice uq pk.length uc] 76)).1.size:=by simp
  clear p1 m2 x0 x1 x2 x3 x4 x5 x6 x7 x8 y0 y1 y2 y3 y4 y5 s3 F9 D6 n7 m1 p6 t3 r2 F6 G5 D9 G2;generalize ((w3.setCell ⟨NS,3,none⟩ _).alloc _)=V at *;refine(qWL M.B M.gs fs M.ci (.mk bk bx bm d7 d6 d3) (.slice qb d3.length cb) V n6.o.ra F3.o ⟨_,_,rfl⟩ F4.o).mono ?_;rintro e w5 hX;rcases hX.cases with⟨r,u,hp,rfl,rfl,hb5⟩ | ⟨l',c',code,hp,rfl,hb5⟩;rotate_left
  ·exact⟨rfl,(n6.o.below hb5).bad (by rw[r9.o,hp];rfl)⟩
  obtain⟨hd,i⟩:=r;obtain⟨hi,rfl,t9⟩:=qWK hp;have F0:=hI t9;have r7:=hI (r9.o.trans (by rw[hp];rfl:_=(jQ (decide (fs[i].h.t=(R,J))) (.mk bk bx bm d7 d6 d3) 41).bind fun _=>(wM ⟨M.gs,M.own fs⟩ d3 fs[i].h.params).bind fun es=>.ok (.mk Y (R,J) pn pv pg pl pc pk,i,es)));have p9:=hI (n6.o.below hb5);have D5:=hI (s1.o.below hb5);have D2:=hI (s6.o.below hb5);have t8:=hI (r8.o.below hb5);have r3:=hI (p0.o.keep (hb5.mono (by omega)));have M0:=hb5.size;have s5:=p9.o.sb.c5;have F1:=p9.o.sb.f 5 nL;clear hX hp hb5 n6 s1 s6 r8 p0 r9 t9;go_wp2
  have g8:=hI (p9.o.setF i);have m1:=hI (D5.o.turn (hS w5 ⟨NS,5,none⟩ (.int .i64 i) N6 (by show N6≠NS;omega)));have r5:=hI (D2.o.turn (hS w5 ⟨NS,5,none⟩ (.int .i64 i) N7 (by show N7≠NS;omega)));have D3:=hI (qU.setN (N:=NS) t8.o (by omega) (o:=5) (.int .i64 i));have r1:=hI (r3.o.keep (jR (Below.refl _ _) hN (o:=5) (.int .i64 i)));have M4:(w5.setCell ⟨NS,5,none⟩ (.int .i64 i)).1.size=w5.1.size:=by simp
  clear s5 F1 p9 D5 D2 t8 r3;generalize (w5.setCell ⟨NS,5,none⟩ (.int .i64 i))=U at *;have c1:=g8.o.mm.rd.c1;obtain⟨f0,f1,f2,f3,f4,f5⟩:=qZv g8.o.mm.rd.frow hi;have s5:=g8.o.sb.c5;have x1:=m1.o.c1;have x2:=m1.o.c2;have⟨y0,y1,y2,y3,y4,y5,_⟩:=r5.o.a;have M8:=g8.o.mm.rd.fl;have G7:(i:Int) < (fs.length:Nat):=by omega
  have s8:=hI (fun b w'=>qQk b (.mk bk bx bm d7 d6 d3) (.slice qb d3.length cb) 41 w');simp only[qZ,qS,qQ.kind,qQ.text,qQ.num,qQ.line,qQ.col,qQ.kids]at s8;clear f0 f3 f4 f5;refine wRg (S:=fun w'=>Below U.1.size U w') 99 ?_;refine wTk 0 32 (.pointer (some ⟨M.B,0,none⟩)) ?_ (bD U) ?_
  ·intro _ y;go_simp
  refine wTk 1 33 (.pointer (some ⟨M.B,0,none⟩)) ?_ (bD U) ?_
  ·intro _ y;go_simp
  refine wTk 2 34 (.pointer (some ⟨M.B,0,none⟩)) ?_ (bD U) ?_
  ·intro _ y;go_simp
  refine wTk 3 35 (.pointer (some ⟨M.B,1,none⟩)) ?_ (bD U) ?_
  ·intro _ y;go_simp
  refine wTk 4 36 (.slice (some ⟨M.F,0,none⟩) fs.length M.FC) ?_ (bD U) ?_
  ·intro _ y;have c1:=kP y c1;go_simp
  refine wTk 5 37 (.pointer (some ⟨NS,0,none⟩)) ?_ (bD U) ?_
  ·intro _ y;go_simp
  refine wTk 6 38 (.pointer (some ⟨NS,0,none⟩)) ?_ (bD U) ?_
  ·intro _ y;go_simp
  refine wTk 7 39 (.pointer (some ⟨NS,5,none⟩)) ?_ (bD U) ?_
  ·intro _ y;go_simp
  refine wTk 8 40 (.int .i64 i) ?_ (bD U) ?_
  ·intro _ y;have s5:=kP y s5;go_simp
  refine wTk 9 41 (.pointer (some ⟨M.F,i * 6,none⟩)) ?_ (bD U) ?_
  ·intro _ y;go_simp
  refine wTk 10 42 (.pointer (some ⟨M.F,i * 6+1,none⟩)) ?_ (bD U) ?_
  ·intro _ y;go_simp
  refine wTk 11 43 (.agg #[.int .i64 fs[i].h.t.1, .bool fs[i].h.t.2]) ?_ (bD U) ?_
  ·intro _ y;have f1:=kP y f1;have f2:=kP y f2;go_simp
  refine wTk 12 44 (.pointer (some ⟨N6,1,none⟩)) ?_ (bD U) ?_
  ·intro _ y;go_simp
  refine wTk 13 45 (.agg #[.int .i64 R, .bool J]) ?_ (bD U) ?_
  ·intro _ y;have x1:=kP y x1;have x2:=kP y x2;go_simp
  generalize hT:fs[i].h.t=T at *;obtain⟨T0,T1⟩:=T;refine wTk 14 46 (.bool (decide (((T0,T1):Ty)=(R,J)))) ?_ (bD U) ?_
  ·intro _ y;clear y hT;by_cases h0:T0=R
   ·subst h0;cases T1 <;> cases J <;> go_simp
   ·cases T1 <;> cases J <;> go_simp
  refine wTk 15 47 (.agg #[.string ⟨bk.toArray⟩, .string ⟨bx.toArray⟩, .int .u64 bm, .int .i64 d7, .int .i64 d6, .slice qb d3.length cb]) ?_ (bD U) ?_
  ·intro _ y;obtain⟨y0,y1,y2,y3,y4,y5⟩:=kP6 y y0 y1 y2 y3 y4 y5;go_simp
  refine wOn 16 fun K O=>?_
  go_simp;refine(s8.o _ _).mono ?_;rintro e w7 (⟨hbt,rfl,g4⟩ | ⟨hbt,rfl,g4⟩);rotate_left
  ·exact⟨rfl,(g8.o.below (zF g4)).bad (l':=d7) (c':=d6) (code:=41) (by rw[r7.o,qPs,hbt];rfl)⟩
  have g4:=zF g4;refine kK O g4 ?_;clear O K;refine wDn ?_ _;have t0:=hI (r7.o.trans (by rw[qPs,hbt];rfl:_=(wM ⟨M.gs,M.own fs⟩ d3 fs[i].h.params).bind fun es=>.ok (.mk Y (R,J) pn pv pg pl pc pk,i,es)));have g9:=hI (g8.o.below g4);have F2:=hI (D3.o.below g4);have D4:=hI (r1.o.keep (g4.mono g8.o.le));have s5:=g9.o.sb.c5;have y5:=(r5.o.below g4).c5;have s4:=g9.o.sb.c4;have F8:=g9.o.sb.f 4 nL;obtain⟨q',c',e,_,_,t7⟩:=D4.o.kids;injection e with e1 e2 e3;subst e1;have F5:=hI (show yD M.L w7 d3 qb from t7);have G9:=g4.size;clear hT hbt g4 c1 f1 f2 x1 x2 y0 y1 y2 y3 y4 s8 g8 m1 r5 D3 r1 r7 t7 e2 e3;go_wp2
  refine wRg (S:=fun w'=>Below w7.1.size w7 w') 11 ?_;refine wTk 0 49 (.pointer (some ⟨NS,0,none⟩)) ?_ (bD w7) ?_
  ·intro _ y;go_simp
  refine wTk 1 50 (.pointer (some ⟨M.B,0,none⟩)) ?_ (bD w7) ?_
  ·intro _ y;go_simp
  refine wTk 2 51 (.pointer (some ⟨NS,0,none⟩)) ?_ (bD w7) ?_
  ·intro _ y;go_simp
  refine wTk 3 52 (.pointer (some ⟨NS,0,none⟩)) ?_ (bD w7) ?_
  ·intro _ y;go_simp
  refine wTk 4 53 (.pointer (some ⟨NS,5,none⟩)) ?_ (bD w7) ?_
  ·intro _ y;go_simp
  refine wTk 5 54 (.int .i64 i) ?_ (bD w7) ?_
  ·intro _ y;have s5:=kP y s5;go_simp
  refine wTk 6 55 (.pointer (some ⟨N7,5,none⟩)) ?_ (bD w7) ?_
  ·intro _ y;go_simp
  refine wTk 7 56 (.slice qb d3.length cb) ?_ (bD w7) ?_
  ·intro _ y;have y5:=kP y y5;go_simp
  refine wOn 8 fun K O=>?_
  go_simp;refine(qPg M.B M.L M.gs fs M.ci i d3 qb cb _ F7.o (g9.o.below (Below.refl _ _).drew).ra hi F0.o (g9.o.below (Below.refl _ _).drew).le (F5.o.keep (Below.refl _ _).drew)).mono ?_;rintro e w9 hX;rcases hX.cases with⟨es,u,hp,rfl,Z,g7⟩ | ⟨l',c',code,hp,rfl,g7⟩;rotate_left
  ·exact⟨rfl,(g9.o.below (zF g7)).bad (t0.o.trans (congrArg (fun z:CR (List Ex)=>z.bind fun es=>CR.ok (Ex.mk Y (R,J) pn pv pg pl pc pk,i,es)) hp))⟩
  have g7:=zF g7;have p4:=hI (g9.o.below g7);have D8:=hI (F2.o.below g7);have HF:=hI (t0.o.trans (congrArg (fun z:CR (List Ex)=>z.bind fun es=>CR.ok (Ex.mk Y (R,J) pn pv pg pl pc pk,i,es)) hp));have G4:=hI (Z.mono (ok':=fun g=>w.1.size+1<=g) (fun g hg=>by have:w7.1.size<=g:=hg;omega));obtain⟨vq,vc,rfl⟩:=Z.shape;have s4:=p4.o.sb.c4;have F8:=p4.o.sb.f 4 nL;refine kK O g7 ?_;clear O K;refine wOn 9 fun K O=>?_
  go_simp;refine kK O g7 ?_;clear O K;refine wOn 10 fun K O=>?_
  go_simp;refine kK O g7 ?_;clear O K;refine wOn 11 fun K O=>?_
  go_simp;refine kD O ?_;clear O K;refine wDn ?_ _;go_wp2
  go_end0;exact qQY.okI HF.o ⟨_,_,(p4.o.setE (.slice vq es.length vc)).sb,qU.mono (qU.setN (N:=NS) D8.o (by omega) (o:=4) (.slice vq es.length vc)) (fun g hg=>by omega),qU.mono (qU.setN (N:=NS) G4.o (by omega) (o:=4) (.slice vq es.length vc)) (fun g hg=>by omega)⟩ (p4.o.setE (.slice vq es.length vc)).gr
theorem st_result(k x:List UInt8)(m ln co:Int)(ks:List qQ)(d5:k.length<=1000000)(h1:(k == qP)=false)(h2:(k == qW)=false)(h3:(k == zW)=false)(h4:(k == qN)=true)
 (g2:∃ a b,ks=[a,b]/\wfE a=true/\b.text.length<=1000000/\qZV b.kids=true/\b.kids.length<=1000000):qUB (.mk k x m ln co ks):=by
 intro M fs v w h hL hl;obtain⟨q,c,rfl,m0,m5,z⟩:=hl.kids;have U:=bal (bal (Below.refl w.1.size w) (qB (.mk k x m ln co ks) (.slice q ks.length c))) (sxO [] 0 0 (.slice none 0 0) (.slice none 0 0) 0 (.slice none 0 0) (.slice none 0 0));have g6:=hI U;have HN:=hI ((Bx.new (.mk k x m ln co ks) (.slice q ks.length c) w).below (bal (Below.refl _ _) (sxO [] 0 0 (.slice none 0 0) (.slice none 0 0) 0 (.slice none 0 0) (.slice none 0 0))));have HT:=hI (jO.new [] 0 0 (.slice none 0 0) (.slice none 0 0) 0 (.slice none 0 0) (.slice none 0 0) (w.alloc (qB (.mk k x m ln co ks) (.slice q ks.length c))));simp only[World.size_alloc]at HT;have f5:=hI (show jX ((w.alloc (qB (.mk k x m ln co ks) (.slice q ks.length c))).alloc (sxO [] 0 0 (.slice none 0 0) (.slice none 0 0) 0 (.slice none 0 0) (.slice none 0 0))) (w.1.size+1) 73 from by
  have:=jO.kind (op:=[]) (l:=0) (c:=0) (tv:=.slice none 0 0) (ev:=.slice none 0 0) (fn:=0) (hv:=.slice none 0 0) (lv:=.slice none 0 0) (w.alloc (qB (.mk k x m ln co ks) (.slice q ks.length c)));simpa using this)
 have HM:=hI (show M.at fs ((w.alloc (qB (.mk k x m ln co ks) (.slice q ks.length c))).alloc (sxO [] 0 0 (.slice none 0 0) (.slice none 0 0) 0 (.slice none 0 0) (.slice none 0 0)))from h.below U);have d4:=hI h;have g5:=hI hl;have A:((w.alloc (qB (.mk k x m ln co ks) (.slice q ks.length c))).alloc (sxO [] 0 0 (.slice none 0 0) (.slice none 0 0) 0 (.slice none 0 0) (.slice none 0 0))).1.size=w.1.size+2:=by simp
 have g4:=hI (qVP M.gs (fs.map (·.h)) (fs.getD M.ci noF).h.t k x m ln co ks (M.own fs));have HK:=hI z;have p5:M.L<=w.1.size:=hL;clear h hl z U;simp only[qZ,qB,sxO,qS,qQ.kind,qQ.text,qQ.num,qQ.line,qQ.col,qQ.kids]at *;go_enter func122,ntmps122
 go_wp2
 generalize ((w.alloc _).alloc _)=W at *;have I:=hI A;clear A;obtain⟨J,n1,n2,R,O,n5⟩:=HN.o.cells;refine qXG (fun a N=>(((((((((a.put (some 7) (.pointer (some ⟨w.1.size,0,none⟩))).put (some 8) (.string ⟨k.toArray⟩)).put (some 9) (.string ⟨k.toArray⟩)).put (some 10) (.pointer (some ⟨w.1.size,3,none⟩))).put (some 11) (.int .i64 ln)).put (some 12) (.pointer (some ⟨w.1.size,4,none⟩))).put (some 13) (.int .i64 co)).put (some 14) (.agg #[.string ⟨k.toArray⟩, .int .i64 ln, .int .i64 co, .slice none 0 0, .slice none 0 0, .int .i64 0, .slice none 0 0, .slice none 0 0])).put (some 5) (.pointer (some ⟨N,0,none⟩)))) (fun N w'=>StIn W k ln co N w') ?_ ?_
 ·refine wRg (S:=fun w'=>Below W.1.size W w') 99 ?_;refine wTk 0 7 (.pointer (some ⟨w.1.size,0,none⟩)) ?_ (bD W) ?_
  ·intro _ y;go_simp
  refine wTk 1 8 (.string ⟨k.toArray⟩) ?_ (bD W) ?_
  ·intro _ y;obtain⟨J,R,O⟩:=kP3 y J R O;go_simp
  refine wTk 3 10 (.pointer (some ⟨w.1.size,3,none⟩)) ?_ (bD W) ?_
  ·intro _ y;go_simp
  refine wTk 4 11 (.int .i64 ln) ?_ (bD W) ?_
  ·intro _ y;obtain⟨J,R,O⟩:=kP3 y J R O;go_simp
  refine wTk 5 12 (.pointer (some ⟨w.1.size,4,none⟩)) ?_ (bD W) ?_
  ·intro _ y;go_simp
  refine wTk 6 13 (.int .i64 co) ?_ (bD W) ?_
  ·intro _ y;obtain⟨J,R,O⟩:=kP3 y J R O;go_simp
  refine wE (i:=2) (j:=8) rfl rfl (by kernel_rfl) (by rfl) (by rfl) (fun K z=>?_) (fun K z=>?_)
  ·go_simp;refine(yP ⟨k.toArray⟩ _ (by simpa[ByteArray.size]using d5)).mono ?_;rintro e w3 ⟨rfl,hb3⟩;have hb3:=zF hb3;refine kK z hb3 ?_;clear z K;refine wTk 7 14 (.agg #[.string ⟨k.toArray⟩, .int .i64 ln, .int .i64 co, .slice none 0 0, .slice none 0 0, .int .i64 0, .slice none 0 0, .slice none 0 0]) ?_ (hb3) ?_
   ·intro _ y;go_simp
   refine wOn 8 fun K z=>?_
   go_simp;refine kK z (bal hb3 _) ?_;clear z K;refine wOn 9 fun K z=>?_
   go_simp;refine kK z (bal hb3 _) ?_;clear z K;refine wDn ?_ _;exact⟨w3.1.size,by simp only[Act.put,pZa,pZb,pZc],bal hb3 (sxO k ln co (.slice none 0 0) (.slice none 0 0) 0 (.slice none 0 0) (.slice none 0 0)),jO.new k ln co (.slice none 0 0) (.slice none 0 0) 0 (.slice none 0 0) (.slice none 0 0) w3,jO.kind w3,hb3.size⟩
  ·go_simp;refine kK z (bal (Below.refl W.1.size W).drew (.cells #[.string ⟨#[]⟩, .int .i64 0, .int .i64 0, .slice none 0 0, .slice none 0 0, .int .i64 0, .slice none 0 0, .slice none 0 0] 73)) ?_;clear z K;refine wOn 2 fun K z=>?_
   go_simp;refine(yP ⟨k.toArray⟩ _ (by simpa[ByteArray.size]using d5)).mono ?_;rintro e w3 ⟨rfl,hb3⟩;have hb4:=(bal (Below.refl W.1.size W).drew (.cells #[.string ⟨#[]⟩, .int .i64 0, .int .i64 0, .slice none 0 0, .slice none 0 0, .int .i64 0, .slice none 0 0, .slice none 0 0] 73)).trans (hb3.mono (by simp));refine kK z hb4 ?_;clear z K;refine wTk 7 14 (.agg #[.string ⟨k.toArray⟩, .int .i64 ln, .int .i64 co, .slice none 0 0, .slice none 0 0, .int .i64 0, .slice none 0 0, .slice none 0 0]) ?_ (hb4) ?_
   ·intro _ y;go_simp
   have hb3:Below (W.alloc (sxO [] 0 0 (.slice none 0 0) (.slice none 0 0) 0 (.slice none 0 0) (.slice none 0 0))).1.size (W.alloc (sxO [] 0 0 (.slice none 0 0) (.slice none 0 0) 0 (.slice none 0 0) (.slice none 0 0))) w3:=⟨hb3.os,hb3.tape,hb3.output,hb3.size,hb3.block⟩;have sb:=(jO.new [] 0 0 (.slice none 0 0) (.slice none 0 0) 0 (.slice none 0 0) (.slice none 0 0) W).below hb3;have kd:jX w3 W.1.size 73:=(jO.kind (op:=[]) (l:=0) (c:=0) (tv:=.slice none 0 0) (ev:=.slice none 0 0) (fn:=0) (hv:=.slice none 0 0) (lv:=.slice none 0 0) W).turn (hb3.block _ (by simp));have⟨z0,z1,z2,z3,z4,z5,z6,z7,_⟩:=sb.a;have⟨t1,t0,p7,n7,p1,n6,p0,n9,_⟩:=sb.b;refine wOn 9 fun K z=>?_
   go_simp;refine kK z (set8 hb4 (Nat.le_refl _) _ _ _ _ _ _ _ _) ?_;clear z K;refine wDn ?_ _;exact⟨W.1.size,by simp only[Act.put,pZa,pZb,pZc],set8 hb4 (Nat.le_refl _) _ _ _ _ _ _ _ _,sb.set8,(((((((kd.set _ _ _).set _ _ _).set _ _ _).set _ _ _).set _ _ _).set _ _ _).set _ _ _).set _ _ _,Nat.le_refl _⟩
 ·intro NS w5 g7;obtain⟨hb5,hS5,d7,p3⟩:=g7;try simp only[Act.put,pZa,pZb,pZc]
  have A:=I.o;have m3:w.1.size+2<=w5.1.size:=by have:=hb5.size;omega
  have f9:M.L<=NS:=by omega
  have hL5:M.L<=w5.1.size:=by have:=hb5.size;omega
  have s:=hI (g6.o.trans (hb5.mono (by omega)));have f6:=hI (show M.at fs w5 from HM.o.below hb5);have g9:=hI (HN.o.below hb5);have Z:=hI (HT.o.below hb5);have m1:=hI hS5;have Y:=hI d7;have m4:=hI (show xZ w5 (· < M.L) (.mk k x m ln co ks) (.slice q ks.length c)from xZ.move (fun g hg hok=>⟨hok,s.o.block g hg⟩) _ _ g5.o);have f7:=hI (HK.o.keep (s.o.mono hL));have f8:=hI (show jX w5 (w.1.size+1) 73 from by
   have h1:=HT.o.c0;exact(show jX W (w.1.size+1) 73 from f5.o).turn (hb5.block _ (by omega)))
  obtain⟨J,n1,n2,R,O,n5⟩:=g9.o.cells;clear hb5 hS5 d7 A;obtain⟨a,b,rfl,ha,f4,f3,d6⟩:=g2;have HP:=hI (g4.o.trans (by rw[h1,h2,h3,h4];simp only[bF,if_false,if_true,qVk,CR.bind_assoc];rfl:_=(qVk ⟨M.gs,M.own fs⟩ (fs.map (·.h)) a b).bind fun r=>.ok (.mk zW ln co [r.1] r.2.2 r.2.1 [] [],M.own fs)));have HC:=hI (result_any M fs NS k x m ln co a b q c k ln co (.slice none 0 0) (.slice none 0 0) 0 w5 f6.o hL5 f7.o (by simpa using m0) ha f4 f3 d6 m1.o Y.o f9);simp only[qZ,qQ.kind,qQ.text,qQ.num,qQ.line,qQ.col,qQ.kids,List.length]at *;unfold qP at h1;unfold qW at h2;unfold zW at h3;unfold qN at h4;clear ha f4 f3 d6;go_wp2_with fail
  refine(HC.o).mono ?_;rintro e w6 hX;cases hp:qVk ⟨M.gs,M.own fs⟩ (fs.map (·.h)) a b with
  | bad l' c' code =>
   have X:=hX;unfold qQY at X;rw[hp]at X;obtain⟨rfl,hg⟩:=X;refine⟨rfl,qQX.badI (by rw[HP.o,hp];rfl) ?_⟩;exact⟨hg.os.trans s.o.os,hg.tape.trans s.o.tape,hg.output.trans s.o.output,Nat.le_trans s.o.size hg.size,fun b hb _ _ _=>(hg.block b (by have:=s.o.size;omega) (fun e=>by injection e with e;have:=I.o;omega)).trans (s.o.block b hb)⟩
  | ok r =>
   obtain⟨pp,fi,es⟩:=r;unfold qQY at hX;rw[hp]at hX;obtain⟨rfl,⟨r8,m9,d2,V,C⟩,hg⟩:=hX;obtain⟨uq,uc,rfl⟩:=C.shape;obtain⟨tq,tc,rfl⟩:=V.shape;have g0:=hI V;have A:=I.o;have n8:=s.o.size;have hg5:=hg.size;have d8:w.1.size+1≠NS:=by omega
   have HQ:=hI (HP.o.trans (by rw[hp];rfl:_=.ok (.mk zW ln co [pp] es fi [] [],M.own fs)));have d3:=hI (Z.o.turn (hg.block _ Z.o.lt (fun e=>d8 (by injection e))));have p8:=hI d2;have g1:=hI (show M.at fs w6 from Mem.keep f6.o (fun b S G hSq=>hg.block b (by obtain⟨cs,fr,G⟩:=G;exact qZF G) (fun e=>(G.ne Y.o hSq) (by injection e))) (fun b G=>hg.block b (by obtain⟨p4,cc,G⟩:=G;exact qZF G) (fun e=>(vU G Y.o) (by injection e))) (fun b hb hbL=>hg.block b hb (fun e=>by injection e with e;omega)));have m2:=hI ((yX.toN (NS:=NS) (yX.of_below (F:=M.F) (Mo:=M.Mo) (vv:=M.vv fs) s.o)).trans (grown_N (vv:=M.vv fs) hg) (.inl rfl));have d9:=hI (f8.o.turn (hg.block _ Z.o.lt (fun e=>d8 (by injection e))));have g3:=hI C;have g8:∀ g,(M.vv fs).ownBlock=some g->g < w.1.size:=Mem.vlt d4.o;have hi:=d4.o.rd.hi;have HI:=hI hi;have⟨r0,r1,r2,r3,r4,r5,r6,r7,_⟩:=d3.o.a;have⟨p9,s9,p6,m7,s8,r9,m6,p2,_⟩:=d3.o.b;have⟨s0,s1,s2,s3,s4,s5,s6,s7,_⟩:=d2.a;have rl:=d3.o.lt;clear J n1 n2 R O n5 hp d2 C V hg HC hi A;go_wp2
   refine bodyPost_ret (v:=sxV (.mk zW ln co [pp] es fi [] []) ⟨.slice tq 1 tc, .slice uq es.length uc, .slice none 0 0, .slice none 0 0⟩) (by simp[results,results122,go_sem,sxV,r0,r1,r2,r3,r4,r5,r6,r7,rl]) rfl (qQX.okI (vv':=M.vv fs) HQ.o ?_ ?_ (.inl rfl) ⟨_,rfl,?_⟩)
   ·rw[show xU fs M.ci (M.own fs) (M.vv fs)=fs from qXB HI.o];exact Mem.set8 g1.o d9.o (by omega) _ _ _ _ _ _ _ _
   ·exact yX.fin m2.o (by have:=I.o;omega) (by omega) _ _ _ _ _ _ _ _
   ·refine⟨qU.move g0.o (fun g hg hok=>?_),qU.move g3.o (fun g hg hok=>?_),jE.nil _ _,jE.nil _ _⟩;all_goals exact⟨⟨by omega,fun e=>by have:=g8 g e.symm;omega⟩,qJI _ _ _ (by omega) _ _ _ _ _ _ _ _⟩
def BlW(rec:WT->qQ->Ws):Prop:=∀ t ws,rec .block t=some ws->ws.length<=900000->qZl t->qUz t
section
variable {rec:WT->qQ->Ws}
theorem qKG(o:qMD rec){k x:List UInt8}{m ln co:Int}{e b:qQ}{r:List qQ}{ws:List (List UInt8)}(h:qQi rec (.mk k x m ln co (e :: b :: r))=some ws)(s:qZl e):wfE e=true/\∃ w,rec .block b=some w/\w.length<=ws.length:=by
 rw[qJH]at h;simp only at h;obtain⟨_,y,_,h2,rfl⟩:=qK h;obtain⟨z,C,h3,h4,rfl⟩:=qK h2;obtain⟨_,j,_,A,rfl⟩:=qK h4;exact⟨o _ _ h3 s,j,A,by simp;omega⟩
theorem qMl(A:qMD rec){k x:List UInt8}{m ln co:Int}{ks:List qQ}{ws:List (List UInt8)}(h:qKY rec (.mk k x m ln co ks)=some ws)(C:qZl (.mk k x m ln co ks)):k=zW/\qZV ks=true:=by
 have hN:=qQx C;rw[qWJ]at h;obtain⟨j,o⟩:=zN h;simp only[bE,beq_iff_eq]at j;obtain⟨_,y,_,h2,_⟩:=qK o;obtain⟨z,_,h3,_,_⟩:=qK h2;exact⟨j.1,qMC fun t ht=>by
  obtain⟨w,s⟩:=qKC h3 t ht;exact A _ _ s (hN.2.2.2.2.2.mem t ht)⟩
theorem st_of(C:qMD rec)(hb:BlW rec){t:qQ}{ws:List (List UInt8)}(h:qJr rec t=some ws)(hl:ws.length<=900000)(V:qZl t)(Y:(t.kind == qE)=false):qUB t:=by
 obtain⟨k,x,m,ln,co,ks⟩:=t;have hN:=qQx V;have j:=fun(t:qQ) (ht:t∈ks)=>hN.2.2.2.2.2.mem t ht
 rw[wX]at h;split at h
 ·rename_i s;rw[beq_iff_eq]at s;subst s;rw[qJb]at h;obtain⟨_,o⟩:=zN h;rcases ks with _ | ⟨e,_ | ⟨b,_ | ⟨c,_ | ⟨d,r⟩⟩⟩⟩
  ·simp at o
  ·simp at o
  ·simp only at o;obtain⟨h2,w,h3,h4⟩:=qKG C o (j e (by simp));exact qJj _ x m ln co _ hN.1 rfl rfl rfl rfl rfl ⟨e,[b],rfl,h2,by simp,fun u hu=>by
    obtain rfl:u=b:=by simpa using hu
    exact hb _ _ h3 (by omega) (j _ (by simp))⟩
  ·simp only at o;obtain⟨y,z,h2,h3,rfl⟩:=qK o;obtain⟨_,X,_,h4,rfl⟩:=qK h3;obtain⟨G,w,J,O⟩:=qKG C h2 (j e (by simp));refine qJj _ x m ln co _ hN.1 rfl rfl rfl rfl rfl ⟨e,[b,c],rfl,G,by simp,fun u hu=>?_⟩;simp only[lL]at hl;have R:u=b\/u=c:=by simpa using hu
   rcases R with rfl | rfl
   ·exact hb _ _ J (by omega) (j _ (by simp))
   ·exact hb _ _ h4 (by omega) (j _ (by simp))
  ·simp at o
 split at h
 ·rename_i s;rw[beq_iff_eq]at s;subst s;obtain⟨A,o⟩:=zN h;rcases ks with _ | ⟨e,_ | ⟨b,_ | ⟨c,r⟩⟩⟩
  ·simp at A
  ·simp at A
  ·obtain⟨h2,w,h3,h4⟩:=qKG C o (j e (by simp));exact qJj _ x m ln co _ hN.1 rfl rfl rfl rfl rfl ⟨e,[b],rfl,h2,by simp,fun u hu=>by
    obtain rfl:u=b:=by simpa using hu
    exact hb _ _ h3 (by omega) (j _ (by simp))⟩
  ·simp at A
 split at h
 ·rename_i s;rw[show(qQ.mk k x m ln co ks).kind=k from rfl,s]at Y;cases Y
 split at h
 ·rename_i s;rw[beq_iff_eq]at s;subst s;obtain⟨y,_,o,_,_⟩:=qK h;exact st_call _ x m ln co _ hN.1 rfl rfl rfl ⟨(qMl C o V).2,hN.2.2.2.2.1,hN.2.1⟩
 split at h
 ·rename_i s;rw[beq_iff_eq]at s;subst s;obtain⟨A,o⟩:=zN h;simp only[bE,decide_eq_true_eq]at A;obtain⟨y,_,h2,_,_⟩:=qK o;obtain⟨_,z,_,h3,_⟩:=qK h2;exact st_return _ x m ln co _ hN.1 rfl rfl rfl rfl rfl ⟨qMC fun t ht=>by
   obtain⟨w,Z⟩:=qKC h3 t ht;exact C _ _ Z (j t ht),by have:ks.length<=1:=A.2;omega⟩
 split at h
 ·rename_i s;have U:k=qF\/k=qD:=by simpa using s
  rcases ks with _ | ⟨e,_ | ⟨b,r⟩⟩
  ·simp at h
  ·simp only at h;obtain⟨_,o⟩:=zN h;obtain⟨y,_,h2,_,_⟩:=qK o;obtain⟨_,z,_,h3,_⟩:=qK h2;obtain⟨q,_,h4,_,_⟩:=qK h3;rcases U with rfl | rfl <;> exact qJj _ x m ln co _ hN.1 rfl rfl rfl rfl rfl ⟨e,[],rfl,C _ _ h4 (j e (by simp)),by simp,fun u hu=>by simp at hu⟩
  ·simp at h
 ·obtain⟨y,_,o,_,_⟩:=qK h;rw[qK7]at o;obtain⟨_,h2⟩:=zN o;rcases ks with _ | ⟨a,_ | ⟨b,_ | ⟨c,r⟩⟩⟩
  ·simp at h2
  ·simp only at h2;obtain⟨h3,h4⟩:=zN h2;rw[beq_iff_eq]at h3;subst h3;obtain⟨z,_,G,_,_⟩:=qK h4;exact st_nondet _ x m ln co _ hN.1 rfl rfl ⟨a,rfl,qKf C G (j a (by simp))⟩
  ·simp only at h2;split at h2
   ·rename_i h3;rw[beq_iff_eq]at h3;subst h3;obtain⟨z,X,G,J,_⟩:=qK h2;obtain⟨_,z3,_,O,_⟩:=qK J;exact st_assign _ x m ln co _ hN.1 rfl ⟨a,b,rfl,qKf C G (j a (by simp)),C _ _ O (j b (by simp))⟩
   ·obtain⟨h3,h4⟩:=zN h2;rw[beq_iff_eq]at h3;subst h3;obtain⟨z,X,G,J,_⟩:=qK h4;obtain⟨_,z3,_,O,_⟩:=qK J;have I:=j b (by simp);obtain⟨bk,bx,bm,bl,bc,d2⟩:=b;have hB:=qQx I;exact st_result _ x m ln co _ hN.1 rfl rfl rfl rfl ⟨a,_,rfl,qKf C G (j a (by simp)),hB.2.1,(qMl C O I).2,hB.2.2.2.2.1⟩
  ·simp at h2
theorem local_of{t:qQ}{ws:List (List UInt8)}(h:qJr rec t=some ws)(o:qZl t)(s:(t.kind == qE)=true):t.text.length<=1000000/\∃ a r,t.kids=a :: r:=by
 obtain⟨k,x,m,ln,co,ks⟩:=t;have hN:=qQx o;refine⟨hN.2.1,?_⟩;rw[wX]at h;have j:k=qE:=by simpa[qQ.kind]using s
 subst j;rw[if_neg (by decide),if_neg (by decide),if_pos (by decide)]at h;obtain⟨y,_⟩:=zN h;rcases ks with _ | ⟨a,r⟩
 ·simp at y
 ·exact⟨a,r,rfl⟩
theorem bl_of(A:qMD rec)(hb:BlW rec){t:qQ}{ws:List (List UInt8)}(h:qVv rec t=some ws)(hl:ws.length<=900000)(C:qZl t):qUz t:=by
 obtain⟨k,x,m,ln,co,ks⟩:=t;have hN:=qQx C;rw[qYY]at h;obtain⟨_,s⟩:=zN h;obtain⟨_,y,_,h2,rfl⟩:=qK s;obtain⟨z,_,h3,_,rfl⟩:=qK h2;simp only[lL]at hl;have o:ks.length<=z.length:=qPQ (fun t _ w j=>stmtW_pos j) h3;refine block_ok _ (by show ks.length<=_;omega) (fun u hu hk=>?_) (fun u hu hk=>?_)
 ·obtain⟨w,j,G⟩:=qJM h3 u hu;exact st_of A hb j (by omega) (hN.2.2.2.2.2.mem u hu) hk
 ·obtain⟨w,j,_⟩:=qJM h3 u hu;exact local_of j (hN.2.2.2.2.2.mem u hu) hk
end
theorem qYd:∀ n,BlW (qZB n)
 | 0,t,ws,h,_,_=>by simp[qZB]at h
 | n+1,t,ws,h,hl,hn=>bl_of (qUs n) (qYd n) (by simpa[qZB,stepW]using h) hl hn
structure BIn(B L:Nat)(gs:List qI)(fs:List FnM)(FC Mf:Nat)(gv:Value)(Mg Mr F:Nat)(cl:vE)(w:World):Prop where
 c0:w.cell? ⟨B,0,none⟩=some gv
 c1:w.cell? ⟨B,1,none⟩=some (.slice (some ⟨F,0,none⟩) fs.length FC)
 c3:w.cell? ⟨B,3,none⟩=some (.map (some Mg))
 c4:w.cell? ⟨B,4,none⟩=some (.map (some Mf))
 c6:w.cell? ⟨B,6,none⟩=some (.map (some Mr))
 c2:∃ u,w.cell? ⟨B,2,none⟩=some u
 c7:∃ u,w.cell? ⟨B,7,none⟩=some u
 c8:∃ u,w.cell? ⟨B,8,none⟩=some u
 bf:∀ k,k < 9->w.frozen? ⟨B,k,none⟩=false
 frow:w.ownsRow 0 40 6 (.slice (some ⟨F,0,none⟩) fs.length FC) fs.length (xD fnC fs)
 vrow:∀ f∈fs,qQI w 0 f.vars f.vv
 grow:qQI w 0 gs gv
 gm:wY w Mg (gs.map (·.name))
 fm:wY w Mf ((fs.map (·.h)).map (·.name))
 rm:qJs w Mr cl
 cc:w.cell? ⟨cl.c,0,none⟩=some (.pointer (some ⟨B,0,none⟩))
 ce:w.cell? ⟨cl.eq,0,none⟩=some (.func (.func 81) #[] #[.pointer (some ⟨cl.c,0,none⟩)])
 b0:w.cell? ⟨1,0,none⟩=some (.int .i64 1)
 b1:w.cell? ⟨1,1,none⟩=some (.bool false)
 d0:w.cell? ⟨2,0,none⟩=some (.int .i64 64)
 d1:w.cell? ⟨2,1,none⟩=some (.bool false)
 gl:gs.length<=64
 fl:fs.length<=16
 vl:∀ f∈fs,f.vars.length<=64
 par:∀ f∈fs,∃ rest,f.vars=f.h.params++rest
 kb:jX w B 121
 kc:jX w cl.c 135
 ke:jX w cl.eq 136
 lo:L<=F/\4 < L/\L<=B
 lv:∀ j,j < fs.length->∀ g,(fs.getD j noF).vv.ownBlock=some g->L<=g/\some g≠gv.ownBlock/\∀ i,i < fs.length->i≠j->some g≠(fs.getD i noF).vv.ownBlock
 wt:∃ b off cap,qZo b off cap w/\b < L
theorem qJs.kept{w w':World}{b:Nat}{c:vE}(h:qJs w b c)(hb:w'.1[b]? = w.1[b]?):qJs w' b c:=by
 obtain⟨n,D,⟨j,k,o,h2⟩,h3⟩:=h;exact⟨n,D,⟨j,k,hb.trans o,h2⟩,h3⟩
theorem qZo.low{b y s L:Nat}{w w':World}(h:qZo b y s w)(hb:b < L)(h4:4 < L)(hL:∀ k,k < w.1.size->k < L->w'.1[k]? = w.1[k]?):qZo b y s w':=by
 have j:∀ {b o u},w'.1[b]? = w.1[b]?->w.cell? ⟨b,o,none⟩=some u->w'.cell? ⟨b,o,none⟩=some u:=fun hb hc=>(cB hb).trans hc
 have z:=hL 4 (qJ h.tg) h4;have sb:w'.1[b]? = w.1[b]?:=hL b (qJ (h.tn 0 (by omega))) hb;exact⟨j z h.tg,fun i hi=>j sb (h.tn i hi),fun i hi=>j sb (h.tw i hi),fun i hi=>j sb (h.ts i hi)⟩
section
variable {B L:Nat} {gs:List qI} {fs:List FnM} {ci FC Mf:Nat} {gv:Value} {Mg Mo Mr F:Nat} {cl:vE} {w w' w2:World}
theorem qZN(h:∀ f∈fs,qQI w 0 f.vars f.vv){j:Nat}(o:j < fs.length):qQI w 0 (fs.getD j noF).vars (fs.getD j noF).vv:=by
 rw[yY o];exact h _ (List.getElem_mem _)
theorem BIn.enter(h:BIn B L gs fs FC Mf gv Mg Mr F cl w)(hi:ci < fs.length)(d2:w.1.size<=Mo)
 (c7:w2.cell? ⟨B,7,none⟩=some (.pointer (some ⟨F,ci * 6,none⟩))) (c8:w2.cell? ⟨B,8,none⟩=some (.map (some Mo)))
 (z:∀ o,o≠7->o≠8->w2.cell? ⟨B,o,none⟩=w.cell? ⟨B,o,none⟩) (kB:jX w2 B 121) (om:wY w2 Mo ((fs.getD ci noF).vars.map (·.name)))
 (U:∀ k,k < w.1.size->k≠B->w2.1[k]? = w.1[k]?):WIn B L gs fs ci FC Mf gv Mg Mo Mr F cl w2:=by
 have kF:jX w F 40:=zE h.frow rfl;have C:∀ {b S},jX w b S->S≠121->w2.1[b]? = w.1[b]?:=fun k hSq=>U _ k.lt (k.ne h.kb hSq)
 have X:∀ {b},(∃ es c,w.1[b]? = some (Obj.map es c))->w2.1[b]? = w.1[b]?:=fun k=>U _ (by obtain⟨es,c,k⟩:=k;exact qZF k) (vU k h.kb)
 have R:∀ b,b < w.1.size->b < L->w2.1[b]? = w.1[b]?:=fun b hb hL=>U b hb (by have:=h.lo;omega)
 have s:∀ {b o u},w2.1[b]? = w.1[b]?->w.cell? ⟨b,o,none⟩=some u->w2.cell? ⟨b,o,none⟩=some u:=fun hb hc=>(cB hb).trans hc
 have sV:∀ j,j < fs.length->∀ g,(fs.getD j noF).vv.ownBlock=some g->w2.1[g]? = w.1[g]?:=fun j G g hg=>C (zE (qZN h.vrow G) hg) (by decide)
 have sG:∀ g,gv.ownBlock=some g->w2.1[g]? = w.1[g]?:=fun g hg=>C (zE h.grow hg) (by decide)
 have r1:=R 1 (qJ h.b0) (by have:=h.lo;omega);have Z:=R 2 (qJ h.d0) (by have:=h.lo;omega);obtain⟨b,I,O,Y,J⟩:=h.wt;have A:=Y.low J h.lo.2.1 R;have V:=qZN h.vrow hi;have y:Mo≠Mg/\Mo≠Mf/\Mo≠Mr:=⟨by have:=h.gm.lt;omega,by have:=h.fm.lt;omega,by have:=h.rm.lt;omega⟩;obtain⟨f0,f1,f2,f3,f4,f5⟩:=qZv h.frow hi;rw[<-yY hi]at f4;refine⟨⟨hi,⟨(z 0 (by omega) (by omega)).trans h.c0,(z 3 (by omega) (by omega)).trans h.c3,(z 6 (by omega) (by omega)).trans h.c6,c7,c8,s (C kF (by decide)) f4,zU h.grow sG,zU V (sV ci hi),h.gm.kept (X h.gm.isMap),om,
  h.rm.kept (X h.rm.isMap),s (C h.kc (by decide)) h.cc,s (C h.ke (by decide)) h.ce,⟨b,I,O,A⟩,s r1 h.b0,s r1 h.b1,s Z h.d0,s Z h.d1,h.gl,h.vl _ (by rw[yY hi];exact List.getElem_mem _)⟩,
  (z 1 (by omega) (by omega)).trans h.c1,(z 4 (by omega) (by omega)).trans h.c4,zU h.frow (fun g hg=>by injection hg with hg;subst hg;exact C kF (by decide)),fun f hf=>?_,h.fm.kept (X h.fm.isMap),h.par,h.fl,h.vl⟩,
  kB,h.kc.turn (C h.kc (by decide)),h.ke.turn (C h.ke (by decide)),y.1,y.2.1,y.2.2,⟨by have:=h.frow.lt F rfl;have:=h.lo;omega,h.lo.1,h.lo.2.1,h.lo.2.2⟩,fun g hg=>?_,b,I,O,A,J⟩
 ·obtain⟨j,G,rfl⟩:=qZQ hf;exact zU (qZN h.vrow G) (sV j G)
 ·obtain⟨a1,a2,a3⟩:=h.lv ci hi g hg;exact⟨a1,a2,fun j G hne=>a3 j G hne⟩
def setF(fs:List FnM)(ci:Nat)(own:List qI)(vv bv:Value):List FnM:=fs.set ci { fs.getD ci noF with vars:=own,vv:=vv,bv:=bv }
theorem qWu(h:ci < fs.length)(own:List qI)(vv bv:Value):(setF fs ci own vv bv).getD ci noF={ fs.getD ci noF with vars:=own,vv:=vv,bv:=bv }:=by
 simp[setF,List.getD_eq_getElem?_getD,h]
theorem qZd{j:Nat}(h:j≠ci)(own:List qI)(vv bv:Value):(setF fs ci own vv bv).getD j noF=fs.getD j noF:=by
 simp[setF,List.getD_eq_getElem?_getD,List.getElem?_set,Ne.symm h]
theorem qYk(h:ci < fs.length)(own:List qI)(vv bv:Value):(setF fs ci own vv bv).map (·.h)=fs.map (·.h):=by
 apply List.ext_getElem?;intro i;by_cases hi:i=ci
 ·subst hi;simp[setF,List.getD_eq_getElem?_getD,h]
 ·simp[setF,List.getElem?_set,Ne.symm hi]
theorem qQo(fs:List FnM)(ci:Nat)(own:List qI)(vv bv:Value):(setF fs ci own vv bv).length=fs.length:=by simp[setF]
theorem setF_turn(fs:List FnM)(ci:Nat)(h:ci < fs.length)(own:List qI)(vv bv:Value):setF (xU fs ci own vv) ci own vv bv=setF fs ci own vv bv:=by
 have e:=qZC h own vv;unfold setF;rw[e];unfold xU;rw[List.set_set]
theorem WIn.leave(h:WIn B L gs fs ci FC Mf gv Mg Mo Mr F cl w)(bf:∀ k,k < 9->w.frozen? ⟨B,k,none⟩=false)(c2:∃ u,w.cell? ⟨B,2,none⟩=some u)
 (lv:∀ j,j < fs.length->∀ g,(fs.getD j noF).vv.ownBlock=some g->L<=g/\some g≠gv.ownBlock/\∀ i,i < fs.length->i≠j->some g≠(fs.getD i noF).vv.ownBlock) (bv:Value) :
 BIn B L gs (setF fs ci (fs.getD ci noF).vars (fs.getD ci noF).vv bv) FC Mf gv Mg Mr F cl (w.setCell ⟨F,ci * 6+5,none⟩ bv):=by
 have hi:=h.rd.hi;have e:=h.rd.en;have kF:jX w F 40:=zE h.rd.frow rfl;have st:∀ k,k≠F->(w.setCell ⟨F,ci * 6+5,none⟩ bv).1[k]? = w.1[k]?:=fun k hk=>hS w ⟨F,ci * 6+5,none⟩ bv k hk
 generalize d6:w.setCell ⟨F,ci * 6+5,none⟩ bv=w2 at *;have J:∀ {b S},jX w b S->S≠40->w2.1[b]? = w.1[b]?:=fun k hSq=>st _ (k.ne kF hSq)
 have sM:∀ {b},(∃ es c,w.1[b]? = some (Obj.map es c))->w2.1[b]? = w.1[b]?:=fun k=>st _ (vU k kF)
 have Z:∀ b,b < w.1.size->b < L->w2.1[b]? = w.1[b]?:=fun b hb hL=>st b (by have:=h.lo;omega)
 have s:∀ {b o u},w2.1[b]? = w.1[b]?->w.cell? ⟨b,o,none⟩=some u->w2.cell? ⟨b,o,none⟩=some u:=fun hb hc=>(cB hb).trans hc
 have sV:∀ j,j < fs.length->∀ g,(fs.getD j noF).vv.ownBlock=some g->w2.1[g]? = w.1[g]?:=fun j A g hg=>J (zE (qZN h.rd.vrow A) hg) (by decide)
 have sG:∀ g,gv.ownBlock=some g->w2.1[g]? = w.1[g]?:=fun g hg=>J (zE e.grow hg) (by decide)
 have C:=J h.kb (by decide);have r1:=Z 1 (qJ e.b0) (by have:=h.lo;omega);have r2:=Z 2 (qJ e.d0) (by have:=h.lo;omega);obtain⟨b,Y,d3,d5,R⟩:=h.wt;have z:=qWu hi (fs.getD ci noF).vars (fs.getD ci noF).vv bv;have G:w2.ownsRow 0 40 6 (.slice (some ⟨F,0,none⟩) fs.length FC) fs.length (xD fnC (setF fs ci (fs.getD ci noF).vars (fs.getD ci noF).vv bv)):=by
  have X:xD fnC (setF fs ci (fs.getD ci noF).vars (fs.getD ci noF).vv bv)=(xD fnC fs).set (ci * 6+5) bv:=by
   unfold setF;refine qVC qZu fs ci 5 _ bv hi (by omega) ?_;rw[yY hi];rfl
  refine⟨by rw[qVB qZu,qQo], .inr ?_⟩;rcases h.rd.frow.2 with⟨hx,_⟩ | ⟨g,cp,d2,hs,hb,hg,h1,h2,h3,h4⟩
  ·cases hx
  ·injection hs with hs1 hs2 hs3;injection hs1 with hs1;injection hs1 with hs1 _ _;subst hs1 hs3;refine⟨F,FC,d2.setIfInBounds (ci * 6+5) bv,rfl,hb,?_,h1,h2,by simpa using h3,by rw[X,<-h4];simp[List.take_set]⟩;rw[<-d6];exact Lib.heap_setCell_same hg _
 have d4:∀ j,j < fs.length->qQI w2 0 ((setF fs ci (fs.getD ci noF).vars (fs.getD ci noF).vv bv).getD j noF).vars ((setF fs ci (fs.getD ci noF).vars (fs.getD ci noF).vv bv).getD j noF).vv:=fun j A=>by
  have hr:=zU (qZN h.rd.vrow A) (sV j A);by_cases y:j=ci
  ·subst y;rw[z];exact hr
  ·rw[qZd y];exact hr
 have U:∀ j,((setF fs ci (fs.getD ci noF).vars (fs.getD ci noF).vv bv).getD j noF).vv=(fs.getD j noF).vv:=fun j=>by
  by_cases y:j=ci
  ·subst y;rw[z]
  ·rw[qZd y]
 have V:∀ f∈setF fs ci (fs.getD ci noF).vars (fs.getD ci noF).vv bv,∃ O∈fs,f.vars=O.vars/\f.h=O.h:=fun f hf=>by
  obtain⟨j,A,rfl⟩:=qZQ hf;rw[qQo]at A;refine⟨fs.getD j noF,by rw[yY A];exact List.getElem_mem _,?_⟩;by_cases y:j=ci
  ·subst y;rw[z];exact⟨rfl,rfl⟩
  ·rw[qZd y];exact⟨rfl,rfl⟩
 refine⟨s C e.c0,by rw[qQo];exact s C h.rd.c1,s C e.c3,s C h.rd.c4,s C e.c6,by obtain⟨u,hu⟩:=c2;exact⟨u,s C hu⟩,⟨_,s C e.c7⟩,⟨_,s C e.c8⟩,fun k hk=>(World.frozen?_of_block C).trans (bf k hk),by rw[qQo];exact G,fun f hf=>?_,zU e.grow sG,e.gm.kept (sM e.gm.isMap),?_,e.rm.kept (sM e.rm.isMap),
  s (J h.kc (by decide)) e.cc,s (J h.ke (by decide)) e.ce,s r1 e.b0,s r1 e.b1,s r2 e.d0,s r2 e.d1,e.gl,by rw[qQo];exact h.rd.fl,fun f hf=>?_,fun f hf=>?_,h.kb.turn C,h.kc.turn (J h.kc (by decide)),h.ke.turn (J h.ke (by decide)),⟨h.lo.2.1,h.lo.2.2.1,h.lo.2.2.2⟩,fun j A g hg=>?_,b,Y,d3,d5.low R h.lo.2.2.1 Z,R⟩
 ·obtain⟨j,A,rfl⟩:=qZQ hf;rw[qQo]at A;exact d4 j A
 ·rw[qYk hi];exact h.rd.fm.kept (sM h.rd.fm.isMap)
 ·obtain⟨O,I,e1,_⟩:=V f hf;rw[e1];exact h.rd.vl O I
 ·obtain⟨O,I,e1,e2⟩:=V f hf;rw[e1,e2];exact h.rd.par O I
 ·rw[qQo]at A;rw[U]at hg;obtain⟨a1,a2,a3⟩:=lv j A g hg;refine⟨a1,a2,fun i hi' hne=>?_⟩;rw[qQo]at hi';rw[U];exact a3 i hi' hne
theorem lv_turn{own:List qI}{vv':Value}(lv:∀ j,j < fs.length->∀ g,(fs.getD j noF).vv.ownBlock=some g->L<=g/\some g≠gv.ownBlock/\∀ i,i < fs.length->i≠j->some g≠(fs.getD i noF).vv.ownBlock)
 (hi:ci < fs.length) (G:∀ f∈fs,qQI w 0 f.vars f.vv) (C:qQI w 0 gs gv) (hL:L<=w.1.size) (o:vW vv' (fs.getD ci noF).vv w) :
 ∀ j,j < (xU fs ci own vv').length->∀ g,((xU fs ci own vv').getD j noF).vv.ownBlock=some g->L<=g/\some g≠gv.ownBlock/\∀ i,i < (xU fs ci own vv').length->i≠j->some g≠((xU fs ci own vv').getD i noF).vv.ownBlock:=by
 intro j A g hg;rw[kW]at *;have s:∀ i,i < fs.length->∀ g,(fs.getD i noF).vv.ownBlock=some g->g < w.1.size:=fun i hi g hg=>((qZN G hi).lt g hg).2
 by_cases z:j=ci
 ·subst z;rw[qZC hi]at hg;change vv'.ownBlock=some g at hg;rcases o with o | ⟨g',J,o⟩
  ·rw[o]at hg;obtain⟨O,I,a3⟩:=lv j A g hg;exact⟨O,I,fun i hi' hne=>by rw[wV hne];exact a3 i hi' hne⟩
  ·rw[o]at hg;injection hg with hg;subst hg;refine⟨by omega,fun e=>by have:=(C.lt g' e.symm).2;omega,fun i hi' hne e=>?_⟩;rw[wV hne]at e;have:=s i hi' g' e.symm;omega
 ·rw[wV z]at hg;obtain⟨O,I,a3⟩:=lv j A g hg;refine⟨O,I,fun i hi' hne e=>?_⟩;by_cases y:i=ci
  ·subst y;rw[qZC hi]at e;change some g=vv'.ownBlock at e;rcases o with o | ⟨g',J,o⟩
   ·exact a3 i hi' hne (e.trans o)
   ·rw[o]at e;injection e with e;have:=s j A g hg;omega
  ·rw[wV y]at e;exact a3 i hi' hne e
end
structure qJo(B F:Nat)(vv:Value)(w w':World):Prop where
 os:w'.os=w.os
 tape:w'.tape=w.tape
 output:w'.output=w.output
 size:w.1.size<=w'.1.size
 block:∀ k,k < w.1.size->k≠B->k≠F->some k≠vv.ownBlock->w'.1[k]? = w.1[k]?
def qKR(B L:Nat)(gs:List qI)(fs:List FnM)(FC Mf:Nat)(gv:Value)(Mg Mr F:Nat)(cl:vE)(ci:Nat)(p:CR (List Sx×List qI))(w:World)(e:Ending)(w':World):Prop :=
 match p with
 | .ok (ss,own')=>∃ vv' bv,e=.returned (.tuple #[])/\BIn B L gs (setF fs ci own' vv' bv) FC Mf gv Mg Mr F cl w'/\qJo B F (fs.getD ci noF).vv w w'/\vW vv' (fs.getD ci noF).vv w/\jE w' (fun g=>w.1.size<=g/\some g≠vv'.ownBlock) ss bv
 | .bad ln co code=>e=.panicked [{ v:=xO ln co code,recovered:=false }]/\qJo B F (fs.getD ci noF).vv w w'
def qYB(l:List qI):Prop:=∀ k (h:k < l.length),qZc l[k].name 0 ((l.take k).map (·.name))=none/\l[k].name.length<=1000000
theorem qKR.okI{B L:Nat}{gs:List qI}{fs:List FnM}{FC Mf:Nat}{gv:Value}{Mg Mr F:Nat}{cl:vE}{ci:Nat}{p:CR (List Sx×List qI)}{w w':World}{ss:List Sx}{j:List qI}{vv' bv:Value}(hp:p=.ok (ss,j))(o:BIn B L gs (setF fs ci j vv' bv) FC Mf gv Mg Mr F cl w')(h2:qJo B F (fs.getD ci noF).vv w w')(h3:vW vv' (fs.getD ci noF).vv w)(h4:jE w' (fun g=>w.1.size<=g/\some g≠vv'.ownBlock) ss bv):qKR B L gs fs FC Mf gv Mg Mr F cl ci p w (.returned (.tuple #[])) w':=by
 rw[hp];exact⟨vv',bv,rfl,o,h2,h3,h4⟩
theorem qKR.badI{B L:Nat}{gs:List qI}{fs:List FnM}{FC Mf:Nat}{gv:Value}{Mg Mr F:Nat}{cl:vE}{ci:Nat}{p:CR (List Sx×List qI)}{w w':World}{ln co code:Int}(hp:p=.bad ln co code)(h2:qJo B F (fs.getD ci noF).vv w w'):qKR B L gs fs FC Mf gv Mg Mr F cl ci p w (.panicked [{ v:=xO ln co code,recovered:=false }]) w':=by
 rw[hp];exact⟨rfl,h2⟩
theorem qYI{fs:List FnM}{ci:Nat}(h:ci < fs.length):fs.getD ci noF∈fs:=by rw[yY h];exact List.getElem_mem _
def BoRel(vs:List qI)(Mo:Nat)(W:World)(i:Value)(wr:World):Prop :=
 ∃ k:Nat,k<=vs.length/\i=.int .i64 k/\wY wr Mo ((vs.take k).map (·.name))/\W.grownBy wr (some Mo)
theorem take_name{j:List qI}{k:Nat}(h:k < j.length):(j.take (k+1)).map (·.name)=(j.take k).map (·.name)++[j[k].name]:=by
 rw[List.take_succ_eq_append_getElem h,List.map_append];rfl
theorem body_any(B L:Nat)(gs:List qI)(fs:List FnM)(FC Mf:Nat)(gv:Value)(Mg Mr F:Nat)(cl:vE)(ci:Nat)(t:qQ)(v:Value)(w:World)(h:BIn B L gs fs FC Mf gv Mg Mr F cl w)(hi:ci < fs.length)(hL:L<=w.1.size)(hl:xZ w (· < L) t v)(hn:qUz t)(hd:qYB (fs.getD ci noF).vars) :
 Calls prog 87 #[.pointer (some ⟨B,0,none⟩), .pointer (some ⟨F,ci * 6,none⟩),qZ t v] w (qKR B L gs fs FC Mf gv Mg Mr F cl ci (blC gs (fs.map (·.h)) (fs.getD ci noF).h.t t (fs.getD ci noF).vars) w):=by
 obtain⟨q,c,rfl,t4,s7,hK⟩:=hl.kids;have H0:=hI h;have HI:=hI hi;obtain⟨u7,c7⟩:=h.c7;obtain⟨u8,c8⟩:=h.c8;have b7:=h.bf 7 (by omega);have b8:=h.bf 8 (by omega);have hB:B < w.1.size:=qJ h.c0;obtain⟨f0,f1,f2,f3,f4,f5⟩:=qZv h.frow hi;rw[<-yY hi]at f4;have hF:F < w.1.size:=qJ f4;have p5:¬F=B:=fun e=>(zE h.frow rfl:jX w F 40).ne h.kb (by decide) e
 have p9:¬B=F:=fun e=>p5 e.symm
 have V:=qZN h.vrow hi;obtain⟨vq,vc,f9⟩:=qZL V;rw[f9]at f4 V;have s9:=hI f9;obtain⟨Y,d2⟩:∃ Y,(fs.getD ci noF).vars=Y:=⟨_,rfl⟩;rw[d2]at f4 V hd;have r7:=hI d2;have p3:=h.vl _ (qYI hi);rw[d2]at p3;have g2:=hI V;have HD:=hI hd;have r2:=hI hl;have p0:=hI hn;have t2:¬B=w.1.size:=by omega
 have s8:¬w.1.size=B:=by omega
 have n8:¬B=w.1.size+1:=by omega
 have t6:¬w.1.size+1=B:=by omega
 have g0:=hI h.kb;have n7:=hI h.bf;have p8:=hI h.c2
 -- the world at the loop
 have p2:=hI (show ∀ b,b≠B->((w.setCell ⟨B,7,none⟩ (.pointer (some ⟨F,ci * 6,none⟩))).setCell ⟨B,8,none⟩ (.map (some (w.1.size+1)))).1[b]? = w.1[b]? from fun b hb=>(hS _ ⟨B,8,none⟩ _ b hb).trans (hS _ ⟨B,7,none⟩ _ b hb));have C:((w.setCell ⟨B,7,none⟩ (.pointer (some ⟨F,ci * 6,none⟩))).setCell ⟨B,8,none⟩ (.map (some (w.1.size+1)))).1.size=w.1.size:=by simp
 have r9:=hI (show((w.setCell ⟨B,7,none⟩ (.pointer (some ⟨F,ci * 6,none⟩))).setCell ⟨B,8,none⟩ (.map (some (w.1.size+1)))).cell? ⟨B,7,none⟩=some (.pointer (some ⟨F,ci * 6,none⟩)) by simp[go_sem,c7,c8]);have m3:=hI (show((w.setCell ⟨B,7,none⟩ (.pointer (some ⟨F,ci * 6,none⟩))).setCell ⟨B,8,none⟩ (.map (some (w.1.size+1)))).cell? ⟨B,8,none⟩=some (.map (some (w.1.size+1))) by simp[go_sem,c7,c8]);have g5:=hI (show ∀ o,o≠7->o≠8->((w.setCell ⟨B,7,none⟩ (.pointer (some ⟨F,ci * 6,none⟩))).setCell ⟨B,8,none⟩ (.map (some (w.1.size+1)))).cell? ⟨B,o,none⟩=w.cell? ⟨B,o,none⟩from fun o h7 h8=>by simp[go_sem,Ne.symm h7,Ne.symm h8,h7,h8]);have r4:=hI (show ∀ o,o < 9->((w.setCell ⟨B,7,none⟩ (.pointer (some ⟨F,ci * 6,none⟩))).setCell ⟨B,8,none⟩ (.map (some (w.1.size+1)))).frozen? ⟨B,o,none⟩=false from fun o ho=>by have:=n7.o o ho;simp[go_sem,this]);have m4:=hI (show jX ((w.setCell ⟨B,7,none⟩ (.pointer (some ⟨F,ci * 6,none⟩))).setCell ⟨B,8,none⟩ (.map (some (w.1.size+1)))) B 121 from(g0.o.set _ _ _).set _ _ _);obtain⟨k,x,m,ln,co,ks⟩:=t;have m1:=hI (bal (bal (Below.refl ((w.setCell ⟨B,7,none⟩ (.pointer (some ⟨F,ci * 6,none⟩))).setCell ⟨B,8,none⟩ (.map (some (w.1.size+1)))).1.size ((w.setCell ⟨B,7,none⟩ (.pointer (some ⟨F,ci * 6,none⟩))).setCell ⟨B,8,none⟩ (.map (some (w.1.size+1))))) (qB (.mk k x m ln co ks) (.slice q ks.length c))) (.map #[] 0));have d5:=wY.made (((w.setCell ⟨B,7,none⟩ (.pointer (some ⟨F,ci * 6,none⟩))).setCell ⟨B,8,none⟩ (.map (some (w.1.size+1)))).alloc (qB (.mk k x m ln co ks) (.slice q ks.length c)));rw[show(((w.setCell ⟨B,7,none⟩ (.pointer (some ⟨F,ci * 6,none⟩))).setCell ⟨B,8,none⟩ (.map (some (w.1.size+1)))).alloc (qB (.mk k x m ln co ks) (.slice q ks.length c))).1.size=w.1.size+1 by simp]at d5;have p1:=hI d5;have r0:=hI (show Bx w.1.size (.mk k x m ln co ks) (.slice q ks.length c) ((((w.setCell ⟨B,7,none⟩ (.pointer (some ⟨F,ci * 6,none⟩))).setCell ⟨B,8,none⟩ (.map (some (w.1.size+1)))).alloc (qB (.mk k x m ln co ks) (.slice q ks.length c))).alloc (.map #[] 0))from by
  have hh:=(Bx.new (.mk k x m ln co ks) (.slice q ks.length c) ((w.setCell ⟨B,7,none⟩ (.pointer (some ⟨F,ci * 6,none⟩))).setCell ⟨B,8,none⟩ (.map (some (w.1.size+1))))).below (bal (Below.refl _ _) (.map #[] 0));rw[C]at hh;exact hh)
 clear h hl hK f9 f0 f1 f2 f3 f5 hn d5 hi d2 V hd;simp only[qZ,qB,qS,qQ.kind,qQ.text,qQ.num,qQ.line,qQ.col,qQ.kids]at *;have s1:=@run_makeMap prog;go_enter func87,ntmps87
 go_wp2
 clear s1;have m5:=hI (show((((w.setCell ⟨B,7,none⟩ (.pointer (some ⟨F,ci * 6,none⟩))).setCell ⟨B,8,none⟩ (.map (some (w.1.size+1)))).alloc (.cells #[.string ⟨k.toArray⟩, .string ⟨x.toArray⟩, .int .u64 m, .int .i64 ln, .int .i64 co, .slice q ks.length c] 57)).alloc (.map #[] 0)).1.size=w.1.size+2 by simp);have m6:=hI (show ∀ b,b < w.1.size->b≠B->((((w.setCell ⟨B,7,none⟩ (.pointer (some ⟨F,ci * 6,none⟩))).setCell ⟨B,8,none⟩ (.map (some (w.1.size+1)))).alloc (.cells #[.string ⟨k.toArray⟩, .string ⟨x.toArray⟩, .int .u64 m, .int .i64 ln, .int .i64 co, .slice q ks.length c] 57)).alloc (.map #[] 0)).1[b]? = w.1[b]? from fun b hb hne=>(m1.o.block b (by rw[C];exact hb)).trans (p2.o b hne));have g7:=hI (show((((w.setCell ⟨B,7,none⟩ (.pointer (some ⟨F,ci * 6,none⟩))).setCell ⟨B,8,none⟩ (.map (some (w.1.size+1)))).alloc (.cells #[.string ⟨k.toArray⟩, .string ⟨x.toArray⟩, .int .u64 m, .int .i64 ln, .int .i64 co, .slice q ks.length c] 57)).alloc (.map #[] 0)).1[B]? = ((w.setCell ⟨B,7,none⟩ (.pointer (some ⟨F,ci * 6,none⟩))).setCell ⟨B,8,none⟩ (.map (some (w.1.size+1)))).1[B]? from m1.o.block B (by rw[C];exact hB));have d7:=hI (show((((w.setCell ⟨B,7,none⟩ (.pointer (some ⟨F,ci * 6,none⟩))).setCell ⟨B,8,none⟩ (.map (some (w.1.size+1)))).alloc (.cells #[.string ⟨k.toArray⟩, .string ⟨x.toArray⟩, .int .u64 m, .int .i64 ln, .int .i64 co, .slice q ks.length c] 57)).alloc (.map #[] 0)).os=w.os/\((((w.setCell ⟨B,7,none⟩ (.pointer (some ⟨F,ci * 6,none⟩))).setCell ⟨B,8,none⟩ (.map (some (w.1.size+1)))).alloc (.cells #[.string ⟨k.toArray⟩, .string ⟨x.toArray⟩, .int .u64 m, .int .i64 ln, .int .i64 co, .slice q ks.length c] 57)).alloc (.map #[] 0)).tape=w.tape/\((((w.setCell ⟨B,7,none⟩ (.pointer (some ⟨F,ci * 6,none⟩))).setCell ⟨B,8,none⟩ (.map (some (w.1.size+1)))).alloc (.cells #[.string ⟨k.toArray⟩, .string ⟨x.toArray⟩, .int .u64 m, .int .i64 ln, .int .i64 co, .slice q ks.length c] 57)).alloc (.map #[] 0)).output=w.output from⟨rfl,rfl,rfl⟩);generalize ((((w.setCell ⟨B,7,none⟩ (.pointer (some ⟨F,ci * 6,none⟩))).setCell ⟨B,8,none⟩ (.map (some (w.1.size+1)))).alloc (.cells #[.string ⟨k.toArray⟩, .string ⟨x.toArray⟩, .int .u64 m, .int .i64 ln, .int .i64 co, .slice q ks.length c] 57)).alloc (.map #[] 0))=W at *;generalize ((w.setCell ⟨B,7,none⟩ (.pointer (some ⟨F,ci * 6,none⟩))).setCell ⟨B,8,none⟩ (.map (some (w.1.size+1))))=W1 at *;have c8:=(cB g7.o).trans m3.o;have t0:=m5.o;clear f4 c7 b7 b8 C;have s5:=m5;go_loopw [21] (fun i wr=>BoRel Y (w.1.size+1) W i wr) (fun i _=>Y.length - (intOf i).toNat)
 case atStart=>exact⟨0,Nat.zero_le _,rfl,p1.o,jS _ _⟩
 case round =>
  obtain⟨j,hj,rfl,hm,hg⟩:=hrel;have HM:=hI hm;have HG:=hI hg;have t1:=hg.size;have f8:wr.1[B]? = W.1[B]?:=hg.block B (by omega) (fun e=>by injection e with e;omega);have c8:=(cB f8).trans c8;have r5:=hI f8;clear hm hg f8;by_cases I:j < Y.length
  ·obtain⟨g,c',f6,e0,e1,e2,e3⟩:=qKe (zU g2.o (w':=wr) (fun g hg'=>by
    have hk:=zE g2.o hg';have I:=hk.lt;exact(HG.o.block g (by omega) (fun e=>by injection e with e;omega)).trans (m6.o g I (hk.ne g0.o (by decide))))) I
   injection f6 with f6 _ hvc;subst f6 hvc;have m0:=hI (HD.o j I);have s3:=hI (take_name I);have t7:(j:Int) < (Y.length:Nat):=by omega
   generalize n9:Y[j]=D at *;clear n9;have n6:=hI (qQB.new D wr);have hz:=bal (Below.refl wr.1.size wr) (.cells (qQe D).toArray 42);have g3:=hI (HM.o.below hz);have g1:=kP hz c8;have HZ:=hI hz;have g6:(wr.alloc (.cells (qQe D).toArray 42)).1.size=wr.1.size+1:=by simp
   unfold qQe at n6 g3 HZ g1 g6;clear hz;go_wp2
   clear c8 e0 e1 e2 e3;generalize (wr.alloc _)=Z at *;have c8:=g1;clear g1;have z0:=n6.o.c0;obtain⟨w6,d3,m7,G⟩:=(g3.o.below (Below.refl _ _).drew).store D.name (by have:=m0.o.2;unfold maxLen;omega) m0.o.1 (by rw[List.length_map,List.length_take];omega);have g8:(((Y.take j).map (·.name)).length:Int)=(j:Nat):=by rw[List.length_map,List.length_take,Nat.min_eq_left hj]
   rw[g8]at d3;refine wRg (S:=fun w'=>Below Z.1.size Z w') 7 ?_;refine wTk 0 26 (.pointer (some ⟨B,0,none⟩)) ?_ (bD Z) ?_
   ·intro _ y;go_simp
   refine wTk 1 27 (.pointer (some ⟨B,0,none⟩)) ?_ (bD Z) ?_
   ·intro _ y;go_simp
   refine wTk 2 28 (.pointer (some ⟨B,8,none⟩)) ?_ (bD Z) ?_
   ·intro _ y;go_simp
   refine wTk 3 29 (.map (some (w.1.size+1))) ?_ (bD Z) ?_
   ·intro _ y;have c8:=kP y c8;have z0:=kP y z0;go_simp
   refine wTk 4 30 (.pointer (some ⟨wr.1.size,0,none⟩)) ?_ (bD Z) ?_
   ·intro _ y;go_simp
   refine wTk 5 31 (.string ⟨D.name.toArray⟩) ?_ (bD Z) ?_
   ·intro _ y;have c8:=kP y c8;have z0:=kP y z0;go_simp
   refine wTk 6 32 (.int .i64 j) ?_ (bD Z) ?_
   ·intro _ y;go_simp
   refine wOn 7 fun K hK=>?_
   go_simp;refine kD hK ?_;clear hK K;refine wDn ?_ _;have p4:=hI m7;have r8:=hI (qR HG.o (qR (zV HZ.o _) (show Z.grownBy w6 (some (w.1.size+1))from⟨G.os,G.tape,G.output,G.size,G.block⟩)));clear d3 m7 G c8 z0;go_wp2
   go_roundw
   case rel=>exact⟨j+1,I,by go_num,by rw[s3.o];exact p4.o,r8.o⟩
   case measure=>simp[intOf];omega
  ·have s0:j=Y.length:=by omega
   subst s0;rw[List.take_of_length_le (Nat.le_refl _)]at HM;have O:=hI (show ∀ b,b < w.1.size->b≠B->wr.1[b]? = w.1[b]? from fun b hb hne=>(HG.o.block b (by omega) (fun e=>by injection e with e;omega)).trans (m6.o b hb hne));have s:=hI (r5.o.trans g7.o);have d9:WIn B L gs fs ci FC Mf gv Mg (w.1.size+1) Mr F cl wr:=by
    refine H0.o.enter HI.o (by omega) ((cB s.o).trans r9.o) ((cB s.o).trans m3.o) (fun o h7 h8=>(cB s.o).trans (g5.o o h7 h8)) (m4.o.turn s.o) (by rw[r7.o];exact HM.o) O.o
   have t3:=hI d9;have m9:=hI (show Bx w.1.size (.mk k x m ln co ks) (.slice q ks.length c) wr from(HG.o.block _ (by omega) (fun e=>by injection e with e;omega)).trans r0.o);obtain⟨n0,n1,n2,n3,n4,n5⟩:=m9.o.cells;have g9:=hI (show xZ wr (· < L) (.mk k x m ln co ks) (.slice q ks.length c)from xZ.move (fun g hg hok=>⟨hok,O.o g (by omega) (by have:=H0.o.lo;have:g < L:=hok;omega)⟩) _ _ r2.o);have d8:=hI (p0.o ⟨B,L,gs,ci,FC,Mf,gv,Mg,w.1.size+1,Mr,F,cl⟩ fs (.slice q ks.length c) wr d9 (by show L<=_;omega) g9.o);simp only[qZ,qS,qQ.kind,qQ.text,qQ.num,qQ.line,qQ.col,qQ.kids]at d8;clear d9 c8;go_wp2_with fail
   refine(d8.o).mono ?_;rintro e J hX;have r6:∀ g,(fs.getD ci noF).vv.ownBlock=some g->jX w g 42/\g < w.1.size:=fun g hg=>⟨zE (qZN H0.o.vrow HI.o) hg,((qZN H0.o.vrow HI.o).lt g hg).2⟩
   have r1:some B≠(fs.getD ci noF).vv.ownBlock:=fun e=>(g0.o.ne (r6 B e.symm).1 (by decide)) rfl
   have A:∀ J,yX F (w.1.size+1) (fs.getD ci noF).vv wr J->qJo B F (fs.getD ci noF).vv w J:=fun J hT=>⟨(hT.os.trans HG.o.os).trans d7.o.1,(hT.tape.trans HG.o.tape).trans d7.o.2.1,(hT.output.trans HG.o.output).trans d7.o.2.2,by have:=hT.size;omega,fun b hb hB hF hv=>(hT.block b (by omega) hF (by omega) hv).trans (O.o b hb hB)⟩
   rcases hX.cases with⟨ss,U,u,vv',hp,rfl,g4,z,m2,f7⟩ | ⟨l',c',code,hp,rfl,z⟩;rotate_left
   ·exact⟨rfl,qKR.badI hp (A _ z)⟩
   obtain⟨uq,uc,rfl⟩:=f7.shape;have X:WIn B L gs (xU fs ci U vv') ci FC Mf gv Mg (w.1.size+1) Mr F cl J:=g4;have d6:J.1[B]? = wr.1[B]?:=z.block B (by omega) p9 n8 r1;have R:=kW fs ci U vv';have d4:=X.rd.frow;have p6:∃ bo,J.cell? ⟨F,ci * 6+5,none⟩=some bo:=by
    obtain⟨f0,f1,f2,f3,f4,f5⟩:=qZv d4 (i:=ci) (by rw[R];exact HI.o);exact⟨_,f5⟩
   obtain⟨bo,f5⟩:=p6;have t5:J.frozen? ⟨F,ci * 6+5,none⟩=false:=qYb d4 rfl _;have hR:=vW.low (show vW vv' (fs.getD ci noF).vv wr from m2) (show w.1.size<=wr.1.size by omega);have s2:=hI (show BIn B L gs (setF fs ci U vv' (.slice uq ss.length uc)) FC Mf gv Mg Mr F cl (J.setCell ⟨F,ci * 6+5,none⟩ (.slice uq ss.length uc))from by
    have:=X.leave (fun k hk=>(World.frozen?_of_block (d6.trans s.o)).trans (r4.o k hk)) (by
     obtain⟨u2,r3⟩:=p8.o;exact⟨u2,((cB (d6.trans s.o)).trans (g5.o 2 (by omega) (by omega))).trans r3⟩) (lv_turn H0.o.lv HI.o H0.o.vrow H0.o.grow hL hR) (.slice uq ss.length uc)
    rw[qZC HI.o,setF_turn fs ci HI.o]at this;exact this)
   have HT:=hI (A _ z);have HR:=hI hR;have p7:=hI f7;have HP:=hI hp;have s6:F < J.1.size:=by have:=z.size;omega
   have s4:=z.size;clear hX hp g4 X z m2 hR f7 A d6 d4 R n0 n1 n2 n3 n4 n5 d8;go_wp2
   go_end0;refine qKR.okI HP.o s2.o ⟨HT.o.os,HT.o.tape,HT.o.output,by simpa using HT.o.size,fun b hb h1 h2 h3=>(hS J ⟨F,ci * 6+5,none⟩ (.slice uq ss.length uc) b h2).trans (HT.o.block b hb h1 h2 h3)⟩ HR.o ?_;exact jE.move p7.o (fun g hg hok=>⟨⟨by omega,hok.2⟩,hS J ⟨F,ci * 6+5,none⟩ (.slice uq ss.length uc) g (by show g≠F;omega)⟩)
end Go.Proofs.YtiajhekdhhhghaaGreatDoor
