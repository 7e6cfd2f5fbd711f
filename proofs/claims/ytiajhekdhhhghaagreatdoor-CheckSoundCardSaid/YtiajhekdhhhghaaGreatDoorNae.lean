/- Walks. -/
import Derived.Recover
import Derived.Defers
import Derived.Test.YtiajhekdhhhghaaGreatDoorNad
set_option linter.all false
set_option maxHeartbeats 8000000
set_option maxRecDepth 100000
namespace Go.Proofs.YtiajhekdhhhghaaGreatDoor
open Tryz
open Go Go.RowKit
theorem qVU{o:Oper}{a:Act}{K:Act->World->Prop}{Q:Exit->Act->World->Prop}{w:World}{ok:Nat->Prop}{acc ts:List qQ}{us:List Value}{v:Value}{ad:Addr}{c:Nat}(s x:Operand)
 (ho:o.op=.call { callee:=.builtin .append,args:=#[s,x],argTypes:=#[55,55] }) (hB:xH w ok acc v)
 (hs:a.eval s=v) (hx:a.eval x=.slice (some ad) ts.length c) (hm:0 < ts.length) (z:∀ (j:Nat) (u:Value),(qZK ts us)[j]? = some u->w.cell? (ad.add j)=some u)
 (hn:acc.length+ts.length<=1000000) (y:ok w.1.size) (hL:vV w (fun g=>ok g/\some g≠v.ownBlock) ts us)
 (h:∀ G w',xH w' ok (acc++ts) G->w.grownBy w' v.ownBlock->K (a.put o.dst G) w') :
 o.wp prog a w K Q:=by
 obtain⟨I,h1,h0,h2⟩:=hB;obtain⟨i0,hi,O,Z,hz2⟩:=info_parts info57;have J:=vV.length acc I h2;have C:=vV.length ts us hL;have A:=qYa ts us (vV.one ts us hL);have R:=qW9 ts us C;obtain⟨G,w',hr,d2,X,_⟩:=run_append_own (P:=prog) w 0 55 o.type 57 i0 _ 6 80 underlying55 hi O Z hz2 rfl (by decide) v acc.length _ h1 ad ts.length c (qZK ts us) R z A (by unfold maxLen;omega) (by omega) (Nat.zero_le _);have U:=qX7 (P:=prog) w 0 55 o.type 57 i0 _ 6 80 underlying55 hi O Z hz2 v acc.length _ h1 ad ts.length c (qZK ts us) R z A (by unfold maxLen;omega) (by omega) hm G w' hr;have V:∀ g,g < w.1.size->some g≠v.ownBlock->w'.1[g]? = w.1[g]?:=fun g hg hne=>X.block g hg hne
 have Y:∀ g,g < w.1.size->some g≠v.ownBlock->some g≠G.ownBlock:=fun g hg hne e=>by
  rcases U with h | h
  ·exact hne (e.trans h)
  ·rw[h]at e;injection e with e;omega
 have hK:=h G w' ⟨I++us,by rw[qJS acc ts I us J,lL];exact d2,fun g hg=>by
  rcases U with h | h
  ·exact h0 g (h ▸ hg)
  ·rw[h]at hg;injection hg with hg;subst hg;exact y,
  vV.append acc ts I us (vV.move (fun g hg y=>⟨⟨y.1,Y g hg y.2⟩,V g hg y.2⟩) acc I h2) (vV.move (fun g hg y=>⟨⟨y.1,Y g hg y.2⟩,V g hg y.2⟩) ts us hL)⟩ X
 unfold Oper.wp execOp;simp only[ho,resolve,invoke,builtin,Sem.run_bind,Sem.run_pure,Result.andThen_ok,List.map_toArray,List.map_cons,List.map_nil,hs,hx,hr];exact hK
theorem qX6{o:Oper}{a:Act}{K:Act->World->Prop}{Q:Exit->Act->World->Prop}{w:World}{ok:Nat->Prop}{j S dd:Nat}{acc:List qQ}{t:qQ}{v u:Value}(s x:Operand)
 (ho:o.op=.call { callee:=.builtin .append,args:=#[s,x],argTypes:=#[55,55] }) (hd:o.dst=some dd) (hB:xH w ok acc v) (G:zC w j t.kids u) (y:∀ g,j<=g->ok g) (hv:∀ g,v.ownBlock=some g->g < j) (A:j<=w.1.size)
 (hs:a.eval s=v) (hS:w.1.size=S) (C:a.eval x=.slice (some ⟨S,0,none⟩) 1 1) (I:acc.length < 1000000)
 (h:∀ v' w',xH w' ok (acc++[t]) v'->(w.alloc (.cells (qS t u).toArray 57)).grownBy w' v.ownBlock->K (a.put (some dd) v') w') :
 o.wp prog a (w.alloc (.cells (qS t u).toArray 57)) K Q:=by
 subst hS;refine qVU s x ho (hB.below ((Below.refl _ _).alloc (Nat.le_refl _) _)) (ts:=[t]) (us:=[u]) hs C (by simp) ?_ (by simp;omega) (y _ (by simp;omega)) ⟨xZ.move (fun g hg hok'=>?_) t u (G.alloc (.cells (qS t u).toArray 57)).lies,trivial⟩ (fun v' w' h1 h2=>by rw[hd];exact h v' w' h1 h2)
 ·simpa[qZK]using qUk w t u 57
 ·have z:some g≠v.ownBlock:=fun e=>by have:=hv g e.symm;omega
  exact⟨⟨y g hok',z⟩,rfl⟩
structure NdX(N lo:Nat)(k x:List UInt8)(n ln c:Int)(v:Value)(ts:List qQ)(w:World):Prop where
 nd:zI N k x n ln c v w
 bd:xH w (fun g=>lo<=g/\g≠N) ts v
theorem NdX.lt{N lo:Nat}{k x:List UInt8}{n ln c:Int}{v:Value}{ts:List qQ}{w:World}(h:NdX N lo k x n ln c v ts w):N < w.1.size:=h.nd.lt
theorem NdX.call{N lo B:Nat}{k x:List UInt8}{n ln c:Int}{v:Value}{ts:List qQ}{w w':World}(h:NdX N lo k x n ln c v ts w)(hg:w.grownBy w' (some B))(hB:B < N/\B < lo):NdX N lo k x n ln c v ts w' :=
 ⟨h.nd.grown hg (by simp;omega),h.bd.grown hg (fun j e=>by cases e;exact .inl (fun h=>by omega))⟩
theorem NdX.below{N lo:Nat}{k x:List UInt8}{n ln c:Int}{v:Value}{ts:List qQ}{w w':World}(h:NdX N lo k x n ln c v ts w)(hb:Below w.1.size w w'):NdX N lo k x n ln c v ts w':=⟨h.nd.below hb,h.bd.below hb⟩
theorem NdX.drew{N lo:Nat}{k x:List UInt8}{n ln c:Int}{v:Value}{ts:List qQ}{w:World}(h:NdX N lo k x n ln c v ts w):NdX N lo k x n ln c v ts w.drew:=h.below (Below.refl _ _).drew
theorem NdX.own{N lo:Nat}{k x:List UInt8}{n ln c:Int}{v:Value}{ts:List qQ}{w:World}(h:NdX N lo k x n ln c v ts w):∀ g,v.ownBlock=some g->lo<=g/\g≠N/\g < w.1.size:=fun g hg=>by
 obtain⟨o,j,h2,_⟩:=h.bd;exact⟨(h2 g hg).1,(h2 g hg).2,(j.lt g hg).2⟩
theorem NdX.put(t:qQ){lo:Nat}{v:Value}{w:World}(h:zC w lo t.kids v):NdX w.1.size lo t.kind t.text t.num t.line t.col v t.kids (w.alloc (wD t.kind t.text t.num t.line t.col v)) :=
 ⟨zI.new _ _ _ _ _ _ w,(xH.of h).move fun g hg hok=>⟨⟨hok,by omega⟩,heap_alloc_old w _ hg⟩⟩
theorem NdX.setK{N lo:Nat}{k x:List UInt8}{n ln c:Int}{v:Value}{ts:List qQ}{w:World}(h:NdX N lo k x n ln c v ts w)(o:List UInt8):NdX N lo o x n ln c v ts (w.setCell ⟨N,0,none⟩ (.string ⟨o.toArray⟩)):=by
 have⟨z,y,h2,h3,h4,A,_⟩:=h.nd.a;have hf:=h.nd.f;refine⟨?_,h.bd.grown (jM _ _ _ _) (fun j e=>by cases e;exact .inl (fun h=>h.2 rfl))⟩;constructor
 case f=>intro k s;have:=hf k s;simp[go_sem, *]
 all_goals simp[go_sem, *]
theorem qKV{w0 A z:World}{B N lo:Nat}{l:List Tok}{d:Int}{k x:List UInt8}{n ln c:Int}{v s:Value}{acc ts:List qQ}{o:Obj}(S:St w0 B l d A)(G:NdX N lo k x n ln c v acc A)(I:w0.1.size < N)(J:w0.1.size < lo)
 (C:xH z (fun g=>lo<=g/\g≠N) ts s) (hg7:(A.alloc o).grownBy z v.ownBlock):St w0 B l d (z.setCell ⟨N,5,none⟩ s)/\NdX N lo k x n ln c s ts (z.setCell ⟨N,5,none⟩ s):=by
 have y:=G.own;refine⟨((S.alloc o).local hg7 (fun j e=>by have:=(y j e).1;omega)).setN I _ _,?_,C.grown (jM _ _ _ _) (fun j e=>by cases e;exact .inl (fun h=>h.2 rfl))⟩;exact((G.nd.grown (World.grownBy_alloc A o none) (by simp)).grown hg7 (fun e=>by have:=(y N e.symm).2.1;exact this rfl)).set5 s
theorem qXW{α β:Type}{p:PR α}{f:α->List Tok->PR β}{b:β}{l:List Tok}(h:p.bind f=.ok b l):∃ a l',p=.ok a l'/\f a l'=.ok b l:=by
 cases p with
 | ok a l'=>exact⟨a,l',rfl,h⟩
 | bad ln c code=>simp[PR.bind]at h
 | out=>simp[PR.bind]at h
theorem qUP{rec:NT->Int->List Tok->PR qQ}{word:List UInt8}{d:Int}{l l':List Tok}{t:qQ}(h:jK rec word d l=.ok t l'):t.kids.length < 1000000:=by
 unfold jK at h;obtain⟨_,_,_,h⟩:=qXW h;obtain⟨_,_,_,h⟩:=qXW h;obtain⟨_,_,_,h⟩:=qXW h;obtain⟨_,_,_,h⟩:=qXW h;injection h with h1 h2;subst h1;simp[qQ.kids]
theorem qPp(rec:NT->Int->List Tok->PR qQ)(d:Int)(he:yR 107)(d9:vM 157 (fun p=>#[p, .string ⟨#[105,102]⟩]) d (jK rec kIf d))(G:vM 107 (fun p=>#[p]) (d+1) (rec .block (d+1))):vM 141 (fun p=>#[p]) d (vF rec d):=by
 intro B l w h g7;obtain⟨t,r,rfl⟩:=h.ends.ne;have Z:=St.start h;have p2:=Z.hB;have f3:=hI g7;have Z:=hI Z;have p1:=zT;have p3:=vS;have p5:=yW;have n7:=hI d9;have n0:=hI (wT 107 d (rec .block) he G);clear he d9 G;clear h g7;unfold jY at *;go_enter func141,ntmps141
 have s:jK rec kIf d (t :: r)≠.out:=fun e=>f3.o (by simp only[bF,if_false,if_true,reduceIte,bN,bM,bO,bU,bP,bV,bW,bB,bA,bT,lN,lC,lA,vF,PR.bind,qX,e])
 have HC:=hI (n7.o B (t :: r) _ Z.o.ps s);have z:=hI s;clear s;go_wp2_with fail
 refine(HC.o).mono ?_;intro e w1 V;rcases V.cases z.o with⟨j,l1,q1,n1,c1,he1,rfl,g9,hP1,hg1⟩ | ⟨ln,c,code,he1,rfl,hg1⟩;rotate_left
 ·refine⟨rfl,?_⟩;have A:(vF rec d) (t :: r)=.bad ln c code:=by simp only[bF,if_false,if_true,reduceIte,bN,bM,bO,bU,bP,bV,bW,bB,bA,bT,lN,lC,lA,vF,PR.bind,qX,he1]
  rw[A];exact Z.o.pan ⟨rfl,hg1⟩
 have hwN:w.1.size < w1.1.size:=(Z.o.call hP1 hg1).lt;have N1:=hI (NdX.put j (g9.mono (lo':=w.1.size+1) Z.o.lt));have S1:=hI ((Z.o.call hP1 hg1).alloc (wD j.kind j.text j.num j.line j.col (.slice q1 n1 c1)));have O:=hI he1;clear V g9 hP1 hg1 he1 HC z Z;unfold qZ wD at *;have m3:j.kids.length < 1000000:=by
  have:=O.o;exact qUP this
 obtain⟨t2,d7,f8⟩:=S1.o.ps.ends.ne;subst f8;cases C:(t2.text == zS);case false =>
  have H:=hI (wN B t2 d7 d zS _ S1.o.ps);rw[C]at H;go_wp2_with fail
  refine(H.o).mono ?_;rintro e w2 ⟨rfl,J⟩;have S2:=hI (S1.o.below J);have N2:=hI (N1.o.below J);clear S1 N1;clear H J;have S9:=S2.o;have N9:=N2.o;have d3:=S9.lt;have hs2:=N9.lt;try simp only[World.size_setCell,World.size_alloc]at d3 hs2
  have hr:=S9.res;have⟨r0,m7,r2,r3,r4,r5,_⟩:=hr.a;have⟨g0,g1,g2,g3,g4,g5,_⟩:=hr.b;clear hr;have V:=N9.nd;have⟨n3,m6,n8,n5,m2,n6,_⟩:=V.a;clear V;have d8:=hI S9;have d5:=hI N9;clear S9 N9 S2 N2;skip
  go_wp2
  refine bodyPost_ret (v:=qZ j (.slice q1 n1 c1)) (by simp[results,results141,go_sem,qZ,qQ.kind,qQ.text,qQ.num,qQ.line,qQ.col,qQ.kids,qY,qG,qC,qO,zB,zD,zX,qE,kIf,zS,qA,qV,qF,qD,qP,qW,qN,zW,zM,qL,qM,qT,zK,zL,qH,zA, *]) rfl ?_;have I:(vF rec d) (t :: r)=.ok j (t2 :: d7):=by simp only[bF,if_false,if_true,reduceIte,bN,bM,bO,bU,bP,bV,bW,bB,bA,bT,lN,lC,lA,vF,C,PR.bind,qX,O.o]
  rw[I];exact d8.o.fin (t:=j) (d5.o.bd.build fun g hg=>hg.1) _ _ _ _ _ _
 case true =>
  have H:=hI (wN B t2 d7 d zS _ S1.o.ps);rw[C]at H;go_wp2_with fail
  refine(H.o).mono ?_;rintro e w2 ⟨rfl,J⟩;have S2:=hI (S1.o.below J);have N2:=hI (N1.o.below J);clear S1 N1;clear H J;have H:=hI (xV (S:=w2.1.size) [zS] S2.o.ps (by simp[*,qY,qG,qC,qO,zB,zD,zX,qE,kIf,zS,qA,qV,qF,qD,qP,qW,qN,zW,zM,qL,qM,qT,zK,zL,qH,zA]) (by simp) (by simp));simp only[List.map,List.length]at H;go_wp2_with fail
  refine(H.o).mono ?_;rintro e w3 (⟨l3,he3,rfl,hP3,hg3⟩ | ⟨ln,c,code,he3,rfl,hg3⟩);rotate_left
  ·refine⟨rfl,?_⟩;have A:(vF rec d) (t :: r)=.bad ln c code:=by simp only[bF,if_false,if_true,reduceIte,bN,bM,bO,bU,bP,bV,bW,bB,bA,bT,lN,lC,lA,vF,C,PR.bind,qX,O.o,he3]
   rw[A];exact S2.o.pan ⟨rfl,hg3⟩
  have S3:=hI (S2.o.call hP3 hg3);have N3:=hI (N2.o.call hg3 (by omega));clear S2 N2;have d4:=hI he3;clear H he3 hP3 hg3;have s:xX d (rec .block) l3≠.out:=fun e=>f3.o (by simp only[bF,if_false,if_true,reduceIte,bN,bM,bO,bU,bP,bV,bW,bB,bA,bT,lN,lC,lA,vF,C,PR.bind,qX,O.o,d4.o,e])
  have z:=hI s;clear s;have Y:=hI S3.o.drew;have X:=hI N3.o.drew;clear S3 N3;go_wp2_with fail
  have U:=X.o.nd.c5;refine wRg (S:=fun w'=>w'.cell? ⟨w1.1.size,5,none⟩=some (.slice q1 n1 c1)) 7 ?_;refine wTk 0 11 (.pointer (some ⟨w1.1.size,5,none⟩)) ?_ U ?_
  ·intro _ y;go_simp
  refine wTk 1 12 (.slice q1 n1 c1) ?_ U ?_
  ·intro _ y;go_simp
  refine wTk 2 13 (.pointer (some ⟨B,0,none⟩)) ?_ U ?_
  ·intro _ y;go_simp
  refine wTk 3 14 (.pointer (some ⟨B,0,none⟩)) ?_ U ?_
  ·intro _ y;go_simp
  refine wTk 4 15 (.func (.func 107) #[.pointer (some ⟨B,0,none⟩)] #[]) ?_ U ?_
  ·intro _ y;go_simp
  refine wOn 5 fun K hK=>?_
  go_simp;have HC:=n0.o B l3 _ Y.o.ps z.o;refine HC.mono ?_;intro e f4 V;rcases V.cases z.o with⟨t4,l4,q4,n4,c4,he4,rfl,f7,f6,R⟩ | ⟨ln,c,code,he4,rfl,R⟩;rotate_left
  ·refine⟨rfl,?_⟩;have A:(vF rec d) (t :: r)=.bad ln c code:=by simp only[bF,if_false,if_true,reduceIte,bN,bM,bO,bU,bP,bV,bW,bB,bA,bT,lN,lC,lA,vF,C,PR.bind,qX,O.o,d4.o,he4]
   rw[A];exact Y.o.pan ⟨rfl,R⟩
  have S6:=hI (Y.o.call f6 R);have N6:=hI (X.o.call R (by omega));have f9:=hI f7;have G:=X.o.own;have g8:=N6.o.nd.c5;have m4:=N6.o.nd.f 5 nL;have p4:=N6.o.lt;have f5:=X.o.lt;have d2:=R.size;clear f6 R f7 HC V Y X;unfold qZ;refine kK hK g8 ?_;clear hK K;refine wOn 6 fun K hK=>?_
  go_simp;refine kK hK (by go_simp) ?_;clear hK K;refine wOn 7 fun K hK=>?_
  refine qX6 (dd:=18) (t:=t4) (u:=.slice q4 n4 c4) _ _ rfl rfl N6.o.bd f9.o (fun g hg=>⟨by omega,by omega⟩) (fun g hg=>(G g hg).2.2) d2 rfl rfl rfl (by simpa using m3) (fun v7 w4 hb7 hg7=>?_);refine kD hK ?_;clear hK K;obtain⟨n9,p0,m5,rfl⟩:=hb7.shape;have g6:=qKV S6.o N6.o hwN (Nat.lt_succ_self _) hb7 hg7;have m1:w4.frozen? ⟨w1.1.size,5,none⟩=false:=((N6.o.nd.grown (World.grownBy_alloc f4 _ none) (by simp)).grown hg7 (fun e=>(G _ e.symm).2.1 rfl)).f 5 nL;have m9:=((N6.o.nd.grown (World.grownBy_alloc f4 _ none) (by simp)).grown hg7 (fun e=>(G _ e.symm).2.1 rfl)).c5;have d6:=hI g6;clear g6 hb7 hg7 S6 N6 f9 G U g8 m4 f5 d2;try simp only[Act.put,pZa,pZb,pZc]
  refine wOn 8 fun K hK=>?_
  go_simp;refine kD hK ?_;clear hK K;refine wOn 9 fun K hK=>?_
  go_simp;refine kD hK ?_;clear hK K;refine wDn ?_ _;clear m1 m9;have S4:=hI d6.o.1;have N4:=hI d6.o.2;have n2:=hI he4;clear d6 he4 z;have m0:=N4.o.lt;simp only[World.size_setCell]at m0;have S9:=S4.o;have N9:=N4.o;have d3:=S9.lt;have hs2:=N9.lt;try simp only[World.size_setCell,World.size_alloc]at d3 hs2
  have hr:=S9.res;have⟨r0,m7,r2,r3,r4,r5,_⟩:=hr.a;have⟨g0,g1,g2,g3,g4,g5,_⟩:=hr.b;clear hr;have V:=N9.nd;have⟨n3,m6,n8,n5,m2,n6,_⟩:=V.a;clear V;have d8:=hI S9;have d5:=hI N9;clear S9 N9 S4 N4;skip
  go_wp2
  refine bodyPost_ret (v:=qZ (.mk j.kind j.text j.num j.line j.col (j.kids++[t4])) (.slice n9 p0 m5)) (by simp[results,results141,go_sem,qZ,qQ.kind,qQ.text,qQ.num,qQ.line,qQ.col,qQ.kids,qY,qG,qC,qO,zB,zD,zX,qE,kIf,zS,qA,qV,qF,qD,qP,qW,qN,zW,zM,qL,qM,qT,zK,zL,qH,zA, *]) rfl ?_;have I:(vF rec d) (t :: r)=.ok (.mk j.kind j.text j.num j.line j.col (j.kids++[t4])) l4:=by simp only[bF,if_false,if_true,reduceIte,bN,bM,bO,bU,bP,bV,bW,bB,bA,bT,lN,lC,lA,vF,C,PR.bind,qX,O.o,d4.o,n2.o]
  rw[I];exact d8.o.fin (t:=(.mk j.kind j.text j.num j.line j.col (j.kids++[t4]))) (d5.o.bd.build fun g hg=>hg.1) _ _ _ _ _ _
theorem qVV{o:Oper}{a:Act}{K:Act->World->Prop}{Q:Exit->Act->World->Prop}{w:World}{ok:Nat->Prop}{z dd:Nat}{acc ts:List qQ}{v u:Value}(s x:Operand)
 (ho:o.op=.call { callee:=.builtin .append,args:=#[s,x],argTypes:=#[55,55] }) (hd:o.dst=some dd) (hB:xH w ok acc v) (hK:zC w z ts u) (hz:ts=[]->u=.slice none 0 0) (C:∀ g,z<=g->ok g) (hv:∀ g,v.ownBlock=some g->g < z) (I:z<=w.1.size)
 (hs:a.eval s=v) (O:a.eval x=u) (hn:acc.length+ts.length<=1000000)
 (h:∀ v' w',xH w' ok (acc++ts) v'->w.grownBy w' v.ownBlock->K (a.put (some dd) v') w') :
 o.wp prog a w K Q:=by
 by_cases R:ts=[]
 ·obtain rfl:=R;obtain rfl:=hz rfl;obtain⟨i0,hi,V,d2,hz2⟩:=info_parts info57;obtain⟨U,A,h2⟩:=hB;have hr:=run_append_owned_none (P:=prog) (w:=w) 0 55 o.type 57 i0 6 underlying55 hi v acc.length _ A;have hk:=h v w (by rw[lA];exact⟨U,A,h2⟩) (jS _ _);unfold Oper.wp execOp;simp only[ho,resolve,invoke,builtin,Sem.run_bind,Sem.run_pure,Result.andThen_ok,List.map_toArray,List.map_cons,List.map_nil,hs,O,hr];show K (a.put o.dst v) w
  rw[hd];exact hk
 ·obtain⟨us,A,h2⟩:=hK;have G:0 < ts.length:=List.length_pos_iff.2 R;rcases A.2 with⟨_,h0⟩ | ⟨g,Z,X,rfl,Y,hg,rest⟩
  ·omega
  ·refine qVU s x ho hB (ts:=ts) (us:=us) hs O G (fun j y hy=>A.cells (g:=g) rfl j y hy) (by omega) (C _ I) (vV.move (fun g' hg' hok'=>?_) ts us h2) (fun v' w' h3 h4=>by rw[hd];exact h v' w' h3 h4);have J:some g'≠v.ownBlock:=fun e=>by have:=hv g' e.symm;omega
   exact⟨⟨C g' hok'.1,J⟩,rfl⟩
theorem qYT{w0 A y:World}{B N lo:Nat}{l:List Tok}{d:Int}{k x:List UInt8}{n ln c:Int}{v o:Value}{acc ts:List qQ}(S:St w0 B l d A)(C:NdX N lo k x n ln c v acc A)(G:w0.1.size < N)(I:w0.1.size < lo)
 (z:xH y (fun g=>lo<=g/\g≠N) ts o) (hg7:A.grownBy y v.ownBlock):St w0 B l d (y.setCell ⟨N,5,none⟩ o)/\NdX N lo k x n ln c o ts (y.setCell ⟨N,5,none⟩ o):=by
 have s:=C.own;refine⟨(S.local hg7 (fun j e=>by have:=(s j e).1;omega)).setN G _ _,?_,z.grown (jM _ _ _ _) (fun j e=>by cases e;exact .inl (fun h=>h.2 rfl))⟩;exact(C.nd.grown hg7 (fun e=>by have:=(s N e.symm).2.1;exact this rfl)).set5 o
theorem put_kind(w:World)(k j x:ByteArray)(n ln c:Int)(v:Value):(w.alloc (.cells #[.string k, .string x, .int .u64 n, .int .i64 ln, .int .i64 c,v] 57)).setCell ⟨w.1.size,0,none⟩ (.string j)=w.alloc (.cells #[.string j, .string x, .int .u64 n, .int .i64 ln, .int .i64 c,v] 57):=by simp[go_sem]
def yM(n:Nat)(d:Int)(l:List Tok):PR qQ :=
 (zG qG ((hdT l).text == zA) l).bind fun t l' =>
  if (hdT l).text == zA || (hdT l').text == [40]then(xT n (zG qO false) l').bind fun ps l'=>(xX d (qQd n .block) l').bind fun b l' =>
   .ok (.mk qC t.text t.num t.line t.col (t.kids++ps++[b])) l'
  else if (hdT l').text == [91]then(jL [[91]] l').bind fun _ l'=>(wQ l').bind fun m l'=>(jL [[93]] l').bind fun _ l'=>(jL [[59]] l').bind fun _ l'=>.ok (.mk t.kind t.text t.num t.line t.col (t.kids++[m])) l'
  else(jL [[59]] l').bind fun _ l'=>.ok t l'
theorem qKm{kind:List UInt8}{j:Bool}{l l':List Tok}{t:qQ}(h:zG kind j l=.ok t l'):t.kids.length=1:=by
 unfold zG at h;obtain⟨_,_,_,h⟩:=qXW h;obtain⟨_,_,_,h⟩:=qXW h;injection h with h1 h2;subst h1;rfl
theorem item_does(n:Nat)(d:Int)(hn:n<=900000)(he:yR 107)(s5:yR 105)(p3:∀ (m0:Bool) (B:Nat) (l:List Tok) (w:World),vP B l d w->(m0=true->(hdT l).text≠[])->zG qG m0 l≠.out->Calls prog 103 #[.pointer (some ⟨B,0,none⟩), .string ⟨#[103,108,111,98,97,108]⟩, .bool m0] w (qXV B d w (zG qG m0 l)))(s4:vM 105 (fun p=>#[p]) d (zG qO false))(G:vM 107 (fun p=>#[p]) (d+1) (qQd n .block (d+1))):vM 91 (fun p=>#[p]) d (yM n d):=by
 intro B l w h t7;obtain⟨t,r,rfl⟩:=h.ends.ne;have S0:=St.start h;have D7:=S0.hB;have g6:=hI t7;have S0:=hI S0;have D5:=zT;have D8:=vS;have D9:=yW;have m2:=hI p3;have s7:=hI (qVY 105 n d (zG qO false) hn s5 s4);have t1:=hI (wT 107 d (qQd n .block) he G);have D0:=hI (qV7 d);clear he s5 s4 G p3;clear h t7;unfold jY at *;go_enter func91,ntmps91
 cases I:(t.text == zA);case false =>
  have H:=hI (wN B t r d zA _ S0.o.ps);rw[I]at H;go_wp2_with fail
  refine(H.o).mono ?_;rintro e w1 ⟨rfl,n7⟩;have S1:=hI (S0.o.below n7);clear S0;clear H n7;have m5:false=true->(hdT (t :: r)).text≠[]:=fun h=>by cases h
  have p9:=hI (fun(B:Nat) (l:List Tok) (w:World) (h:vP B l d w) (hc:false=true->(hdT l).text≠[]) (ho:zG qG false l≠.out)=>m2.o false B l w h hc ho);have s:zG qG false (t :: r)≠.out:=fun e=>g6.o (by simp only[bF,if_false,if_true,reduceIte,bN,bM,bO,bU,bP,bV,bW,bB,bA,bT,lN,lC,lA,yM,I,PR.bind,qX,e])
  have HC:=hI (m2.o false B (t :: r) _ S1.o.ps m5 s);have j:=hI s;clear s;go_wp2_with fail
  refine(HC.o).mono ?_;intro e w2 X;rcases X.cases j.o with⟨z,l2,q2,n2,c2,he2,rfl,n3,hP2,hg2⟩ | ⟨ln,c,code,he2,rfl,hg2⟩;rotate_left
  ·refine⟨rfl,?_⟩;have A:(yM n d) (t :: r)=.bad ln c code:=by simp only[bF,if_false,if_true,reduceIte,bN,bM,bO,bU,bP,bV,bW,bB,bA,bT,lN,lC,lA,yM,I,PR.bind,qX,he2]
   rw[A];exact S1.o.pan ⟨rfl,hg2⟩
  have hwN:w.1.size < w2.1.size:=(S1.o.call hP2 hg2).lt;have N2:=hI (NdX.put z (n3.mono (lo':=w.1.size+1) S1.o.lt));have S2:=hI ((S1.o.call hP2 hg2).alloc (wD z.kind z.text z.num z.line z.col (.slice q2 n2 c2)));have R:=hI he2;clear X n3 hP2 hg2 he2 HC j S1;unfold qZ wD at *;have m3:z.kids.length=1:=qKm R.o;clear m5 p9 m2;obtain⟨t3,m1,s9⟩:=S2.o.ps.ends.ne;subst s9;cases Z:(t3.text == [40]);case false =>
   have H:=hI (wN B t3 m1 d [40] _ S2.o.ps);rw[Z]at H;go_wp2_with fail
   refine(H.o).mono ?_;rintro e w3 ⟨rfl,hb3⟩;have S3:=hI (S2.o.below hb3);have N3:=hI (N2.o.below hb3);clear S2 N2;clear H hb3;cases d9:(t3.text == [91]);case false =>
    have H:=hI (wN B t3 m1 d [91] _ S3.o.ps);rw[d9]at H;go_wp2_with fail
    refine(H.o).mono ?_;rintro e w4 ⟨rfl,hb4⟩;have S4:=hI (S3.o.below hb4);have N4:=hI (N3.o.below hb4);clear S3 N3;clear H hb4;have H:=hI (xV (S:=w4.1.size) [[59]] S4.o.ps (by simp) (by simp) (by simp));simp only[List.map,List.length]at H;go_wp2_with fail
    refine(H.o).mono ?_;rintro e w5 (⟨l5,he5,rfl,hP5,hg5⟩ | ⟨ln,c,code,he5,rfl,hg5⟩);rotate_left
    ·refine⟨rfl,?_⟩;have A:(yM n d) (t :: r)=.bad ln c code:=by simp only[bF,if_false,if_true,reduceIte,bN,bM,bO,bU,bP,bV,bW,bB,bA,bT,lN,lC,lA,yM,I,Z,d9,PR.bind,qX,R.o,he5]
     rw[A];exact S4.o.pan ⟨rfl,hg5⟩
    have S5:=hI (S4.o.call hP5 hg5);have N5:=hI (N4.o.call hg5 (by omega));clear S4 N4;have d6:=hI he5;clear H he5 hP5 hg5;have S9:=S5.o;have N9:=N5.o;have g7:=S9.lt;have hs2:=N9.lt;try simp only[World.size_setCell,World.size_alloc]at g7 hs2
    have hr:=S9.res;have⟨r0,p8,r2,r3,r4,r5,_⟩:=hr.a;have⟨g0,g1,g2,g3,g4,g5,_⟩:=hr.b;clear hr;have X:=N9.nd;have⟨n0,p7,s0,r8,p4,r9,_⟩:=X.a;clear X;have g9:=hI S9;have g8:=hI N9;clear S9 N9 S5 N5;skip
    go_wp2
    refine bodyPost_ret (v:=qZ z (.slice q2 n2 c2)) (by simp[results,results91,go_sem,qZ,qQ.kind,qQ.text,qQ.num,qQ.line,qQ.col,qQ.kids,qY,qG,qC,qO,zB,zD,zX,qE,kIf,zS,qA,qV,qF,qD,qP,qW,qN,zW,zM,qL,qM,qT,zK,zL,qH,zA, *]) rfl ?_;have Y:(yM n d) (t :: r)=.ok z l5:=by simp only[bF,if_false,if_true,reduceIte,bN,bM,bO,bU,bP,bV,bW,bB,bA,bT,lN,lC,lA,yM,I,Z,d9,PR.bind,qX,R.o,d6.o]
    rw[Y];exact g9.o.fin (t:=z) (g8.o.bd.build fun g hg=>hg.1) _ _ _ _ _ _
   case true =>
    have H:=hI (wN B t3 m1 d [91] _ S3.o.ps);rw[d9]at H;go_wp2_with fail
    refine(H.o).mono ?_;rintro e w4 ⟨rfl,hb4⟩;have S4:=hI (S3.o.below hb4);have N4:=hI (N3.o.below hb4);clear S3 N3;clear H hb4;have H:=hI (xV (S:=w4.1.size) [[91]] S4.o.ps (by simp) (by simp) (by simp));simp only[List.map,List.length]at H;go_wp2_with fail
    refine(H.o).mono ?_;rintro e w5 (⟨l5,he5,rfl,hP5,hg5⟩ | ⟨ln,c,code,he5,rfl,hg5⟩);rotate_left
    ·refine⟨rfl,?_⟩;have A:(yM n d) (t :: r)=.bad ln c code:=by simp only[bF,if_false,if_true,reduceIte,bN,bM,bO,bU,bP,bV,bW,bB,bA,bT,lN,lC,lA,yM,I,Z,d9,PR.bind,qX,R.o,he5]
     rw[A];exact S4.o.pan ⟨rfl,hg5⟩
    have S5:=hI (S4.o.call hP5 hg5);have N5:=hI (N4.o.call hg5 (by omega));clear S4 N4;have d6:=hI he5;clear H he5 hP5 hg5;have s:wQ l5≠.out:=fun e=>g6.o (by simp only[bF,if_false,if_true,reduceIte,bN,bM,bO,bU,bP,bV,bW,bB,bA,bT,lN,lC,lA,yM,I,Z,d9,PR.bind,qX,R.o,d6.o,e])
    have j:=hI s;clear s;have f4:=hI S5.o.drew;have d7:=hI N5.o.drew;clear S5 N5;go_wp2_with fail
    have C:=d7.o.nd.c5;refine wRg (S:=fun w'=>w'.cell? ⟨w2.1.size,5,none⟩=some (.slice q2 n2 c2)) 5 ?_;refine wTk 0 39 (.pointer (some ⟨w2.1.size,5,none⟩)) ?_ C ?_
    ·intro _ y;go_simp
    refine wTk 1 40 (.slice q2 n2 c2) ?_ C ?_
    ·intro _ y;go_simp
    refine wTk 2 41 (.pointer (some ⟨B,0,none⟩)) ?_ C ?_
    ·intro _ y;go_simp
    refine wOn 3 fun K hK=>?_
    go_simp;have HC:=D0.o B l5 _ f4.o.ps j.o;refine HC.mono ?_;intro e m4 X;rcases X.cases j.o with⟨t6,l6,q6,n6,c6,he6,rfl,f8,f7,U⟩ | ⟨ln,c,code,he6,rfl,U⟩;rotate_left
    ·refine⟨rfl,?_⟩;have A:(yM n d) (t :: r)=.bad ln c code:=by simp only[bF,if_false,if_true,reduceIte,bN,bM,bO,bU,bP,bV,bW,bB,bA,bT,lN,lC,lA,yM,I,Z,d9,PR.bind,qX,R.o,d6.o,he6]
     rw[A];exact f4.o.pan ⟨rfl,U⟩
    have S6:=hI (f4.o.call f7 U);have J:=hI (d7.o.call U (by omega));have d3:=hI f8;have G:=d7.o.own;have d5:=J.o.nd.c5;have m7:=J.o.nd.f 5 nL;have p2:=J.o.lt;have d2:=d7.o.lt;have O:=U.size;clear f7 U f8 HC X f4 d7;unfold qZ;refine kK hK d5 ?_;clear hK K;refine wOn 4 fun K hK=>?_
    go_simp;refine kK hK (by go_simp) ?_;clear hK K;refine wOn 5 fun K hK=>?_
    refine qX6 (dd:=44) (t:=t6) (u:=.slice q6 n6 c6) _ _ rfl rfl J.o.bd d3.o (fun g hg=>⟨by omega,by omega⟩) (fun g hg=>(G g hg).2.2) O rfl rfl rfl (by rw[m3];omega) (fun v7 w6 hb7 hg7=>?_);refine kD hK ?_;clear hK K;obtain⟨p5,p6,r6,rfl⟩:=hb7.shape;have d4:=qKV S6.o J.o hwN (Nat.lt_succ_self _) hb7 hg7;have f3:w6.frozen? ⟨w2.1.size,5,none⟩=false:=((J.o.nd.grown (World.grownBy_alloc m4 _ none) (by simp)).grown hg7 (fun e=>(G _ e.symm).2.1 rfl)).f 5 nL;have f5:=((J.o.nd.grown (World.grownBy_alloc m4 _ none) (by simp)).grown hg7 (fun e=>(G _ e.symm).2.1 rfl)).c5;have V:=hI d4;clear d4 hb7 hg7 S6 J d3 G C d5 m7 d2 O;try simp only[Act.put,pZa,pZb,pZc]
    refine wOn 6 fun K hK=>?_
    go_simp;refine kD hK ?_;clear hK K;refine wOn 7 fun K hK=>?_
    go_simp;refine kD hK ?_;clear hK K;refine wDn ?_ _;clear f3 f5;have S6:=hI V.o.1;have J:=hI V.o.2;have m9:=hI he6;clear V he6 j;have f9:=J.o.lt;simp only[World.size_setCell]at f9;have H:=hI (xV (S:=w6.1.size) [[93]] S6.o.ps (by simp) (by simp) (by simp));simp only[List.map,List.length]at H;go_wp2_with fail
    refine(H.o).mono ?_;rintro e w7 (⟨l7,he7,rfl,hP7,hg7⟩ | ⟨ln,c,code,he7,rfl,hg7⟩);rotate_left
    ·refine⟨rfl,?_⟩;have A:(yM n d) (t :: r)=.bad ln c code:=by simp only[bF,if_false,if_true,reduceIte,bN,bM,bO,bU,bP,bV,bW,bB,bA,bT,lN,lC,lA,yM,I,Z,d9,PR.bind,qX,R.o,d6.o,m9.o,he7]
     rw[A];exact S6.o.pan ⟨rfl,hg7⟩
    have S7:=hI (S6.o.call hP7 hg7);have N7:=hI (J.o.call hg7 (by omega));clear S6 J;have s3:=hI he7;clear H he7 hP7 hg7;have H:=hI (xV (S:=w7.1.size) [[59]] S7.o.ps (by simp) (by simp) (by simp));simp only[List.map,List.length]at H;go_wp2_with fail
    refine(H.o).mono ?_;rintro e w8 (⟨l8,he8,rfl,hP8,hg8⟩ | ⟨ln,c,code,he8,rfl,hg8⟩);rotate_left
    ·refine⟨rfl,?_⟩;have A:(yM n d) (t :: r)=.bad ln c code:=by simp only[bF,if_false,if_true,reduceIte,bN,bM,bO,bU,bP,bV,bW,bB,bA,bT,lN,lC,lA,yM,I,Z,d9,PR.bind,qX,R.o,d6.o,m9.o,s3.o,he8]
     rw[A];exact S7.o.pan ⟨rfl,hg8⟩
    have S8:=hI (S7.o.call hP8 hg8);have N8:=hI (N7.o.call hg8 (by omega));clear S7 N7;have D1:=hI he8;clear H he8 hP8 hg8;have S9:=S8.o;have N9:=N8.o;have g7:=S9.lt;have hs2:=N9.lt;try simp only[World.size_setCell,World.size_alloc]at g7 hs2
    have hr:=S9.res;have⟨r0,p8,r2,r3,r4,r5,_⟩:=hr.a;have⟨g0,g1,g2,g3,g4,g5,_⟩:=hr.b;clear hr;have X:=N9.nd;have⟨n0,p7,s0,r8,p4,r9,_⟩:=X.a;clear X;have g9:=hI S9;have g8:=hI N9;clear S9 N9 S8 N8;skip
    go_wp2
    refine bodyPost_ret (v:=qZ (.mk z.kind z.text z.num z.line z.col (z.kids++[t6])) (.slice p5 p6 r6)) (by simp[results,results91,go_sem,qZ,qQ.kind,qQ.text,qQ.num,qQ.line,qQ.col,qQ.kids,qY,qG,qC,qO,zB,zD,zX,qE,kIf,zS,qA,qV,qF,qD,qP,qW,qN,zW,zM,qL,qM,qT,zK,zL,qH,zA, *]) rfl ?_;have Y:(yM n d) (t :: r)=.ok (.mk z.kind z.text z.num z.line z.col (z.kids++[t6])) l8:=by simp only[bF,if_false,if_true,reduceIte,bN,bM,bO,bU,bP,bV,bW,bB,bA,bT,lN,lC,lA,yM,I,Z,d9,PR.bind,qX,R.o,d6.o,m9.o,s3.o,D1.o]
    rw[Y];exact g9.o.fin (t:=(.mk z.kind z.text z.num z.line z.col (z.kids++[t6]))) (g8.o.bd.build fun g hg=>hg.1) _ _ _ _ _ _
  case true =>
   have H:=hI (wN B t3 m1 d [40] _ S2.o.ps);rw[Z]at H;go_wp2_with fail
   refine(H.o).mono ?_;rintro e w3 ⟨rfl,hb3⟩;have S3:=hI (S2.o.below hb3);have N3:=hI (N2.o.below hb3);clear S2 N2;clear H hb3;have D2:=N3.o.nd.c0;have t9:=N3.o.nd.f 0 nL;have S4:=hI (S3.o.setN hwN 0 (.string ⟨qC.toArray⟩));have N4:=hI (N3.o.setK qC);clear S3 N3;have s:xT n (zG qO false) (t3 :: m1)≠.out:=fun e=>g6.o (by simp only[bF,if_false,if_true,reduceIte,bN,bM,bO,bU,bP,bV,bW,bB,bA,bT,lN,lC,lA,yM,I,Z,PR.bind,qX,R.o,e])
   have j:=hI s;clear s;have f6:=hI S4.o.drew;have d8:=hI N4.o.drew;clear S4 N4;go_wp2_with fail
   have C:=d8.o.nd.c5;refine wRg (S:=fun w'=>w'.cell? ⟨w2.1.size,5,none⟩=some (.slice q2 n2 c2)) 6 ?_;refine wTk 0 16 (.pointer (some ⟨w2.1.size,5,none⟩)) ?_ C ?_
   ·intro _ y;go_simp
   refine wTk 1 17 (.slice q2 n2 c2) ?_ C ?_
   ·intro _ y;go_simp
   refine wTk 2 18 (.pointer (some ⟨B,0,none⟩)) ?_ C ?_
   ·intro _ y;go_simp
   refine wTk 3 19 (.pointer (some ⟨B,0,none⟩)) ?_ C ?_
   ·intro _ y;go_simp
   refine wTk 4 20 (.func (.func 105) #[.pointer (some ⟨B,0,none⟩)] #[]) ?_ C ?_
   ·intro _ y;go_simp
   refine wOn 5 fun K hK=>?_
   go_simp;refine(s7.o B (t3 :: m1) _ f6.o.ps j.o).mono ?_;intro e s1 X;rcases X.cases j.o with⟨s2,l5,q5,n5,c5,he5,rfl,hb5,hP5,hg5,D4,s6⟩ | ⟨ln,c,code,he5,rfl,hg5⟩;rotate_left
   ·refine⟨rfl,?_⟩;have A:(yM n d) (t :: r)=.bad ln c code:=by simp only[bF,if_false,if_true,reduceIte,bN,bM,bO,bU,bP,bV,bW,bB,bA,bT,lN,lC,lA,yM,I,Z,PR.bind,qX,R.o,he5]
    rw[A];exact f6.o.pan ⟨rfl,hg5⟩
   have S6:=hI (f6.o.call hP5 hg5);have J:=hI (d8.o.call hg5 (by omega));have d3:=hI hb5;have m6:=hI s6;have G:=d8.o.own;have d5:=J.o.nd.c5;have p2:=J.o.lt;have d2:=d8.o.lt;have O:=hg5.size;have d6:=hI he5;clear hP5 hg5 hb5 s6 he5 X f6 d8;refine kK hK d5 ?_;clear hK K;refine wOn 6 fun K hK=>?_
   refine qVV (dd:=22) _ _ rfl rfl J.o.bd d3.o m6.o (fun g hg=>⟨by omega,by omega⟩) (fun g hg=>(G g hg).2.2) O rfl rfl (by rw[m3];omega) (fun v7 w5 hb7 hg7=>?_);refine kD hK ?_;clear hK K;obtain⟨p1,n9,n8,rfl⟩:=hb7.shape;have d4:=qYT S6.o J.o hwN (Nat.lt_succ_self _) hb7 hg7;have f3:w5.frozen? ⟨w2.1.size,5,none⟩=false:=(J.o.nd.grown hg7 (fun e=>(G _ e.symm).2.1 rfl)).f 5 nL;have f5:=(J.o.nd.grown hg7 (fun e=>(G _ e.symm).2.1 rfl)).c5;have V:=hI d4;clear d4 hb7 hg7 S6 J d3 m6 G C d5 d2 O;try simp only[Act.put,pZa,pZb,pZc]
   refine wOn 7 fun K hK=>?_
   go_simp;refine kD hK ?_;clear hK K;refine wOn 8 fun K hK=>?_
   go_simp;refine kD hK ?_;clear hK K;refine wDn ?_ _;clear f3 f5;have S5:=hI V.o.1;have N5:=hI V.o.2;clear V j;have s:xX d (qQd n .block) l5≠.out:=fun e=>g6.o (by simp only[bF,if_false,if_true,reduceIte,bN,bM,bO,bU,bP,bV,bW,bB,bA,bT,lN,lC,lA,yM,I,Z,PR.bind,qX,R.o,d6.o,e])
   have j:=hI s;clear s;have f4:=hI S5.o.drew;have d7:=hI N5.o.drew;clear S5 N5;go_wp2_with fail
   have C:=d7.o.nd.c5;refine wRg (S:=fun w'=>w'.cell? ⟨w2.1.size,5,none⟩=some (.slice p1 n9 n8)) 7 ?_;refine wTk 0 24 (.pointer (some ⟨w2.1.size,5,none⟩)) ?_ C ?_
   ·intro _ y;go_simp
   refine wTk 1 25 (.slice p1 n9 n8) ?_ C ?_
   ·intro _ y;go_simp
   refine wTk 2 26 (.pointer (some ⟨B,0,none⟩)) ?_ C ?_
   ·intro _ y;go_simp
   refine wTk 3 27 (.pointer (some ⟨B,0,none⟩)) ?_ C ?_
   ·intro _ y;go_simp
   refine wTk 4 28 (.func (.func 107) #[.pointer (some ⟨B,0,none⟩)] #[]) ?_ C ?_
   ·intro _ y;go_simp
   refine wOn 5 fun K hK=>?_
   go_simp;have HC:=t1.o B l5 _ f4.o.ps j.o;refine HC.mono ?_;intro e m4 X;rcases X.cases j.o with⟨t6,l6,q6,n6,c6,he6,rfl,f8,f7,U⟩ | ⟨ln,c,code,he6,rfl,U⟩;rotate_left
   ·refine⟨rfl,?_⟩;have A:(yM n d) (t :: r)=.bad ln c code:=by simp only[bF,if_false,if_true,reduceIte,bN,bM,bO,bU,bP,bV,bW,bB,bA,bT,lN,lC,lA,yM,I,Z,PR.bind,qX,R.o,d6.o,he6]
    rw[A];exact f4.o.pan ⟨rfl,U⟩
   have S6:=hI (f4.o.call f7 U);have J:=hI (d7.o.call U (by omega));have d3:=hI f8;have G:=d7.o.own;have d5:=J.o.nd.c5;have m7:=J.o.nd.f 5 nL;have p2:=J.o.lt;have d2:=d7.o.lt;have O:=U.size;clear f7 U f8 HC X f4 d7;unfold qZ;refine kK hK d5 ?_;clear hK K;refine wOn 6 fun K hK=>?_
   go_simp;refine kK hK (by go_simp) ?_;clear hK K;refine wOn 7 fun K hK=>?_
   refine qX6 (dd:=31) (t:=t6) (u:=.slice q6 n6 c6) _ _ rfl rfl J.o.bd d3.o (fun g hg=>⟨by omega,by omega⟩) (fun g hg=>(G g hg).2.2) O rfl rfl rfl (by rw[lL,m3];omega) (fun v7 w6 hb7 hg7=>?_);refine kD hK ?_;clear hK K;obtain⟨p5,p6,r6,rfl⟩:=hb7.shape;have d4:=qKV S6.o J.o hwN (Nat.lt_succ_self _) hb7 hg7;have f3:w6.frozen? ⟨w2.1.size,5,none⟩=false:=((J.o.nd.grown (World.grownBy_alloc m4 _ none) (by simp)).grown hg7 (fun e=>(G _ e.symm).2.1 rfl)).f 5 nL;have f5:=((J.o.nd.grown (World.grownBy_alloc m4 _ none) (by simp)).grown hg7 (fun e=>(G _ e.symm).2.1 rfl)).c5;have V:=hI d4;clear d4 hb7 hg7 S6 J d3 G C d5 m7 d2 O;try simp only[Act.put,pZa,pZb,pZc]
   refine wOn 8 fun K hK=>?_
   go_simp;refine kD hK ?_;clear hK K;refine wOn 9 fun K hK=>?_
   go_simp;refine kD hK ?_;clear hK K;refine wDn ?_ _;clear f3 f5;have S6:=hI V.o.1;have J:=hI V.o.2;have m9:=hI he6;clear V he6 j;have f9:=J.o.lt;simp only[World.size_setCell]at f9;have S9:=S6.o;have N9:=J.o;have g7:=S9.lt;have hs2:=N9.lt;try simp only[World.size_setCell,World.size_alloc]at g7 hs2
   have hr:=S9.res;have⟨r0,p8,r2,r3,r4,r5,_⟩:=hr.a;have⟨g0,g1,g2,g3,g4,g5,_⟩:=hr.b;clear hr;have X:=N9.nd;have⟨n0,p7,s0,r8,p4,r9,_⟩:=X.a;clear X;have g9:=hI S9;have g8:=hI N9;clear S9 N9 S6 J;unfold qC at n0;go_wp2
   refine bodyPost_ret (v:=qZ (.mk qC z.text z.num z.line z.col ((z.kids++s2)++[t6])) (.slice p5 p6 r6)) (by simp[results,results91,go_sem,qZ,qQ.kind,qQ.text,qQ.num,qQ.line,qQ.col,qQ.kids,qY,qG,qC,qO,zB,zD,zX,qE,kIf,zS,qA,qV,qF,qD,qP,qW,qN,zW,zM,qL,qM,qT,zK,zL,qH,zA, *]) rfl ?_;have Y:(yM n d) (t :: r)=.ok (.mk qC z.text z.num z.line z.col ((z.kids++s2)++[t6])) l6:=by simp only[bF,if_false,if_true,reduceIte,bN,bM,bO,bU,bP,bV,bW,bB,bA,bT,lN,lC,lA,yM,I,Z,PR.bind,qX,R.o,d6.o,m9.o]
   rw[Y];exact g9.o.fin (t:=(.mk qC z.text z.num z.line z.col ((z.kids++s2)++[t6]))) (g8.o.bd.build fun g hg=>hg.1) _ _ _ _ _ _
 case true =>
  have H:=hI (wN B t r d zA _ S0.o.ps);rw[I]at H;go_wp2_with fail
  refine(H.o).mono ?_;rintro e w1 ⟨rfl,n7⟩;have S1:=hI (S0.o.below n7);clear S0;clear H n7;have m5:true=true->(hdT (t :: r)).text≠[]:=fun _ e=>by rw[show(hdT (t :: r)).text=t.text from rfl]at e;rw[e]at I;exact absurd I (by decide)
  have p9:=hI (fun(B:Nat) (l:List Tok) (w:World) (h:vP B l d w) (hc:true=true->(hdT l).text≠[]) (ho:zG qG true l≠.out)=>m2.o true B l w h hc ho);have s:zG qG true (t :: r)≠.out:=fun e=>g6.o (by simp only[bF,if_false,if_true,reduceIte,bN,bM,bO,bU,bP,bV,bW,bB,bA,bT,lN,lC,lA,yM,I,PR.bind,qX,e])
  have HC:=hI (m2.o true B (t :: r) _ S1.o.ps m5 s);have j:=hI s;clear s;go_wp2_with fail
  refine(HC.o).mono ?_;intro e w2 X;rcases X.cases j.o with⟨z,l2,q2,n2,c2,he2,rfl,n3,hP2,hg2⟩ | ⟨ln,c,code,he2,rfl,hg2⟩;rotate_left
  ·refine⟨rfl,?_⟩;have A:(yM n d) (t :: r)=.bad ln c code:=by simp only[bF,if_false,if_true,reduceIte,bN,bM,bO,bU,bP,bV,bW,bB,bA,bT,lN,lC,lA,yM,I,PR.bind,qX,he2]
   rw[A];exact S1.o.pan ⟨rfl,hg2⟩
  have hwN:w.1.size < w2.1.size:=(S1.o.call hP2 hg2).lt;have N2:=hI (NdX.put z (n3.mono (lo':=w.1.size+1) S1.o.lt));have S2:=hI ((S1.o.call hP2 hg2).alloc (wD z.kind z.text z.num z.line z.col (.slice q2 n2 c2)));have R:=hI he2;clear X n3 hP2 hg2 he2 HC j S1;unfold qZ wD at *;have m3:z.kids.length=1:=qKm R.o;clear m5 p9 m2;have D2:=N2.o.nd.c0;have t9:=N2.o.nd.f 0 nL;have S3:=hI (S2.o.setN hwN 0 (.string ⟨qC.toArray⟩));have N3:=hI (N2.o.setK qC);clear S2 N2;rw[put_kind]at S3 N3;have s:xT n (zG qO false) l2≠.out:=fun e=>g6.o (by simp only[bF,if_false,if_true,reduceIte,bN,bM,bO,bU,bP,bV,bW,bB,bA,bT,lN,lC,lA,yM,I,PR.bind,qX,R.o,e])
  have j:=hI s;clear s;have p0:=hI S3.o.drew;have n1:=hI N3.o.drew;clear S3 N3;go_wp2_with fail
  have C:=n1.o.nd.c5;refine wRg (S:=fun w'=>w'.cell? ⟨w2.1.size,5,none⟩=some (.slice q2 n2 c2)) 6 ?_;refine wTk 0 16 (.pointer (some ⟨w2.1.size,5,none⟩)) ?_ C ?_
  ·intro _ y;go_simp
  refine wTk 1 17 (.slice q2 n2 c2) ?_ C ?_
  ·intro _ y;go_simp
  refine wTk 2 18 (.pointer (some ⟨B,0,none⟩)) ?_ C ?_
  ·intro _ y;go_simp
  refine wTk 3 19 (.pointer (some ⟨B,0,none⟩)) ?_ C ?_
  ·intro _ y;go_simp
  refine wTk 4 20 (.func (.func 105) #[.pointer (some ⟨B,0,none⟩)] #[]) ?_ C ?_
  ·intro _ y;go_simp
  refine wOn 5 fun K hK=>?_
  go_simp;refine(s7.o B l2 _ p0.o.ps j.o).mono ?_;intro e D6 X;rcases X.cases j.o with⟨r7,l4,q4,n4,c4,he4,rfl,hb4,hP4,hg4,D3,t0⟩ | ⟨ln,c,code,he4,rfl,hg4⟩;rotate_left
  ·refine⟨rfl,?_⟩;have A:(yM n d) (t :: r)=.bad ln c code:=by simp only[bF,if_false,if_true,reduceIte,bN,bM,bO,bU,bP,bV,bW,bB,bA,bT,lN,lC,lA,yM,I,PR.bind,qX,R.o,he4]
   rw[A];exact p0.o.pan ⟨rfl,hg4⟩
  have S6:=hI (p0.o.call hP4 hg4);have J:=hI (n1.o.call hg4 (by omega));have d3:=hI hb4;have m6:=hI t0;have G:=n1.o.own;have d5:=J.o.nd.c5;have p2:=J.o.lt;have d2:=n1.o.lt;have O:=hg4.size;have r1:=hI he4;clear hP4 hg4 hb4 t0 he4 X p0 n1;refine kK hK d5 ?_;clear hK K;refine wOn 6 fun K hK=>?_
  refine qVV (dd:=22) _ _ rfl rfl J.o.bd d3.o m6.o (fun g hg=>⟨by omega,by omega⟩) (fun g hg=>(G g hg).2.2) O rfl rfl (by rw[m3];omega) (fun v7 w4 hb7 hg7=>?_);refine kD hK ?_;clear hK K;obtain⟨t4,t8,s8,rfl⟩:=hb7.shape;have d4:=qYT S6.o J.o hwN (Nat.lt_succ_self _) hb7 hg7;have f3:w4.frozen? ⟨w2.1.size,5,none⟩=false:=(J.o.nd.grown hg7 (fun e=>(G _ e.symm).2.1 rfl)).f 5 nL;have f5:=(J.o.nd.grown hg7 (fun e=>(G _ e.symm).2.1 rfl)).c5;have V:=hI d4;clear d4 hb7 hg7 S6 J d3 m6 G C d5 d2 O;try simp only[Act.put,pZa,pZb,pZc]
  refine wOn 7 fun K hK=>?_
  go_simp;refine kD hK ?_;clear hK K;refine wOn 8 fun K hK=>?_
  go_simp;refine kD hK ?_;clear hK K;refine wDn ?_ _;clear f3 f5;have S4:=hI V.o.1;have N4:=hI V.o.2;clear V j;have s:xX d (qQd n .block) l4≠.out:=fun e=>g6.o (by simp only[bF,if_false,if_true,reduceIte,bN,bM,bO,bU,bP,bV,bW,bB,bA,bT,lN,lC,lA,yM,I,PR.bind,qX,R.o,r1.o,e])
  have j:=hI s;clear s;have f6:=hI S4.o.drew;have d8:=hI N4.o.drew;clear S4 N4;go_wp2_with fail
  have C:=d8.o.nd.c5;refine wRg (S:=fun w'=>w'.cell? ⟨w2.1.size,5,none⟩=some (.slice t4 t8 s8)) 7 ?_;refine wTk 0 24 (.pointer (some ⟨w2.1.size,5,none⟩)) ?_ C ?_
  ·intro _ y;go_simp
  refine wTk 1 25 (.slice t4 t8 s8) ?_ C ?_
  ·intro _ y;go_simp
  refine wTk 2 26 (.pointer (some ⟨B,0,none⟩)) ?_ C ?_
  ·intro _ y;go_simp
  refine wTk 3 27 (.pointer (some ⟨B,0,none⟩)) ?_ C ?_
  ·intro _ y;go_simp
  refine wTk 4 28 (.func (.func 107) #[.pointer (some ⟨B,0,none⟩)] #[]) ?_ C ?_
  ·intro _ y;go_simp
  refine wOn 5 fun K hK=>?_
  go_simp;have HC:=t1.o B l4 _ f6.o.ps j.o;refine HC.mono ?_;intro e s1 X;rcases X.cases j.o with⟨t5,l5,q5,n5,c5,he5,rfl,f8,f7,U⟩ | ⟨ln,c,code,he5,rfl,U⟩;rotate_left
  ·refine⟨rfl,?_⟩;have A:(yM n d) (t :: r)=.bad ln c code:=by simp only[bF,if_false,if_true,reduceIte,bN,bM,bO,bU,bP,bV,bW,bB,bA,bT,lN,lC,lA,yM,I,PR.bind,qX,R.o,r1.o,he5]
   rw[A];exact f6.o.pan ⟨rfl,U⟩
  have S6:=hI (f6.o.call f7 U);have J:=hI (d8.o.call U (by omega));have d3:=hI f8;have G:=d8.o.own;have d5:=J.o.nd.c5;have m7:=J.o.nd.f 5 nL;have p2:=J.o.lt;have d2:=d8.o.lt;have O:=U.size;clear f7 U f8 HC X f6 d8;unfold qZ;refine kK hK d5 ?_;clear hK K;refine wOn 6 fun K hK=>?_
  go_simp;refine kK hK (by go_simp) ?_;clear hK K;refine wOn 7 fun K hK=>?_
  refine qX6 (dd:=31) (t:=t5) (u:=.slice q5 n5 c5) _ _ rfl rfl J.o.bd d3.o (fun g hg=>⟨by omega,by omega⟩) (fun g hg=>(G g hg).2.2) O rfl rfl rfl (by rw[lL,m3];omega) (fun v7 w5 hb7 hg7=>?_);refine kD hK ?_;clear hK K;obtain⟨p1,n9,n8,rfl⟩:=hb7.shape;have d4:=qKV S6.o J.o hwN (Nat.lt_succ_self _) hb7 hg7;have f3:w5.frozen? ⟨w2.1.size,5,none⟩=false:=((J.o.nd.grown (World.grownBy_alloc s1 _ none) (by simp)).grown hg7 (fun e=>(G _ e.symm).2.1 rfl)).f 5 nL;have f5:=((J.o.nd.grown (World.grownBy_alloc s1 _ none) (by simp)).grown hg7 (fun e=>(G _ e.symm).2.1 rfl)).c5;have V:=hI d4;clear d4 hb7 hg7 S6 J d3 G C d5 m7 d2 O;try simp only[Act.put,pZa,pZb,pZc]
  refine wOn 8 fun K hK=>?_
  go_simp;refine kD hK ?_;clear hK K;refine wOn 9 fun K hK=>?_
  go_simp;refine kD hK ?_;clear hK K;refine wDn ?_ _;clear f3 f5;have S5:=hI V.o.1;have N5:=hI V.o.2;have d6:=hI he5;clear V he5 j;have f9:=N5.o.lt;simp only[World.size_setCell]at f9;have S9:=S5.o;have N9:=N5.o;have g7:=S9.lt;have hs2:=N9.lt;try simp only[World.size_setCell,World.size_alloc]at g7 hs2
  have hr:=S9.res;have⟨r0,p8,r2,r3,r4,r5,_⟩:=hr.a;have⟨g0,g1,g2,g3,g4,g5,_⟩:=hr.b;clear hr;have X:=N9.nd;have⟨n0,p7,s0,r8,p4,r9,_⟩:=X.a;clear X;have g9:=hI S9;have g8:=hI N9;clear S9 N9 S5 N5;unfold qC at n0;go_wp2
  refine bodyPost_ret (v:=qZ (.mk qC z.text z.num z.line z.col ((z.kids++r7)++[t5])) (.slice p1 n9 n8)) (by simp[results,results91,go_sem,qZ,qQ.kind,qQ.text,qQ.num,qQ.line,qQ.col,qQ.kids,qY,qG,qC,qO,zB,zD,zX,qE,kIf,zS,qA,qV,qF,qD,qP,qW,qN,zW,zM,qL,qM,qT,zK,zL,qH,zA, *]) rfl ?_;have Y:(yM n d) (t :: r)=.ok (.mk qC z.text z.num z.line z.col ((z.kids++r7)++[t5])) l5:=by simp only[bF,if_false,if_true,reduceIte,bN,bM,bO,bU,bP,bV,bW,bB,bA,bT,lN,lC,lA,yM,I,PR.bind,qX,R.o,r1.o,d6.o]
  rw[Y];exact g9.o.fin (t:=(.mk qC z.text z.num z.line z.col ((z.kids++r7)++[t5]))) (g8.o.bd.build fun g hg=>hg.1) _ _ _ _ _ _
def ProgRel(n:Nat)(R:PR (List qQ))(w:World)(B N:Nat)(ln c:Int)(k:Nat)(wr:World):Prop :=
 ∃ acc l v,St w B l 0 wr/\Nd N qY [] 0 ln c v acc wr/\vI (fun u=>u.kind == 3) (qZe n) k acc l=R/\acc.length+k<=n
theorem qUW(n:Nat)(hn:n<=900000)(d9:vM 91 (fun p=>#[p]) 0 (qZe n)):vM 74 (fun p=>#[p]) 0 (xW n):=by
 intro B l w h f6;obtain⟨t,r,rfl⟩:=h.ends.ne;have S0:=St.start h;have H:=hI (kY B t r 0 _ S0.ps);have Y:=hI (jI t ⟨#[112,114,111,103,114,97,109]⟩ ⟨#[]⟩);have Z:=hI S0;have J:vI (fun u=>u.kind == 3) (qZe n) n [] (t :: r)≠.out:=qWG f6;have I:=hI J;have m0:=hI d9;have n2:=yW;clear h S0 f6 d9 J;unfold jY at *;go_enter func74,ntmps74
 go_wp2_with fail
 refine(H.o).mono ?_;rintro e w1 ⟨rfl,f8⟩;have S1:=hI (Z.o.below f8);clear H Z f8;go_wp2_with fail
 refine(Y.o _).mono ?_;rintro e w2 ⟨rfl,d2⟩;have S3:=hI ((S1.o.below d2).alloc (wD qY [] 0 t.line t.col (.slice none 0 0)));have N3:=hI (Nd.new qY [] 0 t.line t.col w2);have hwN:w.1.size < w2.1.size:=(S1.o.below d2).lt;have m5:=S3.o.hB;clear S1 d2 Y;unfold wD qY at *;go_wp2_with fail
 go_loopg [] n (fun k wr=>ProgRel n (vI (fun u=>u.kind == 3) (qZe n) n [] (t :: r)) w B w2.1.size t.line t.col k wr)
 case atStart=>exact⟨[],t :: r,_,S3.o,N3.o,rfl,by simp⟩
 case round =>
  obtain⟨acc,l1,v,S,N,hm,m2⟩:=hrel;obtain⟨z,V,rfl⟩:=S.ps.ends.ne;obtain⟨q,vn,vc,rfl⟩:=N.bd.shape;have HA:=hI (kY B z V 0 wr S.ps);have Z:=hI S;have Y:=hI N;have HM:=hI hm;clear S N hm S3 N3;cases gk with
  | zero=>exact absurd HM.o.symm I.o
  | succ m =>
  by_cases he:z.kind=3
  ·have d3:(z.kind == 3)=true:=by simpa using he
   have d8:(z.kind != 3)=false:=by simpa using he
   have j:vI (fun u=>u.kind == 3) (qZe n) (m+1) acc (z :: V)=.ok acc (z :: V):=by
    rw[vI];simp only[qX,d3,if_true]
   have C:=hI j;clear j he;go_wp2_with fail
   refine(HA.o).mono ?_;rintro e w4 ⟨rfl,hb4⟩;unfold vT xA;have S9:=Z.o.below hb4;have N9:=Y.o.below hb4;have m3:=S9.lt;have hs2:=N9.lt;have hr:=S9.res;have⟨r0,m7,r2,r3,r4,r5,_⟩:=hr.a;have⟨g0,g1,g2,g3,g4,g5,_⟩:=hr.b;clear hr;have hq:=N9.nd;have⟨g9,m6,n3,n0,m4,n1,_⟩:=hq.a;clear hq;have m1:=hI S9;have g7:=hI N9;clear S9 N9 hb4 Z Y HA;unfold qY at g9;go_wp2
   refine bodyPost_ret (v:=qZ (.mk qY [] 0 t.line t.col acc) (.slice q vn vc)) (by simp[results,results74,go_sem,qZ,qQ.kind,qQ.text,qQ.num,qQ.line,qQ.col,qQ.kids,qY,qG,qC,qO,zB,zD,zX,qE,kIf,zS,qA,qV,qF,qD,qP,qW,qN,zW,zM,qL,qM,qT,zK,zL,qH,zA, *]) rfl ?_;have:xW n (t :: r)=.ok (.mk qY [] 0 t.line t.col acc) (z :: V):=bind_ok (HM.o.symm.trans C.o);rw[this];exact m1.o.fin (g7.o.bd.mono (by omega)) _ _ _ _ _ _
  ·have d3:(z.kind == 3)=false:=by simpa using he
   have d8:(z.kind != 3)=true:=by simpa using he
   have j:vI (fun u=>u.kind == 3) (qZe n) (m+1) acc (z :: V)=(qZe n (z :: V)).bind fun t l=>vI (fun u=>u.kind == 3) (qZe n) m (acc++[t]) l:=by
    rw[vI];simp only[qX,d3,bF,if_false]
   have O:qZe n (z :: V)≠.out:=fun e=>I.o (by rw[<-HM.o,j,e];rfl)
   have C:=hI j;have U:=hI O;clear j O he;go_wp2_with fail
   refine(HA.o).mono ?_;rintro e w5 ⟨rfl,hb5⟩;have S5:=hI (Z.o.below hb5).drew;have N5:=hI (Y.o.below hb5).drew;clear hb5 Z Y HA;unfold vT xA;go_wp2_with fail
   have G:=N5.o.nd.c5;refine wRg (S:=fun w'=>w'.cell? ⟨w2.1.size,5,none⟩=some (.slice q vn vc)) 5 ?_;refine wTk 0 11 (.pointer (some ⟨w2.1.size,5,none⟩)) ?_ G ?_
   ·intro _ y;go_simp
   refine wTk 1 12 (.slice q vn vc) ?_ G ?_
   ·intro _ y;go_simp
   refine wTk 2 13 (.pointer (some ⟨B,0,none⟩)) ?_ G ?_
   ·intro _ y;go_simp
   refine wOn 3 fun K hK=>?_
   go_simp;have HC:=m0.o B (z :: V) _ S5.o.ps U.o;refine HC.mono ?_;intro e w6 hq;rcases hq.cases U.o with⟨t6,l6,q6,n6,c6,he6,rfl,d7,d6,s⟩ | ⟨ln,c,code,he6,rfl,s⟩
   ·have S6:=hI (S5.o.call d6 s);have X:=hI (N5.o.call s (by omega));have f3:=hI d7;have A:=N5.o.bd.lt;have f7:=X.o.nd.c5;have g6:=X.o.nd.f 5 nL;have m9:=X.o.lt;have d5:=N5.o.lt;have R:=s.size;clear d6 s d7 HC hq S5 N5;unfold qZ;refine kK hK f7 ?_;clear hK K;refine wOn 4 fun K hK=>?_
    go_simp;refine kK hK (by go_simp) ?_;clear hK K;refine wOn 5 fun K hK=>?_
    refine qQq (dd:=16) (t:=t6) (u:=.slice q6 n6 c6) _ _ rfl rfl X.o.bd f3.o (by omega) (fun g hg=>(A g hg).2) R rfl rfl rfl (by omega) (fun v7 w7 hb7 hg7=>?_);refine kD hK ?_;clear hK K;obtain⟨q7,n7,c7,rfl⟩:=hb7.shape;have f5:=qZ8 S6.o X.o hwN hb7 hg7;have f9:w7.frozen? ⟨w2.1.size,5,none⟩=false:=((X.o.nd.grown (World.grownBy_alloc w6 _ none) (by simp)).grown hg7 (fun e=>by have:=(A _ e.symm).1;omega)).f 5 nL;have g8:=((X.o.nd.grown (World.grownBy_alloc w6 _ none) (by simp)).grown hg7 (fun e=>by have:=(A _ e.symm).1;omega)).c5;have f4:=hI f5;clear f5 hb7 hg7 S6 X f3 A G f7 g6 d5 R;try simp only[Act.put,pZa,pZb,pZc]
    refine wOn 6 fun K hK=>?_
    go_simp;refine kD hK ?_;clear hK K;refine wOn 7 fun K hK=>?_
    go_simp;refine kD hK ?_;clear hK K;refine wDn ?_ _;clear f9 g8;go_wp2
    go_roundg m
    case measure=>omega
    case rel=>exact⟨acc++[t6],l6,_,f4.o.1,f4.o.2,by rw[<-HM.o,C.o,he6];rfl,by simp;omega⟩
   ·refine⟨rfl,?_⟩;have d4:xW n (t :: r)=.bad ln c code:=qXl (HM.o.symm.trans (C.o.trans (qXl he6)));rw[d4];exact S5.o.pan ⟨rfl,s⟩
theorem qLV(p q:Addr)(w:World) :
 CallsD prog 73 #[.pointer (some p), .pointer (some q)] .returning w fun e u' w'=>e=.returned (.tuple #[])/\u'=.returning/\w'=w:=by
 refine callsD_of_wpS func73 rfl fun j cs hu=>?_
 apply wpS_seq;apply wpS_region;simp[wpOpsS,go_sem,recoverD,hu,ntmps73,Exit.thenS];refine wpS_of_wp ?_;change Code.wp _ _ _ { tmps:=#[.pointer (some p), .pointer (some q), .nilIface, .nilIface,undef,undef,undef,undef,undef],defers:=[] } w;generalize o:(fun e a' w'=>bodyPostS prog f73 j cs (fun e u' w'=>e=Ending.returned (.tuple #[])/\u'=FrameMode.returning/\w'=w) e a' (j :: cs) w')=Q;go_wp2
 rw[<-o];refine⟨rfl, .returning,?_, .tuple #[],by simp[results,results73],rfl,rfl,rfl⟩;cases j;simp_all
theorem qUD(v:Value)(w:World):(Instr.typeAssert (.iface 110 v) 20 110 false).run prog w=.ok v w:=by kernel_rfl
def Caught(b c:Nat)(ln co code:Int)(w w':World):Prop :=
 zI b [] [] 0 0 0 (.slice none 0 0) w'/\w'.cell? ⟨c,0,none⟩=some (.int .i64 ln)/\w'.cell? ⟨c,1,none⟩=some (.int .i64 co)/\w'.cell? ⟨c,2,none⟩=some (.int .i64 code)/\∀ (w0:World) (r:Option Nat),w0.grownBy w r->w0.1.size<=b->w0.1.size<=c->w0.grownBy w' r
theorem zI.zset{b:Nat}{w:World}(h:zI b [] [] 0 0 0 (.slice none 0 0) w){c:Nat}(j:¬b=c)(o:Nat)(v:Value):zI b [] [] 0 0 0 (.slice none 0 0) (w.setCell ⟨c,o,none⟩ v):=h.grown (jM w c o v) (by simpa using j)
theorem zsix{b:Nat}{w:World}(h:zI b [] [] 0 0 0 (.slice none 0 0) w):zI b [] [] 0 0 0 (.slice none 0 0) (six w b (.string ⟨#[]⟩) (.string ⟨#[]⟩) (.int .u64 0) (.int .i64 0) (.int .i64 0) (.slice none 0 0)):=by
 have⟨s,o,h2,h3,h4,y,_⟩:=h.a;have hf:=h.f;unfold six;constructor
 case f=>intro k j;have:=hf k j;simp[go_sem, *]
 all_goals simp[go_sem, *]
theorem qLW{b c:Nat}{ln co code x y z:Int}{w:World}(hb:zI b [] [] 0 0 0 (.slice none 0 0) w)(j:¬b=c)(s:w.cell? ⟨c,0,none⟩=some (.int .i64 x))(A:w.cell? ⟨c,1,none⟩=some (.int .i64 y))(o:w.cell? ⟨c,2,none⟩=some (.int .i64 z)) :
 Caught b c ln co code w ((((six w b (.string ⟨#[]⟩) (.string ⟨#[]⟩) (.int .u64 0) (.int .i64 0) (.int .i64 0) (.slice none 0 0)).setCell ⟨c,0,none⟩ (.int .i64 ln)).setCell ⟨c,1,none⟩ (.int .i64 co)).setCell ⟨c,2,none⟩ (.int .i64 code)).drew:=by
 have hg:=vQ w b (.string ⟨#[]⟩) (.string ⟨#[]⟩) (.int .u64 0) (.int .i64 0) (.int .i64 0) (.slice none 0 0);have d0:=hg.cell s (by simp;omega);have d1:=hg.cell A (by simp;omega);have C:=hg.cell o (by simp;omega);refine⟨((((zsix hb).zset j _ _).zset j _ _).zset j _ _).below (Below.refl _ _).drew,?_,?_,?_,fun w0 r h h1 h2=>?_⟩
 ·simp[go_sem, *]
 ·simp[go_sem, *]
 ·simp[go_sem, *]
 ·exact vX (xR (xR (xR (qQU h h1 _ _ _ _ _ _) h2 _ _) h2 _ _) h2 _ _)
theorem qWj(b c:Nat)(ln co code x y z:Int)(w:World)(hb:zI b [] [] 0 0 0 (.slice none 0 0) w)(A:w.cell? ⟨c,0,none⟩=some (.int .i64 x))(o:w.cell? ⟨c,1,none⟩=some (.int .i64 y))(j:w.cell? ⟨c,2,none⟩=some (.int .i64 z))(G:w.frozen? ⟨c,0,none⟩=false)(I:w.frozen? ⟨c,1,none⟩=false)(C:w.frozen? ⟨c,2,none⟩=false)(s:¬b=c) :
 CallsD prog 73 #[.pointer (some ⟨b,0,none⟩), .pointer (some ⟨c,0,none⟩)] (.panicking [{ v:=qXo ln co code,recovered:=false }]) w fun e u' w' =>
  e=.returned (.tuple #[])/\u'=.panicking [{ v:=qXo ln co code,recovered:=true }]/\Caught b c ln co code w w':=by
 unfold qXo;refine callsD_of_wpS func73 rfl fun c₀ cs hu=>?_
 apply wpS_seq;apply wpS_region;simp[wpOpsS,go_sem,recoverD,hu,ntmps73,Exit.thenS];refine wpS_of_wp ?_;change Code.wp _ _ _ { tmps:=#[.pointer (some ⟨b,0,none⟩), .pointer (some ⟨c,0,none⟩), .iface 110 (.agg #[.int .i64 ln, .int .i64 co, .int .i64 code]), .iface 110 (.agg #[.int .i64 ln, .int .i64 co, .int .i64 code]),undef,undef,undef,undef,undef],defers:=[] } w;have⟨V,U,O,R,Z,X,_⟩:=hb.a;have⟨Y,g1,g2,g3,g4,g5,_⟩:=hb.b;have J:=qUD;go_wp2
 go_region
 exact⟨rfl, .panicking [{ v:=.iface 110 (.agg #[.int .i64 ln, .int .i64 co, .int .i64 code]),recovered:=true }],rfl, .tuple #[],by simp[results,results73],rfl,rfl,qLW hb s A o j⟩
structure qPc(T c:Nat)(l:List Tok)(w:World):Prop where
 row:qYR T l w
 lt:T < w.1.size
 ends:qZY l
 hc:l.length<=c
 hm:c<=maxLen
 hl:l.length<=70000
 ht:∀ t∈l,t.text.length<=65536
 tab:qKT w.1.size w
def qXH:Value:=.agg #[.string ⟨#[]⟩, .string ⟨#[]⟩, .int .u64 0, .int .i64 0, .int .i64 0, .slice none 0 0]
def TreePost(w:World)(p:PR qQ)(e:Ending)(w':World):Prop :=
 match p with
 | .ok t _=>∃ v,e=.returned (.tuple #[qZ t v, .agg #[.int .i64 0, .int .i64 0, .int .i64 0]])/\zC w' w.1.size t.kids v/\Below w.1.size w w'
 | .bad ln c code=>e=.returned (.tuple #[qXH, .agg #[.int .i64 ln, .int .i64 c, .int .i64 code]])/\Below w.1.size w w'
 | .out=>True
theorem qK8{w0 j w':World}{B:Nat}(h:Below w0.1.size w0 j)(hg:j.grownBy w' (some B))(hB:w0.1.size<=B):Below w0.1.size w0 w':=h.grown hg h.size (fun k e=>by cases e;exact hB)
def qX5(T c:Nat)(l:List Tok)(w:World):World :=
 ((w.alloc (.cells #[.string ⟨#[]⟩, .string ⟨#[]⟩, .int .u64 0, .int .i64 0, .int .i64 0, .slice none 0 0] 57)).alloc (.cells #[.int .i64 0, .int .i64 0, .int .i64 0] 110)).alloc (.cells #[.slice (some ⟨T,0,none⟩) l.length c, .int .i64 0] 129)
theorem qKP(T c:Nat)(l:List Tok)(w:World):Below w.1.size w (qX5 T c l w) :=
 (((Below.refl _ _).alloc (Nat.le_refl _) _).alloc (by simp) _).alloc (by simp;omega) _
theorem tree_ps{T c:Nat}{l:List Tok}{w:World}(h:qPc T c l w):vP (w.1.size+1+1) l 0 (qX5 T c l w):=by
 have hb:=qKP T c l w;refine⟨w.1.size,T,0,c,?_,?_,?_,?_,fun k hk=>?_,h.ends,by have:=h.lt;omega,h.hc,h.hm,h.hl,h.ht,by omega,h.tab.under hb,by omega⟩
 ·simp[qX5,go_sem]
 ·simp[qX5,go_sem]
 ·simp[qX5,go_sem]
 ·simp[qX5,go_sem]
 ·rw[Nat.zero_add];exact(h.row k hk).below hb h.lt
theorem qUy(T c:Nat)(l:List Tok)(w:World):zI w.1.size [] [] 0 0 0 (.slice none 0 0) (qX5 T c l w):=((zI.new [] [] 0 0 0 (.slice none 0 0) w).alloc _).alloc _
structure qQE(b:Nat)(x y z:Int)(w:World):Prop where
 c0:w.cell? ⟨b,0,none⟩=some (.int .i64 x)
 c1:w.cell? ⟨b,1,none⟩=some (.int .i64 y)
 c2:w.cell? ⟨b,2,none⟩=some (.int .i64 z)
 f:∀ k,k < 3->w.frozen? ⟨b,k,none⟩=false
theorem qQE.a{b:Nat}{x y z:Int}{w:World}(h:qQE b x y z w):w.cell? ⟨b,0,none⟩=some (.int .i64 x)/\w.cell? ⟨b,1,none⟩=some (.int .i64 y)/\w.cell? ⟨b,2,none⟩=some (.int .i64 z)/\True:=⟨h.c0,h.c1,h.c2,trivial⟩
theorem qQE.b{b:Nat}{x y z:Int}{w:World}(h:qQE b x y z w):w.frozen? ⟨b,0,none⟩=false/\w.frozen? ⟨b,1,none⟩=false/\w.frozen? ⟨b,2,none⟩=false/\True:=⟨h.f 0 (by decide),h.f 1 (by decide),h.f 2 (by decide),trivial⟩
theorem qQE.grown{b:Nat}{x y z:Int}{w w':World}{r:Option Nat}(h:qQE b x y z w)(hg:w.grownBy w' r)(j:some b≠r):qQE b x y z w' :=
 ⟨hg.cell h.c0 j,hg.cell h.c1 j,hg.cell h.c2 j,fun k hk=>(World.frozen?_of_block (hg.block b (qJ h.c0) j)).trans (h.f k hk)⟩
theorem qYv(T c:Nat)(l:List Tok)(w:World):qQE (w.1.size+1) 0 0 0 (qX5 T c l w):=by
 constructor
 case f=>intro k j;simp[qX5,go_sem]
 all_goals simp[qX5,go_sem]
theorem tree_any(n:Nat)(hp:vM 74 (fun p=>#[p]) 0 (xW n))(T c:Nat)(l:List Tok)(w:World)(h:qPc T c l w)(G:xW n l≠.out) :
 Calls prog 60 #[.slice (some ⟨T,0,none⟩) l.length c] w (TreePost w (xW n l)):=by
 have Z:=zT;have U:=hI hp;have A:=hI G;have V:=hI h;clear h G hp;go_enter_defers func60,ntmps60
 go_wp2_with fail
 refine(U.o (w.1.size+1+1) l (qX5 T c l w) (tree_ps V.o) A.o).mono ?_;intro e w1 R;rcases R.cases A.o with⟨z,l1,X,Y,c1,he1,rfl,I,hP1,hg1⟩ | ⟨ln,co,code,he1,rfl,hg1⟩
 ·have hN:=(qUy T c l w).grown hg1 (by simp;omega);have s:=(qYv T c l w).grown hg1 (by simp);have HB:=hI I;have HE:=hI he1;have HG:=hI (qK8 (qKP T c l w) hg1 (by omega));have⟨r0,r1,r2,r3,r4,r5,_⟩:=hN.a;have⟨g0,g1,g2,g3,g4,g5,_⟩:=hN.b;have⟨s0,s1,s2,_⟩:=s.a;have⟨k0,k1,k2,_⟩:=s.b;have d3:=hN.lt;clear hN s I hP1 hg1 he1 R U V;unfold qZ;go_wp2
  refine leaves_cons (f:=73) (args:=#[.pointer (some ⟨w.1.size,0,none⟩), .pointer (some ⟨w.1.size+1,0,none⟩)]) (by simp) (by simp[go_sem]) ?_;refine(qLV ⟨w.1.size,0,none⟩ ⟨w.1.size+1,0,none⟩ _).mono ?_;rintro e u' w2 ⟨rfl,rfl,rfl⟩;refine⟨.tuple #[qZ z (.slice X Y c1), .agg #[.int .i64 0, .int .i64 0, .int .i64 0]],by simp[results,results60,go_sem,qZ, *],?_⟩;rw[HE.o];have hs3:(qX5 T c l w).1.size=w.1.size+3:=by simp[qX5]
  have hb:=HB.o;rw[hs3]at hb;have h1:=hb.six (k:=w.1.size) (by omega) (.string ⟨z.kind.toArray⟩) (.string ⟨z.text.toArray⟩) (.int .u64 z.num) (.int .i64 z.line) (.int .i64 z.col) (.slice X Y c1);have h2:=((h1.grown (jM _ (w.1.size+1) 0 (.int .i64 0)) (fun j e=>by cases e;exact .inl (by omega))).grown (jM _ (w.1.size+1) 1 (.int .i64 0)) (fun j e=>by cases e;exact .inl (by omega))).grown (jM _ (w.1.size+1) 2 (.int .i64 0)) (fun j e=>by cases e;exact .inl (by omega));refine⟨_,rfl,h2.mono (by omega),qQb ?_⟩;have O:=Nat.le_refl w.1.size;have y:w.1.size<=w.1.size+1:=by omega
  exact xR (xR (xR (qQU (zV HG.o none) O _ _ _ _ _ _) y _ _) y _ _) y _ _
 ·have hN:=(qUy T c l w).grown hg1 (by simp;omega);have s:=(qYv T c l w).grown hg1 (by simp);have hG:=qK8 (qKP T c l w) hg1 (by omega);refine leaves_cons (f:=73) (args:=#[.pointer (some ⟨w.1.size,0,none⟩), .pointer (some ⟨w.1.size+1,0,none⟩)]) (by simp) (by simp[go_sem]) ?_;refine(qWj w.1.size (w.1.size+1) ln co code 0 0 0 w1 hN s.c0 s.c1 s.c2 (s.f 0 nL) (s.f 1 nL) (s.f 2 nL) (by omega)).mono ?_;rintro e u' w2 ⟨rfl,rfl,C⟩;have⟨c0,c1,c2,c3,c4,c5,_⟩:=C.1.a;have d0:=C.2.1;have d1:=C.2.2.1;have d2:=C.2.2.2.1;have J:Below w.1.size w w2:=qQb (C.2.2.2.2 w none (zV hG none) (Nat.le_refl _) (by omega));show Leaves _ _ _ _ [] FrameMode.returning w2
  refine⟨.tuple #[qXH, .agg #[.int .i64 ln, .int .i64 co, .int .i64 code]],by simp[results,results60,go_sem,qXH, *],?_⟩;rw[he1];exact⟨rfl,J⟩
def qJ1(w:World)(p:PR qQ)(e:Ending)(w':World):Prop :=
 match p with
 | .ok t _=>∃ v,e=.returned (.tuple #[qZ t v, .int .i64 0, .int .i64 0, .int .i64 0])/\zC w' w.1.size t.kids v/\Below w.1.size w w'
 | .bad ln c code=>e=.returned (.tuple #[qXH, .int .i64 ln, .int .i64 c, .int .i64 code])/\Below w.1.size w w'
 | .out=>True
theorem parse_any(n:Nat)(hp:vM 74 (fun p=>#[p]) 0 (xW n))(T c:Nat)(l:List Tok)(w:World)(h:qPc T c l w)(s:xW n l≠.out) :
 Calls prog 43 #[.slice (some ⟨T,0,none⟩) l.length c] w (qJ1 w (xW n l)):=by
 have G:=(Below.refl w.1.size w).alloc (Nat.le_refl _) jY;have Y:qPc T c l (w.alloc jY):=⟨h.row.below G h.lt,by simp;have:=h.lt;omega,h.ends,h.hc,h.hm,h.hl,h.ht,by
  have:=h.tab.under G;obtain⟨a1,a2,⟨b,J,V,h2,h3⟩,⟨b',y,z,h4,h5⟩⟩:=this;exact⟨by simp;omega,Nat.le_refl _,⟨b,J,V,h2,by simp;omega⟩,⟨b',y,z,h4,by simp;omega⟩⟩⟩
 have H:=hI (tree_any n hp T c l _ Y s);have I:=hI G;have R:=hI s;have C:=hI (zI.new [] [] 0 0 0 (.slice none 0 0) w);clear h Y s hp G;unfold jY at *;go_enter func43,ntmps43
 go_wp2_with fail
 refine(H.o).mono ?_;intro e w1 A;cases hr:xW n l with
 | out=>exact absurd hr R.o
 | ok t l' =>
  rw[hr]at A;obtain⟨v,rfl,hb,hB⟩:=A;obtain⟨q,Z,vc,rfl⟩:=hb.shape;have j:=C.o.below hB;have HB:=hI hb;have U:=hI hB;have⟨r0,r1,r2,r3,r4,r5,_⟩:=j.a;have⟨g0,g1,g2,g3,g4,g5,_⟩:=j.b;have O:=j.lt;clear j hb hB H C;unfold qZ;go_wp2
  go_region
  go_wp2
  refine bodyPost_ret (v:=.tuple #[qZ t (.slice q Z vc), .int .i64 0, .int .i64 0, .int .i64 0]) (by simp[results,results43,go_sem,qZ, *]) rfl ?_;rw[hr];have X:zC w1 (w.1.size+1) t.kids (.slice q Z vc):=by simpa using HB.o
  refine⟨_,rfl,zC.mono (zC.below (((X.six (Nat.lt_succ_self _) _ _ _ _ _ _).alloc _).alloc _) (Below.refl _ _).drew) (by omega),qQb (vX (zY (zY (qQU (zV (I.o.trans (U.o.mono I.o.size)) none) (Nat.le_refl _) _ _ _ _ _ _) _) _))⟩
 | bad ln co code =>
  rw[hr]at A;obtain⟨rfl,hB⟩:=A;have j:=C.o.below hB;have U:=hI hB;have⟨r0,r1,r2,r3,r4,r5,_⟩:=j.a;have⟨g0,g1,g2,g3,g4,g5,_⟩:=j.b;have O:=j.lt;clear j hB H C;unfold qXH;go_wp2
  go_region
  go_wp2
  refine bodyPost_ret (v:=.tuple #[qXH, .int .i64 ln, .int .i64 co, .int .i64 code]) (by simp[results,results43,go_sem,qXH, *]) rfl ?_;rw[hr];exact⟨rfl,qQb (vX (zY (zY (qQU (zV (I.o.trans (U.o.mono I.o.size)) none) (Nat.le_refl _) _ _ _ _ _ _) _) _))⟩
theorem tokT_text{l:List UInt8}{ln c:Int}(h:wK l=0):(qJX l ln c).text≠[]/\(qJX l ln c).text.length<=l.length:=by
 have hp:=qQW h;have hl:=wG l;refine⟨fun e=>?_,?_⟩
 ·have:(qJX l ln c).text.length=0:=by rw[e];rfl
  simp only[qJX,List.length_take]at this;omega
 ·simp only[qJX,List.length_take];omega
theorem lexF_ends:∀ (n:Nat) (l:List UInt8) (ln c:Int) (ts:List Tok),qJt n l ln c=.ok ts->qZY ts/\ts.length<=l.length+1/\∀ t∈ts,t.text.length<=l.length:=by
 intro n;induction n with
 | zero=>intro l ln c ts h;simp[qJt]at h;try (subst h;simp)
 | succ n ih =>
  intro l ln c ts h;rw[qJt]at h;have C:=qZT l.length l ln c;generalize qQp l.length l ln c=s at *;by_cases o:s.1=[]
  ·simp only[o,if_true]at h;injection h with h;subst h;exact⟨⟨rfl,rfl⟩,by simp,by simp⟩
  ·by_cases h2:wK s.1=0
   ·simp only[if_neg o,if_pos h2]at h;have hp:=qQW h2;have z:=wG s.1;have j:=tokT_text (ln:=s.2.1) (c:=s.2.2) h2;generalize hr:qJt n (s.1.drop (zZ s.1)) _ _=r at h;cases r with
    | bad a b d=>simp[Res.cons]at h
    | ok us =>
     simp only[Res.cons]at h;injection h with h;subst h;obtain⟨h3,h4,y⟩:=ih _ _ _ _ hr;rw[List.length_drop]at h4 y;refine⟨?_,by simp;omega,fun t ht=>?_⟩
     ·obtain⟨u,A,rfl⟩:=h3.ne;exact⟨j.1,h3⟩
     ·rcases List.mem_cons.1 ht with rfl | ht
      ·omega
      ·have:=y t ht;omega
   ·simp only[if_neg o,if_neg h2]at h;cases h
theorem qUh{l:List UInt8}{ts:List Tok}(h:qQD l 1 1=.ok ts):qZY ts/\ts.length<=l.length+1/\∀ t∈ts,t.text.length<=l.length:=lexF_ends _ _ _ _ _ h
theorem lexF_bad:∀ (n:Nat) (l:List UInt8) (ln c a b code:Int),l.length < n->qJt n l ln c=.bad a b code->code=20\/code=21:=by
 intro n;induction n with
 | zero=>intro l ln c a b code o;omega
 | succ n ih =>
  intro l ln c a b code o h;rw[qJt]at h;have A:=qZT l.length l ln c;generalize qQp l.length l ln c=s at *;by_cases j:s.1=[]
  ·simp only[j,if_true]at h;cases h
  ·by_cases h2:wK s.1=0
   ·simp only[if_neg j,if_pos h2]at h;have hp:=qQW h2;have z:=wG s.1;generalize hr:qJt n (s.1.drop (zZ s.1)) _ _=r at h;cases r with
    | ok us=>simp[Res.cons]at h
    | bad x y d =>
     simp only[Res.cons]at h;injection h with e1 e2 e3;subst e3;exact ih _ _ _ _ _ _ (by rw[List.length_drop];omega) hr
   ·simp only[if_neg j,if_neg h2]at h;injection h with e1 e2 e3;rw[<-e3];exact qU7 h2
def qJq(n:Nat)(s:List UInt8):PR qQ :=
 match qQD s 1 1 with
 | .bad ln c code=>.bad ln c code
 | .ok l=>xW n l
def Tab3(w:World):Prop:=qKT w.1.size w/\qZO w
theorem Tab3.below{w w':World}(h:Tab3 w)(hb:Below w.1.size w w'):Tab3 w':=by
 refine⟨?_,h.2.below hb⟩;obtain⟨C,z,⟨b,y,s,h2,h3⟩,⟨b',o,j,h4,A⟩⟩:=h.1.under hb;have:=hb.size;exact⟨by omega,Nat.le_refl _,⟨b,y,s,h2,by omega⟩,⟨b',o,j,h4,by omega⟩⟩
theorem read_any(n:Nat)(hp:vM 74 (fun p=>#[p]) 0 (xW n))(s:ByteArray)(w:World)(hs:s.size<=65536)(ht:Tab3 w)(d9:qJq n s.data.toList≠.out) :
 Calls prog 21 #[.string s] w (qJ1 w (qJq n s.data.toList)):=by
 have ha:=(Below.refl w.1.size w).alloc (Nat.le_refl _) jY;have H:=hI (qUQ s _ hs (ht.below ha).2);have HT:=hI (ht.below ha);have U:=hI ha;have d5:=hI d9;have HP:=hI hp;have HR:=hI (zI.new [] [] 0 0 0 (.slice none 0 0) w);clear ht d9 hp ha;unfold jY at *;go_enter func21,ntmps21
 go_wp2_with fail
 refine(H.o).mono ?_;intro e w1 J;unfold qXM at J;cases hr:qQD s.data.toList 1 1 with
 | bad ln co code =>
  rw[hr]at J;obtain⟨rfl,hB⟩:=J;have j:qJq n s.data.toList=.bad ln co code:=by simp[qJq,hr]
  have G:=lexF_bad _ _ _ _ _ _ _ (by omega) hr;have f8:(code != 0)=true:=by rcases G with rfl | rfl <;> rfl
  have z:=HR.o.below hB;have X:=hI hB;have O:=hI j;have⟨r0,r1,r2,r3,r4,r5,_⟩:=z.a;have⟨g0,g1,g2,g3,g4,g5,_⟩:=z.b;have d4:=z.lt;clear z hB H HR j G;go_wp2
  refine bodyPost_ret (v:=.tuple #[qXH, .int .i64 ln, .int .i64 co, .int .i64 code]) (by simp[results,results21,go_sem,qXH, *]) rfl ?_;rw[O.o];exact⟨rfl,qQb (qQU (zV (U.o.trans (X.o.mono U.o.size)) none) (Nat.le_refl _) _ _ _ _ _ _)⟩
 | ok l =>
  rw[hr]at J;obtain⟨v,rfl,C,hB⟩:=J;obtain⟨A,d2,d6⟩:=qUh hr;have j:qJq n s.data.toList=xW n l:=by simp[qJq,hr]
  obtain⟨g,Y,rfl,hg,f4,d7,V⟩:=qUr C (by obtain⟨t,r,rfl⟩:=A.ne;simp);have d3:Y<=maxLen:=by
   rcases C.2 with⟨h,_⟩ | ⟨g',f6,f7,h,_,_,_,h6,_⟩
   ·cases h
   ·injection h with h1 h2 h3;subst h3;exact h6
  have d8:=HT.o.below hB;have f3:s.data.toList.length<=65536:=by rw[<-qQQ];exact hs
  have HK:qPc g Y l w1:=⟨V,f4,A,d7,d3,by omega,fun t h=>by have:=d6 t h;omega,d8.1⟩;have HC:=hI (parse_any n HP.o g Y l w1 HK (by rw[<-j];exact d5.o));have O:=hI j;have X:=hI hB;have R:=hI (HR.o.below hB);have f5:=hI (show xW n l≠.out by rw[<-j];exact d5.o);clear C hB A d2 d6 j V HK d8 H d3 f3;go_wp2_with fail
  refine(HC.o).mono ?_;intro e w2 J;cases I:xW n l with
  | out=>exact absurd I f5.o
  | ok t l' =>
   rw[I]at J;obtain⟨v,rfl,hb,y⟩:=J;obtain⟨q,vn,vc,rfl⟩:=hb.shape;have z:=R.o.below y;have HB:=hI hb;have Z:=hI y;have⟨r0,r1,r2,r3,r4,r5,_⟩:=z.a;have⟨g0,g1,g2,g3,g4,g5,_⟩:=z.b;have d4:=z.lt;clear z hb y HC HR R;unfold qZ;go_wp2
   refine bodyPost_ret (v:=.tuple #[qZ t (.slice q vn vc), .int .i64 0, .int .i64 0, .int .i64 0]) (by simp[results,results21,go_sem,qZ, *]) rfl ?_;rw[O.o,I];have hlo:w.1.size+1<=w1.1.size:=by have:=X.o.size;simpa using this
   exact⟨_,rfl,((HB.o.mono hlo).six (Nat.lt_succ_self _) _ _ _ _ _ _).mono (by omega),qQb (qQU (zV ((U.o.trans (X.o.mono U.o.size)).trans (Z.o.mono (Nat.le_trans U.o.size X.o.size))) none) (Nat.le_refl _) _ _ _ _ _ _)⟩
  | bad ln co code =>
   rw[I]at J;obtain⟨rfl,y⟩:=J;have z:=R.o.below y;have Z:=hI y;have⟨r0,r1,r2,r3,r4,r5,_⟩:=z.a;have⟨g0,g1,g2,g3,g4,g5,_⟩:=z.b;have d4:=z.lt;clear z y HC HR R;unfold qXH;go_wp2
   refine bodyPost_ret (v:=.tuple #[qXH, .int .i64 ln, .int .i64 co, .int .i64 code]) (by simp[results,results21,go_sem,qXH, *]) rfl ?_;rw[O.o,I];exact⟨rfl,qQb (qQU (zV ((U.o.trans (X.o.mono U.o.size)).trans (Z.o.mono (Nat.le_trans U.o.size X.o.size))) none) (Nat.le_refl _) _ _ _ _ _ _)⟩
theorem qLk(p q:Addr)(w:World) :
 CallsD prog 75 #[.pointer (some p), .pointer (some q)] .returning w fun e u' w'=>e=.returned (.tuple #[])/\u'=.returning/\w'=w:=by
 refine callsD_of_wpS func75 rfl fun j cs hu=>?_
 apply wpS_seq;apply wpS_region;simp[wpOpsS,go_sem,recoverD,hu,ntmps75,Exit.thenS];refine wpS_of_wp ?_;change Code.wp _ _ _ { tmps:=#[.pointer (some p), .pointer (some q), .nilIface, .nilIface,undef,undef,undef,undef,undef],defers:=[] } w;generalize o:(fun e a' w'=>bodyPostS prog f75 j cs (fun e u' w'=>e=Ending.returned (.tuple #[])/\u'=FrameMode.returning/\w'=w) e a' (j :: cs) w')=Q;go_wp2
 rw[<-o];refine⟨rfl, .returning,?_, .tuple #[],by simp[results,results75],rfl,rfl,rfl⟩;cases j;simp_all
def qWB(w:World):Prop:=Tab3 w/\Pow w
def wrW(t:qQ)(v:Value)(w:World):World :=
 (((w.alloc (.cells (qS t v).toArray 57)).alloc (.cells #[.slice none 0 0] 113)).alloc (.cells #[.int .i64 0] 24)).alloc (.cells #[.slice none 0 0] 132)
theorem qLl(t:qQ)(v:Value)(w:World):Below w.1.size w (wrW t v w) :=
 ((((Below.refl _ _).alloc (Nat.le_refl _) _).alloc (by simp) _).alloc (by simp;omega) _).alloc (by simp;omega) _
theorem wr_size(t:qQ)(v:Value)(w:World):(wrW t v w).1.size=w.1.size+4:=by simp[wrW]
theorem wr_at{t:qQ}{v:Value}{w:World}(h:qWB w):WAt w.1.size (w.1.size+1+1+1) [] (wrW t v w):=by
 have hb:=qLl t v w;have hp:=h.2.lt;refine⟨⟨.slice none 0 0,?_,World.ownsRow_nil _ _ _ _⟩,h.1.1.under hb,by omega,h.2.under hb hp,hp⟩;have:=vL (((w.alloc (.cells (qS t v).toArray 57)).alloc (.cells #[.slice none 0 0] 113)).alloc (.cells #[.int .i64 0] 24)) (.cells #[.slice none 0 0] 132);simpa[wrW]using this
def WrPost(w:World)(ws:List (List UInt8))(e:Ending)(w':World):Prop :=
 ∃ v,e=.returned (.tuple #[v, .int .i64 0])/\w'.ownsRow w.1.size 9 1 v ws.length (jT ws)/\Below w.1.size w w'
theorem qLm(n:Nat)(t:qQ)(v:Value)(w:World)(ws:List (List UInt8))(h4:qWB w)(hL:xZ w (· < w.1.size) t v)(hF:qZl t)(he:qQO n t=some ws)(A:ws.length<=1000000000) :
 Calls prog 61 #[qZ t v] w (WrPost w ws):=by
 have hb:=qLl t v w;have d3:=wr_size t v w;obtain⟨U,V,rfl,_,_⟩:=hL.shape;have HC:=hI (prog_w n w.1.size (w.1.size+1+1+1) [] t _ (wrW t _ w) ws (wr_at h4) (xZ.move (fun g hg _=>⟨(by omega:g < w.1.size+1+1+1),hb.block g hg⟩) t _ hL) hF he (by simpa using A));have d2:=zT;have HB:=hI hb;have n0:(wrW t (.slice U t.kids.length V) w).1[w.1.size+1]? = some (.cells #[.slice none 0 0] 113):=by
  have:=vL (w.alloc (.cells (qS t (.slice U t.kids.length V)).toArray 57)) (.cells #[.slice none 0 0] 113);rw[wrW];rw[Lib.alloc_old _ _ _ (by simp),Lib.alloc_old _ _ _ (by simp)];simpa using this
 have n1:(wrW t (.slice U t.kids.length V) w).1[w.1.size+1+1]? = some (.cells #[.int .i64 0] 24):=by
  have:=vL ((w.alloc (.cells (qS t (.slice U t.kids.length V)).toArray 57)).alloc (.cells #[.slice none 0 0] 113)) (.cells #[.int .i64 0] 24);rw[wrW];rw[Lib.alloc_old _ _ _ (by simp)];simpa using this
 have J:=hI n0;have R:=hI n1;clear h4 hL hF he hb n0 n1;simp only[wrW,qS,qZ]at *;go_enter_defers func61,ntmps61
 go_wp2_with fail
 refine(HC.o).mono ?_;rintro e G ⟨rfl,z,y⟩;obtain⟨v1,O,s⟩:=z.row;have X:=(y.below.block (w.1.size+1) (by omega)).trans J.o;have Y:=(y.below.block (w.1.size+1+1) (by omega)).trans R.o;have c0:G.cell? ⟨w.1.size+1,0,none⟩=some (.slice none 0 0):=by rw[Lib.cell_of_heap X];rfl
 have f0:G.frozen? ⟨w.1.size+1,0,none⟩=false:=Lib.frozen_of_heap X 0;have c1:G.cell? ⟨w.1.size+1+1,0,none⟩=some (.int .i64 0):=by rw[Lib.cell_of_heap Y];rfl
 have f1:G.frozen? ⟨w.1.size+1+1,0,none⟩=false:=Lib.frozen_of_heap Y 0;have c2:G.cell? ⟨w.1.size+1+1+1,0,none⟩=some v1:=by rw[Lib.cell_of_heap O];rfl
 have d5:=z.lt;have HG:=hI (HB.o.trans (y.below.mono (by omega)));have HO:=hI s;obtain⟨I,n',j,rfl⟩:∃ I n' j,v1=.slice I n' j:=by
  rcases s.2 with⟨hv,_⟩ | ⟨g,j,d4,hv,_⟩
  ·exact⟨_,_,_,hv⟩
  ·exact⟨_,_,_,hv⟩
 clear z y O s X Y HC HB J R;go_wp2
 refine leaves_cons (f:=75) (args:=#[.pointer (some ⟨w.1.size+1,0,none⟩), .pointer (some ⟨w.1.size+1+1,0,none⟩)]) (by simp) (by simp[go_sem]) ?_;refine(qLk ⟨w.1.size+1,0,none⟩ ⟨w.1.size+1+1,0,none⟩ _).mono ?_;rintro e u' w2 ⟨rfl,rfl,rfl⟩;refine⟨.tuple #[.slice I n' j, .int .i64 0],by simp[results,results61,go_sem, *],?_⟩;have Z:w.1.size<=w.1.size+1:=by omega
 have C:w.1.size<=w.1.size+1+1:=by omega
 refine⟨_,rfl,?_,qQb (xR (xR (zV HG.o none) Z _ _) C _ _)⟩;have hlo:=HO.o.lt;exact(qW2 (b':=w.1.size) HO.o (fun g hg=>by have:=(hlo g hg).1;omega)).kept (jM _ _ _ _) (by cases hv:(Value.slice I n' j).ownBlock with | none=>exact .inl rfl | some g=>exact .inr (fun e=>by injection e with e;have:=(hlo g hv).1;omega)) |>.kept (jM _ _ _ _) (by cases hv:(Value.slice I n' j).ownBlock with | none=>exact .inl rfl | some g=>exact .inr (fun e=>by injection e with e;have:=(hlo g hv).1;omega))
def qUv(ws:List (List UInt8)):List UInt8:=Lib.join ws [32]
theorem qWI(ws:List (List UInt8)):(ws.map fun x=>(⟨x.toArray⟩:ByteArray)).map (fun b=>b.data.toList)=ws:=by
 induction ws with
 | nil=>rfl
 | cons x r ih=>simp only[List.map_cons,ih]
theorem join_any{v:Value}{B:Nat}{ws:List (List UInt8)}{w:World}(h:w.ownsRow B 9 1 v ws.length (jT ws))(I:ws.length<=1000000000)(hl:(qUv ws).length<=140737488355328) :
 ∃ ao n s,v=.slice ao n s/\Calls prog 62 #[v, .string ⟨#[32]⟩] w fun e w'=>e=.returned (.string ⟨(qUv ws).toArray⟩)/\Below w.1.size w w':=by
 rcases h.2 with⟨rfl,C⟩ | ⟨g,s,A,rfl,_,hg,hc,_⟩
 ·obtain rfl:=List.length_eq_zero_iff.1 C;exact⟨_,_,_,rfl,(Tryz.strings_Join_none none 0 ⟨#[32]⟩ w).mono fun e w' hq=>⟨hq.1,by rw[hq.2];exact Below.refl _ _⟩⟩
 ·refine⟨_,_,_,rfl,?_⟩;have o:=h.cells (g:=g) rfl;have z:=Tryz.strings_Join g 0 s (ws.map fun x=>⟨x.toArray⟩) ⟨#[32]⟩ w (fun j x hx=>by
   rw[List.getElem?_map]at hx;obtain⟨y,G,rfl⟩:=Option.map_eq_some_iff.1 hx;have:=o j (.string ⟨y.toArray⟩) (by rw[jT,List.getElem?_map,G];rfl);rw[Lib.add_plain]at this;exact this) (qJ8 hg) (by rw[List.length_map];omega) (by rw[List.length_map];exact hc) (by rw[qWI];exact hl)
  rw[List.length_map,qWI]at z;exact z
def ShowPost(w:World)(ws:List (List UInt8))(e:Ending)(w':World):Prop :=
 e=.returned (.tuple #[.string ⟨(qUv ws).toArray⟩, .int .i64 0])/\Below w.1.size w w'
theorem qWB.below{w w':World}(h:qWB w)(hb:Below w.1.size w w'):qWB w':=⟨h.1.below hb,h.2.under hb h.2.lt⟩
theorem show_any(n:Nat)(t:qQ)(v:Value)(w:World)(ws:List (List UInt8))(h4:qWB w)(hL:xZ w (· < w.1.size) t v)(O:qZl t)(V:qQO n t=some ws)(j:ws.length<=1000000000)(hl:(qUv ws).length<=140737488355328) :
 Calls prog 44 #[qZ t v] w (ShowPost w ws):=by
 obtain⟨R,Y,rfl,_,_⟩:=hL.shape;have A:=(Below.refl w.1.size w).alloc (Nat.le_refl _) (.cells (qS t (.slice R t.kids.length Y)).toArray 57);have X:=hI (qLm n t _ (w.alloc (.cells (qS t (.slice R t.kids.length Y)).toArray 57)) ws (h4.below A) (xZ.move (fun g hg hok=>⟨(by simp;omega:g < _),A.block g hg⟩) t _ hL) O V j);have G:=hI A;clear h4 hL O V A;simp only[qS,qZ]at *;go_enter func44,ntmps44
 go_wp2_with fail
 refine(X.o).mono ?_;rintro e w1 ⟨v1,rfl,s,z⟩;obtain⟨ao,n1,Z,rfl,J⟩:=join_any s j hl;have U:=hI J;have C:=hI (G.o.trans (z.mono G.o.size));clear J s z X G;go_wp2_with fail
 refine(U.o).mono ?_;rintro e w2 ⟨rfl,y⟩;have I:=hI (C.o.trans (y.mono C.o.size));clear y U C;go_wp2
 go_ret2
 exact⟨rfl,I.o⟩
mutual
def kO:qQ->qQ->Bool
 | .mk k x n _ _ ks,b=>k == b.kind && (x == b.text && (n == b.num && xC ks b.kids))
def xC:List qQ->List qQ->Bool
 | [],us=>us.isEmpty
 | t :: ts,us=>match us with
  | []=>false
  | u :: us=>kO t u && xC ts us
end
mutual
def vZ:qQ->Nat
 | .mk _ _ _ _ _ ks=>qKn 0 ks+1
def qKn:Nat->List qQ->Nat
 | m,[]=>m
 | m,t :: ts=>qKn (max m (vZ t)) ts
end
theorem qX3:∀ (ts us:List qQ),xC ts us=true->ts.length=us.length
 | [],us,h=>by cases us with | nil=>rfl | cons u r=>simp[xC]at h
 | t :: ts,us,h=>by
  cases us with
  | nil=>simp[xC]at h
  | cons u r =>
   simp only[xC,bE]at h;simp[qX3 ts r h.2]
theorem qPt:∀ (ts:List qQ) (m:Nat),m<=qKn m ts
 | [],m=>by rw[qKn];exact Nat.le_refl _
 | t :: ts,m=>by
  rw[qKn];exact Nat.le_trans (Nat.le_max_left _ _) (qPt ts _)
theorem qPu:∀ {ts:List qQ} {t:qQ} (_:t∈ts) (m:Nat),vZ t<=qKn m ts
 | u :: ts,t,h,m=>by
  rw[qKn];rcases List.mem_cons.1 h with rfl | h
  ·exact Nat.le_trans (Nat.le_max_right _ _) (qPt ts _)
  ·exact qPu h _
 | [],_,h,_=>by simp at h
open Go
structure qWi where
 kind:Int
 text:List UInt8
 num:Int
def Tok.bare(t:Tok):qWi:=⟨t.kind,t.text,t.num⟩
def Res.bare:Res->Option (List qWi)
 | .bad _ _ _=>none
 | .ok l=>some (l.map Tok.bare)
theorem qWd(n:Nat)(l:List UInt8)(ln c j c':Int):(qQp n l ln c).1=(qQp n l j c').1:=by
 induction n generalizing l ln c j c' with
 | zero=>rfl
 | succ n ih =>
  rw[qQp,qQp];by_cases h:qQC l=0
  ·rw[if_pos h,if_pos h]
  ·rw[if_neg h,if_neg h];exact ih _ _ _ _ _
def strip(l:List UInt8):List UInt8:=(vO l 1 1).1
theorem skip_strip(l:List UInt8)(ln c:Int):(vO l ln c).1=strip l:=qWd _ _ _ _ _ _
theorem qVu(t:Tok)(x:Res):(x.cons t).bare=x.bare.map (t.bare :: ·):=by
 cases x <;> simp[Res.cons,Res.bare]
def qYO(l:List UInt8):qWi:=⟨vA l,l.take (zZ l),if vA l=1 then(qJg (l.take (zZ l))).getD 0 else 0⟩
theorem lexF_place(n:Nat)(l:List UInt8)(ln c j c':Int):(qJt n l ln c).bare=(qJt n l j c').bare:=by
 induction n generalizing l ln c j c' with
 | zero=>rfl
 | succ n ih =>
  rw[qJt,qJt];have e:=qWd l.length l ln c j c';generalize qQp l.length l ln c=s at *;generalize qQp l.length l j c'=s' at *;obtain⟨y,A,G⟩:=s;obtain⟨z,C,t3⟩:=s';simp only at e;subst e;by_cases o:y=[]
  ·simp[o,Res.bare,Tok.bare]
  ·by_cases h2:wK y=0
   ·simp only[if_neg o,if_pos h2];rw[qVu,qVu,ih];rfl
   ·simp[o,h2,Res.bare]
def qZp(l:List UInt8):Option (List qWi):=(qQD l 1 1).bare
theorem qLP(l:List UInt8)(ln c:Int):(qQD l ln c).bare=qZp l:=lexF_place _ _ _ _ _ _
theorem qKW(l:List UInt8):qZp l=if strip l=[]then some [⟨3,[],0⟩]else if wK (strip l)=0 then(qZp ((strip l).drop (zZ (strip l)))).map (qYO (strip l) :: ·)else none:=by
 conv=>lhs;unfold qZp;rw[qJe]
 rw[show(vO l 1 1).1=strip l from rfl];by_cases j:strip l=[]
 ·rw[if_pos j,if_pos j];rfl
 ·by_cases h2:wK (strip l)=0
  ·rw[if_neg j,if_neg j,if_pos h2,if_pos h2,qVu,qLP];rfl
  ·rw[if_neg j,if_neg j,if_neg h2,if_neg h2];rfl
theorem qYr{l:List UInt8}(h:qQC l=0):strip l=l:=by unfold strip;rw[qUw h]
theorem qYq{l:List UInt8}(h:¬qQC l=0):strip l=strip (l.drop (qQC l)):=by
 conv=>lhs;unfold strip;rw[skip_go h]
 exact skip_strip _ _ _
theorem qYX{b:UInt8}{l:List UInt8}(h:yK (b.toNat:Int)=true):Lib.hasPrefix (b :: l) cmt=false:=by
 unfold Lib.hasPrefix cmt;rw[List.isPrefixOf];have:((47:UInt8) == b)=false:=by
  rw[beq_eq_false_iff_ne];intro e;subst e;exact absurd h (by decide)
 rw[this];rfl
theorem qLe{b:UInt8}{l:List UInt8}(h:yK (b.toNat:Int)=true):strip (b :: l)=strip l:=by
 have hg:qQC (b :: l)=xQ yK l+1:=by
  unfold qQC;rw[qYX h,if_neg (by decide),xQ,if_pos h]
 rw[qYq (by omega),hg,List.drop_succ_cons];by_cases j:xQ yK l=0
 ·rw[j,List.drop_zero]
 ·cases l with
  | nil=>exact absurd rfl j
  | cons a r =>
   have o:yK (a.toNat:Int)=true:=by
    cases hb:yK (a.toNat:Int)with
    | true=>rfl
    | false=>rw[xQ,hb]at j;exact absurd rfl j
   have hg2:qQC (a :: r)=xQ yK (a :: r):=by
    unfold qQC;rw[qYX o,if_neg (by decide)]
   rw[qYq (l:=a :: r) (by omega),hg2]
theorem qLQ{l l':List UInt8}(h:strip l=strip l'):qZp l=qZp l':=by rw[qKW,qKW l',h]
theorem qLO{b:UInt8}{l:List UInt8}(h:yK (b.toNat:Int)=true):qZp (b :: l)=qZp l:=qLQ (qLe h)
theorem gap_ink{b:UInt8}{l:List UInt8}(h:yK (b.toNat:Int)=false)(hc:Lib.hasPrefix (b :: l) cmt=false):qQC (b :: l)=0:=by
 unfold qQC;rw[hc,if_neg (by decide),xQ,h];rfl
theorem bare_tok{b:UInt8}{l:List UInt8}(h:yK (b.toNat:Int)=false)(hc:Lib.hasPrefix (b :: l) cmt=false) :
 qZp (b :: l)=if wK (b :: l)=0 then(qZp ((b :: l).drop (zZ (b :: l)))).map (qYO (b :: l) :: ·)else none:=by
 rw[qKW,qYr (gap_ink h hc),if_neg (by simp)]
theorem qYK{b:UInt8}{z:List UInt8}(g s:List UInt8)(hg:b∉g):Lib.hasPrefix (s++b :: z) g=Lib.hasPrefix s g:=by
 unfold Lib.hasPrefix;induction g generalizing s with
 | nil=>simp
 | cons a r ih =>
  cases s with
  | nil =>
   have:(a == b)=false:=by
    rw[beq_eq_false_iff_ne];intro e;subst e;exact hg (by simp)
   show((a == b) && r.isPrefixOf z)=false
   rw[this];rfl
  | cons c t =>
   rw[lC,List.isPrefixOf,List.isPrefixOf,ih t (fun h=>hg (by simp[h]))]
theorem qVW{b:UInt8}(h:yK (b.toNat:Int)=true):b=32\/b=9\/b=13\/b=10:=by
 unfold yK at h;have h:=of_decide_eq_true h;have e:∀ n:Nat,n < 256->(b.toNat:Int)=(n:Int)->b=UInt8.ofNat n:=fun n hn he=>by
  apply UInt8.toNat_inj.mp;rw[UInt8.toNat_ofNat'];omega
 rcases h with h | h | h | h
 ·exact .inl (e 32 (by decide) h)
 ·exact .inr (.inl (e 9 (by decide) h))
 ·exact .inr (.inr (.inl (e 13 (by decide) h)))
 ·exact .inr (.inr (.inr (e 10 (by decide) h)))
theorem qLc{b:UInt8}(h:yK (b.toNat:Int)=true):∀ g∈qQv,b∉g:=by
 rcases qVW h with rfl | rfl | rfl | rfl <;> decide
theorem qLS{b:UInt8}{z:List UInt8}(h:yK (b.toNat:Int)=true):xQ qQZ (b :: z)=0:=by
 rcases qVW h with rfl | rfl | rfl | rfl <;> rfl
theorem qLA{ks:List qQ}(h:∀ t∈ks,kO t t=true):xC ks ks=true:=by
 induction ks with
 | nil=>simp[xC]
 | cons t r ih=>simp[xC,h t (by simp),ih (fun u hu=>h u (by simp[hu]))]
theorem zR{k x s o:List UInt8}{n l c n' l' c':Int}{ks j:List qQ}(y:k=s)(h2:x=o)(h3:n=n')(h4:xC ks j=true):kO (.mk k x n l c ks) (.mk s o n' l' c' j)=true:=by
 subst y h2 h3;simp[kO,qQ.kind,qQ.text,qQ.num,qQ.kids,h4]
theorem jN{a b:qQ}(h:kO a b=true):a.kind=b.kind/\a.text=b.text/\a.num=b.num/\xC a.kids b.kids=true:=by
 cases a;simp only[kO,bE,beq_iff_eq]at h;exact⟨h.1,h.2.1,h.2.2.1,h.2.2.2⟩
theorem yL:xC [] []=true:=by simp[xC]
theorem jC{t u:qQ}(h:kO t u=true):xC [t] [u]=true:=by simp[xC,h]
theorem qZi{t u j o:qQ}(h:kO t u=true)(s:kO j o=true):xC [t,j] [u,o]=true:=by simp[xC,h,s]
theorem wA:∀ {a b a' b':List qQ},xC a b=true->xC a' b'=true->xC (a++a') (b++b')=true
 | [],b,a',b',h,h'=>by
  cases b with
  | nil=>exact h'
  | cons u r=>simp[xC]at h
 | t :: r,b,a',b',h,h'=>by
  cases b with
  | nil=>simp[xC]at h
  | cons u s =>
   simp only[xC,bE,lC]at h ⊢;exact⟨h.1,wA h.2 h'⟩
def Al(l l':List Tok):Prop:=l.map Tok.bare=l'.map Tok.bare
def qKy(t t':Tok):Prop:=t.bare=t'.bare
def xN(a b:qQ):Prop:=kO a b=true
def qYQ(a b:List qQ):Prop:=xC a b=true
theorem qKy.kind{t j:Tok}(h:qKy t j):t.kind=j.kind:=congrArg qWi.kind h
theorem qKy.text{t j:Tok}(h:qKy t j):t.text=j.text:=congrArg qWi.text h
theorem qKy.num{t j:Tok}(h:qKy t j):t.num=j.num:=congrArg qWi.num h
theorem Al.hd{l l':List Tok}(h:Al l l'):qKy (hdT l) (hdT l'):=by
 unfold Al at h;cases l with
 | nil =>
  cases l' with
  | nil=>rfl
  | cons t r=>simp at h
 | cons t r =>
  cases l' with
  | nil=>simp at h
  | cons t' r' =>
   simp only[List.map_cons,List.cons.injEq]at h;exact h.1
def zJ{α:Type}(S:α->α->Prop):PR α->PR α->Prop
 | .ok a l, .ok b l'=>S a b/\Al l l'
 | .bad _ _ c, .bad _ _ c'=>c=c'
 | .out, .out=>True
 | _,_=>False
section
variable {α β:Type} {S:α->α->Prop} {T:β->β->Prop}
theorem zJ.ok{a b:α}{l l':List Tok}(h:S a b)(j:Al l l'):zJ S (.ok a l) (.ok b l'):=⟨h,j⟩
theorem zJ.bind{p j:PR α}{f o:α->List Tok->PR β}(h:zJ S p j)(hf:∀ a b l l',S a b->Al l l'->zJ T (f a l) (o b l')):zJ T (p.bind f) (j.bind o):=by
 cases p with
 | ok a l =>
  cases j with
  | ok b l'=>exact hf a b l l' h.1 h.2
  | bad _ _ _=>exact h.elim
  | out=>exact h.elim
 | bad x y c =>
  cases j with
  | ok b l'=>exact h.elim
  | bad _ _ _=>exact h
  | out=>exact h.elim
 | out =>
  cases j with
  | ok b l'=>exact h.elim
  | bad _ _ _=>exact h.elim
  | out=>trivial
theorem zJ.ite{b b':Bool}{p q o j:PR α}(hb:b=b')(s:zJ S p o)(h2:zJ S q j):zJ S (if b=true then p else q) (if b'=true then o else j):=by
 subst hb;cases b
 ·exact h2
 ·exact s
end
theorem qW6(code:Int)(l l':List Tok):zJ xN (qWQ code l) (qWQ code l'):=rfl
theorem xS{o j:Bool}{l l':List Tok}(hm:o=j)(h:Al l l'):zJ qKy (jV o l) (jV j l'):=by
 subst hm;unfold Al at h;cases l with
 | nil =>
  cases l' with
  | nil=>rfl
  | cons t r=>simp at h
 | cons t r =>
  cases l' with
  | nil=>simp at h
  | cons t' r' =>
   simp only[List.map_cons,List.cons.injEq]at h;cases o
   ·rfl
   ·exact⟨h.1,h.2⟩
def UnitE(_ _:Unit):Prop:=True
theorem Al.text{l l':List Tok}(h:Al l l')(x:List UInt8):((hdT l).text == x)=((hdT l').text == x):=by rw[h.hd.text]
theorem Al.kind{l l':List Tok}(h:Al l l')(x:Int):((hdT l).kind == x)=((hdT l').kind == x):=by rw[h.hd.kind]
theorem Al.name{l l':List Tok}(h:Al l l'):kR (hdT l)=kR (hdT l'):=by unfold kR;rw[h.hd.kind,h.hd.text]
theorem Al.type{l l':List Tok}(h:Al l l'):yG (hdT l).text=yG (hdT l').text:=by rw[h.hd.text]
theorem zQ:∀ (xs:List (List UInt8)) {l l':List Tok},Al l l'->zJ UnitE (jL xs l) (jL xs l')
 | [],_,_,h=>⟨trivial,h⟩
 | x :: xs,_,_,h=>(xS (h.text x) h).bind fun _ _ _ _ _ h'=>zQ xs h'
theorem vJ{d:Int}{p j:Int->List Tok->PR qQ}{l l':List Tok}(h:zJ xN (p (d+1) l) (j (d+1) l')):zJ xN (xX d p l) (xX d j l'):=by
 unfold xX;by_cases hd:d=60
 ·rw[if_pos hd,if_pos hd];exact qW6 _ _ _
 ·rw[if_neg hd,if_neg hd];exact h
theorem qZA{stop:Tok->Bool}{p o:List Tok->PR qQ}(hs:∀ {t t'},qKy t t'->stop t=stop t')(hp:∀ {l l'},Al l l'->zJ xN (p l) (o l')):∀ (n:Nat) {acc j:List qQ} {l l':List Tok},qYQ acc j->Al l l'->zJ qYQ (vI stop p n acc l) (vI stop o n j l')
 | 0,_,_,_,_,_,_=>trivial
 | n+1,acc,j,l,l',ha,h=>by
  rw[vI,vI];exact zJ.ite (hs h.hd) (zJ.ok ha h) ((hp h).bind fun _ _ _ _ ht h'=>qZA hs hp n (wA ha (jC ht)) h')
theorem qQc{kind:List UInt8}{o j:Bool}(hv:o=j){l l':List Tok}(h:Al l l'):zJ xN (zG kind o l) (zG kind j l') :=
 (xS (by rw[hv,h.type]) h).bind fun _ _ _ _ ht h1=>(xS h1.name h1).bind fun _ _ _ _ hu h2=>zJ.ok (zR rfl hu.text rfl (jC (zR rfl ht.text rfl yL))) h2
theorem qXv{l l':List Tok}(h:Al l l'):zJ xN (wQ l) (wQ l'):=(xS (h.kind 1) h).bind fun _ _ _ _ ht h1=>zJ.ok (zR rfl rfl ht.num yL) h1
theorem qXu{n:Nat}{p j:List Tok->PR qQ}(hp:∀ {l l'},Al l l'->zJ xN (p l) (j l')){l l':List Tok}(h:Al l l'):zJ qYQ (xT n p l) (xT n j l'):=by
 unfold xT;refine(zQ [[40]] h).bind fun _ _ l1 l1' _ h1=>?_
 refine zJ.ite (h1.text [41]) ((zQ [[41]] h1).bind fun _ _ _ _ _ h2=>zJ.ok yL h2) ?_;refine(hp h1).bind fun _ _ _ _ ht h2=>?_
 refine(qZA (fun ht=>by rw[ht.text]) (fun hl=>(zQ [[44]] hl).bind fun _ _ _ _ _ h3=>hp h3) n (jC ht) h2).bind fun _ _ _ _ hts h3=>?_
 exact(zQ [[41]] h3).bind fun _ _ _ _ _ h4=>zJ.ok hts h4
section
variable {rec:NT->Int->List Tok->PR qQ} {n:Nat}
def qZa(rec:NT->Int->List Tok->PR qQ):Prop:=∀ x d {l l':List Tok},Al l l'->zJ xN (rec x d l) (rec x d l')
theorem qXw(H:qZa rec)(d:Int){l l':List Tok}(h:Al l l'):zJ xN (xF rec d l) (xF rec d l'):=by
 unfold xF;refine(xS h.name h).bind fun _ _ _ _ ht h1=>?_
 refine zJ.ite (h1.text [91]) ((zQ [[91]] h1).bind fun _ _ _ _ _ h2=>(vJ (H (.binary 0) (d+1) h2)).bind fun _ _ _ _ he h3=>(zQ [[93]] h3).bind fun _ _ _ _ _ h4=>zJ.ok (zR rfl ht.text rfl (jC he)) h4) ?_;exact zJ.ok (zR rfl ht.text rfl yL) h1
theorem qVL(H:qZa rec)(d:Int){l l':List Tok}(h:Al l l'):zJ xN (yJ rec d l) (yJ rec d l'):=by
 unfold yJ;refine(xS (h.text [40]) h).bind fun _ _ _ _ ht h1=>?_
 refine zJ.ite h1.type ((xS rfl h1).bind fun _ _ _ _ hu h2=>(zQ [[41]] h2).bind fun _ _ _ _ _ h3=>(vJ (H .operand (d+1) h3)).bind fun _ _ _ _ he h4=>zJ.ok (zR rfl hu.text rfl (jC he)) h4) ?_;exact(vJ (H (.binary 0) (d+1) h1)).bind fun _ _ _ _ he h2=>(zQ [[41]] h2).bind fun _ _ _ _ _ h3=>zJ.ok he h3
theorem qJR(H:qZa rec)(d:Int){l l':List Tok}(h:Al l l'):zJ xN (jU rec d l) (jU rec d l'):=by
 unfold jU;refine zJ.ite (h.kind 1) (qXv h) ?_;refine zJ.ite (by rw[h.hd.text]) ((xS rfl h).bind fun _ _ _ _ hu h1=>zJ.ok (zR hu.text rfl rfl yL) h1) ?_;refine zJ.ite (by rw[h.hd.text]) ((xS rfl h).bind fun _ _ _ _ hu h1=>(vJ (H .operand (d+1) h1)).bind fun _ _ _ _ he h2=>zJ.ok (zR rfl hu.text rfl (jC he)) h2) ?_;exact zJ.ite (h.text [40]) (qVL H d h) (qXw H d h)
theorem qZR(H:qZa rec)(k d:Int):∀ (m:Nat) {left j:qQ} {l l':List Tok},xN left j->Al l l'->zJ xN (kX rec k d m left l) (kX rec k d m j l')
 | 0,_,_,_,_,_,_=>trivial
 | m+1,left,j,l,l',hl,h=>by
  rw[kX,kX,h.hd.text];by_cases o:xL (hdT l').text < k
  ·rw[if_pos o,if_pos o];exact zJ.ok hl h
  ·rw[if_neg o,if_neg o];exact(xS rfl h).bind fun _ _ _ _ ht h1=>(H _ d h1).bind fun _ _ _ _ hr h2=>qZR H k d m (zR rfl ht.text rfl (qZi hl hr)) h2
theorem qKL(H:qZa rec)(k d:Int){l l':List Tok}(h:Al l l'):zJ xN (qQy rec n k d l) (qQy rec n k d l'):=by
 unfold qQy;exact(H .operand d h).bind fun _ _ _ _ he h1=>qZR H k d n he h1
theorem qZz(H:qZa rec)(d:Int){l l':List Tok}(h:Al l l'):zJ xN (qQh rec d l) (qQh rec d l'):=H (.binary 0) d h
theorem qJQ(H:qZa rec)(d:Int){l l':List Tok}(h:Al l l'):zJ xN (qQz rec n d l) (qQz rec n d l'):=by
 unfold qQz;exact(xS h.name h).bind fun _ _ _ _ ht h1=>(qXu (fun hl=>vJ (H (.binary 0) (d+1) hl)) h1).bind fun _ _ _ _ hts h2=>zJ.ok (zR rfl ht.text rfl hts) h2
theorem Al.call{l l':List Tok}(h:Al l l'):qQR l=qQR l':=by
 unfold Al at h;match l,l',h with
 | [],[],_=>rfl
 | [],_ :: _,h=>simp at h
 | _ :: _,[],h=>simp at h
 | [t],[t'],_=>rfl
 | [t],_ :: _ :: _,h=>simp at h
 | _ :: _ :: _,[t],h=>simp at h
 | t :: u :: r,t' :: u' :: r',h =>
  simp only[List.map_cons,List.cons.injEq]at h;have j:qKy t t':=h.1;have h2:qKy u u':=h.2.1;show(kR t && u.text == [40])=(kR t' && u'.text == [40])
  unfold kR;rw[j.kind,j.text,h2.text]
theorem qKK(H:qZa rec)(d:Int){l l':List Tok}(h:Al l l'):zJ xN (jJ rec n d l) (jJ rec n d l'):=by
 unfold jJ;refine zJ.ite h.call ((qJQ H d h).bind fun _ _ _ _ ht h1=>(zQ [[59]] h1).bind fun _ _ _ _ _ h2=>zJ.ok ht h2) ?_;refine(qXw H d h).bind fun _ _ _ _ hx h1=>(zQ [[61]] h1).bind fun _ _ _ _ _ h2=>?_
 refine zJ.ite (h2.text qW) ((zQ [qW,[40],[41]] h2).bind fun _ _ _ _ _ h3=>(zQ [[59]] h3).bind fun _ _ _ _ _ h4=>zJ.ok (zR rfl rfl rfl (jC hx)) h4) ?_;refine zJ.ite h2.call ((qJQ H d h2).bind fun _ _ _ _ hy h3=>(zQ [[59]] h3).bind fun _ _ _ _ _ h4=>zJ.ok (zR rfl rfl rfl (qZi hx hy)) h4) ?_;exact(qZz H d h2).bind fun _ _ _ _ hy h3=>(zQ [[59]] h3).bind fun _ _ _ _ _ h4=>zJ.ok (zR rfl rfl rfl (qZi hx hy)) h4
theorem qVI(H:qZa rec)(d:Int){l l':List Tok}(h:Al l l'):zJ xN (kL rec d l) (kL rec d l'):=by
 unfold kL;exact(xS rfl h).bind fun _ _ _ _ ht h1=>(zQ [[40]] h1).bind fun _ _ _ _ _ h2=>(qZz H d h2).bind fun _ _ _ _ he h3=>(zQ [[41],[59]] h3).bind fun _ _ _ _ _ h4=>zJ.ok (zR ht.text rfl rfl (jC he)) h4
theorem qVJ(H:qZa rec)(d:Int){l l':List Tok}(h:Al l l'):zJ xN (yC rec d l) (yC rec d l'):=by
 unfold yC;refine(zQ [qV] h).bind fun _ _ _ _ _ h1=>?_
 refine zJ.ite (h1.text [59]) ((zQ [[59]] h1).bind fun _ _ _ _ _ h2=>zJ.ok (zR rfl rfl rfl yL) h2) ?_;exact(qZz H d h1).bind fun _ _ _ _ he h2=>(zQ [[59]] h2).bind fun _ _ _ _ _ h3=>zJ.ok (zR rfl rfl rfl (jC he)) h3
theorem qZS(H:qZa rec)(word:List UInt8)(d:Int){l l':List Tok}(h:Al l l'):zJ xN (jK rec word d l) (jK rec word d l'):=by
 unfold jK;exact(zQ [word,[40]] h).bind fun _ _ _ _ _ h1=>(qZz H d h1).bind fun _ _ _ _ he h2=>(zQ [[41]] h2).bind fun _ _ _ _ _ h3=>(vJ (H .block (d+1) h3)).bind fun _ _ _ _ hb h4=>zJ.ok (zR rfl rfl rfl (qZi he hb)) h4
theorem qKM(H:qZa rec)(d:Int){l l':List Tok}(h:Al l l'):zJ xN (vF rec d l) (vF rec d l'):=by
 unfold vF;refine(qZS H kIf d h).bind fun t t' _ _ ht h1=>?_
 refine zJ.ite (h1.text zS) ((zQ [zS] h1).bind fun _ _ _ _ _ h2=>(vJ (H .block (d+1) h2)).bind fun _ _ _ _ hb h3=>zJ.ok ?_ h3) (zJ.ok ht h1);obtain⟨o,e2,e3,j⟩:=jN ht;exact zR o e2 e3 (wA j (jC hb))
theorem qVK{l l':List Tok}(h:Al l l'):zJ xN (qQM l) (qQM l'):=(qQc rfl h).bind fun _ _ _ _ ht h1=>(zQ [[59]] h1).bind fun _ _ _ _ _ h2=>zJ.ok ht h2
theorem qW8(H:qZa rec)(d:Int){l l':List Tok}(h:Al l l'):zJ xN (qQA rec n d l) (qQA rec n d l'):=by
 unfold qQA;refine zJ.ite (h.text kIf) (qKM H d h) ?_;refine zJ.ite (h.text qA) (qZS H qA d h) ?_;refine zJ.ite (h.text qV) (qVJ H d h) ?_;refine zJ.ite (by rw[h.hd.text]) (qVI H d h) ?_;exact zJ.ite h.type (qVK h) (qKK H d h)
theorem qVH(H:qZa rec)(d:Int){l l':List Tok}(h:Al l l'):zJ xN (qQK rec n d l) (qQK rec n d l'):=by
 unfold qQK;refine(zQ [[123]] h).bind fun _ _ _ _ _ h1=>?_
 exact(qZA (fun ht=>by rw[ht.text]) (fun hl=>qW8 H d hl) n yL h1).bind fun _ _ _ _ hts h2=>(zQ [[125]] h2).bind fun _ _ _ _ _ h3=>zJ.ok (zR rfl rfl rfl hts) h3
end
theorem qXb:∀ n,qZa (qQd n)
 | 0=>fun _ _ _ _ _=>trivial
 | n+1=>fun x d l l' h=>by
  cases x with
  | block=>exact qVH (qXb n) d h
  | binary k=>exact qKL (qXb n) k d h
  | operand=>exact qJR (qXb n) d h
theorem qW7(n:Nat){l l':List Tok}(h:Al l l'):zJ xN (qZe n l) (qZe n l'):=by
 unfold qZe;refine(qQc (h.text zA) h).bind fun t t' l1 l1' ht h1=>?_
 obtain⟨o,e2,e3,j⟩:=jN ht;refine zJ.ite (by rw[h.hd.text,h1.hd.text]) ((qXu (fun hl=>qQc rfl hl) h1).bind fun _ _ _ _ hps h2=>(vJ (qXb n .block (0+1) h2)).bind fun _ _ _ _ hb h3=>zJ.ok (zR rfl e2 e3 (wA (wA j hps) (jC hb))) h3) ?_;refine zJ.ite (h1.text [91]) ((zQ [[91]] h1).bind fun _ _ _ _ _ h2=>(qXv h2).bind fun _ _ _ _ hm h3=>(zQ [[93]] h3).bind fun _ _ _ _ _ h4=>(zQ [[59]] h4).bind fun _ _ _ _ _ h5=>zJ.ok (zR o e2 e3 (wA j (jC hm))) h5) ?_;exact(zQ [[59]] h1).bind fun _ _ _ _ _ h2=>zJ.ok ht h2
theorem rel_program(n:Nat){l l':List Tok}(h:Al l l'):zJ xN (xW n l) (xW n l'):=by
 unfold xW;exact(qZA (fun ht=>by rw[ht.kind]) (fun hl=>qW7 n hl) n yL h).bind fun _ _ _ _ hts h1=>zJ.ok (zR rfl rfl rfl hts) h1
def T(w:List UInt8):Tok:=⟨vA w,w,if vA w=1 then(qJg w).getD 0 else 0,0,0⟩
section
variable {α β:Type} {D:Prop} {S:α->Prop} {S':β->Prop} {l l':List Tok}
end
/-! ### Words -/
theorem name_parts{x:List UInt8}(h:jH x=true):∃ b r,x=b :: r/\qZx b.toNat=true/\qWm x=false:=by
 unfold jH at h;cases x with
 | nil=>simp at h
 | cons b r =>
  simp only[qQ0,bE,Bool.or_eq_true,Bool.not_eq_true',beq_iff_eq]at h;refine⟨b,r,rfl,?_,h.2.2⟩;rcases h.1.1 with h1 | h1
  ·exact h1
  ·simp at h1
theorem type_in{x:List UInt8}(h:yG x=true):x∈qQw:=by
 have:∀ (L:List (List UInt8)),kJ x L=true->x∈L:=by
  intro L;induction L with
  | nil=>intro h;simp[kJ]at h
  | cons g r ih =>
   intro h;rw[kJ]at h;by_cases j:g=x
   ·simp[j]
   ·rw[if_neg j]at h;simp[ih h]
 exact this _ h
theorem qKE(k:Nat)(h:k < 10):(UInt8.ofNat (48+k)).toNat=48+k:=by
 rw[UInt8.toNat_ofNat'];omega
theorem qUI(u:Nat):∀ b∈Lib.decDigits u,48<=b.toNat/\b.toNat<=57:=by
 induction u using Nat.strongRecOn with
 | _ u ih =>
  intro b hb;rw[Lib.decDigits]at hb;by_cases h:u < 10
  ·rw[dif_pos h]at hb;obtain rfl:b=UInt8.ofNat (48+u):=by simpa using hb
   rw[qKE u h];omega
  ·rw[dif_neg h]at hb;rcases List.mem_append.1 hb with hb | hb
   ·exact ih (u / 10) (by omega) b hb
   ·obtain rfl:b=UInt8.ofNat (48+u % 10):=by simpa using hb
    rw[qKE _ (by omega)];omega
theorem dec_ne(u:Nat):Lib.decDigits u≠[]:=by
 rw[Lib.decDigits];by_cases h:u < 10
 ·rw[dif_pos h];simp
 ·rw[dif_neg h];simp
theorem qPr(u:Nat):∃ b r,Lib.decDigits u=b :: r/\48<=b.toNat/\b.toNat<=57:=by
 cases h:Lib.decDigits u with
 | nil=>exact absurd h (dec_ne u)
 | cons b r=>exact⟨b,r,rfl,qUI u b (by rw[h];simp)⟩
theorem num_app:∀ (l:List UInt8) (acc:Int) (b:UInt8),xJ 10 acc (l++[b])=(xJ 10 acc l).bind fun a=>xJ 10 a [b]
 | [],acc,b=>by simp[xJ]
 | c :: r,acc,b=>by
  rw[lC,xJ,xJ];split
  ·rfl
  ·exact num_app r _ b
theorem dig_of(k:Nat)(h:k < 10):qQa ((UInt8.ofNat (48+k)).toNat:Int)=k:=by
 rw[qKE k h];unfold qQa;rw[if_pos (by omega)];omega
theorem num_one(k:Nat)(h:k < 10)(a:Int)(j:a * 10+k<=18446744073709551615):xJ 10 a [UInt8.ofNat (48+k)]=some (a * 10+k):=by
 rw[xJ,dig_of k h,if_neg (by omega),xJ]
theorem dec_from(u:Nat)(j:u<=18446744073709551615):xJ 10 0 (Lib.decDigits u)=some (u:Int):=by
 induction u using Nat.strongRecOn with
 | _ u ih =>
  rw[Lib.decDigits];by_cases h:u < 10
  ·rw[dif_pos h,num_one u h 0 (by omega)];simp
  ·rw[dif_neg h,num_app,ih (u / 10) (by omega) (by omega),Option.bind_some,num_one (u % 10) (by omega) _ (by omega)];congr 1
   omega
theorem dec_hex(u:Nat):Lib.hasPrefix (Lib.decDigits u) qWl=false:=by
 cases h:Lib.decDigits u with
 | nil=>rfl
 | cons b r =>
  cases r with
  | nil=>cases j:Lib.hasPrefix [b] qWl with
   | false=>rfl
   | true=>simp[Lib.hasPrefix,qWl]at j
  | cons c r =>
   have hc:=qUI u c (by rw[h];simp);cases j:Lib.hasPrefix (b :: c :: r) qWl with
   | false=>rfl
   | true =>
    exfalso;simp[Lib.hasPrefix,qWl]at j;obtain⟨o,h2⟩:=j;subst h2;revert hc
    decide
theorem dec_num(u:Nat)(j:u<=18446744073709551615):qJg (Lib.decDigits u)=some (u:Int):=by
 rw[qJg,if_neg (by rw[dec_hex];simp),if_neg (dec_ne u),dec_from u j]
theorem dec_kind(u:Nat):vA (Lib.decDigits u)=1:=by
 obtain⟨b,r,e,j,h2⟩:=qPr u;rw[e,vA];have hl:qZx (b.toNat:Int)=false:=by unfold qZx;simp;omega
 have hd:qQa (b.toNat:Int) < 10:=by unfold qQa;rw[if_pos (by omega)];omega
 rw[hl,if_neg (by simp),if_pos hd]
structure HeadE(w:List UInt8):Prop where
 type:yG w=false
 paren:w≠[41]
 nondet:w≠qW
 semi:w≠[59]
theorem qLj{x:List UInt8}(h:qXD x=true):x=[33]\/x=[126]\/x=[45]:=by
 simp only[qXD,Bool.or_eq_true,beq_iff_eq]at h;rcases h with(h | h) | h <;> simp[h]
theorem head_lit{w:List UInt8}(h:(yG w || (w == [41] || (w == qW || w == [59])))=false):HeadE w:=by
 simp only[Bool.or_eq_false_iff,beq_eq_false_iff_ne]at h;exact⟨h.1,h.2.1,h.2.2.1,h.2.2.2⟩
theorem op_in{x:List UInt8}(h:0<=xL x):x∈[[124,124],[38,38],[124],[94],[38],[61,61],[33,61],[60],[60,61],[62],[62,61],[60,60],[62,62],[43],[45],[42],[47],[37]]:=by
 by_cases hc:([[124,124],[38,38],[124],[94],[38],[61,61],[33,61],[60],[60,61],[62],[62,61],[60,60],[62,62],[43],[45],[42],[47],[37]]:List (List UInt8)).contains x=true
 ·simpa using hc
 ·exfalso;simp only[Bool.not_eq_true,List.contains_cons,List.contains_nil,bP,Bool.or_eq_false_iff]at hc;obtain⟨J,I,h2,h3,h4,V,O,X,R,U,y,z,j,G,A,s,C,o⟩:=hc;have:xL x=-1:=by simp only[xL,jG,xE,List.contains_cons,List.contains_nil,bP,J,I,h2,h3,h4,V,O,X,R,U,y,z,j,G,A,s,C,o,bF,if_false,reduceIte,Bool.or_self]
  omega
/-! ### The writer at a node that is spelled out -/
section
variable (rec:WT->qQ->Ws) (k x:List UInt8) (m ln co:Int) (ks:List qQ)
theorem qWZ:qZy (.mk k x m ln co ks)=ifW (k == zD && (x == [] && ks.length == 0)) (some [Lib.decDigits m.toNat]):=rfl
theorem qKN:wU rec (.mk k x m ln co ks)=if k == qL then
 match ks with
 | [e]=>ifW (jH x && m == 0) (jD (some [x,[91]]) (jD (rec .expr e) (some [[93]])))
 | _=>none
 else ifW (k == zM && (jH x && m == 0) && ks.length == 0) (some [x]):=rfl
theorem qX0:qY7 rec (.mk k x m ln co ks)=if k == qM then
 match ks with
 | [a,b]=>ifW (decide (0<=xL x) && m == 0) (jD (wZ rec a) (jD (some [x]) (wZ rec b)))
 | _=>none
 else if k == qT then
  match ks with
  | [a]=>ifW (qXD x && m == 0) (jD (some [x]) (wZ rec a))
  | _=>none
 else if k == zK then
  match ks with
  | [a]=>ifW (yG x && m == 0) (jD (some [[40],x,[41]]) (wZ rec a))
  | _=>none
 else if k == zL || k == qH then ifW ((x == [] && m == 0) && ks.length == 0) (some [k])
 else if k == zD then qZy (.mk k x m ln co ks)
 else wU rec (.mk k x m ln co ks):=rfl
theorem qWJ:qKY rec (.mk k x m ln co ks)=ifW (k == zW && (jH x && m == 0)) (jD (some [x,[40]]) (jD (wO (rec .expr) ks) (some [[41]]))):=rfl
theorem qJH:qQi rec (.mk k x m ln co ks)=match ks with
 | e :: b :: _=>jD (some [k,[40]]) (jD (rec .expr e) (jD (some [[41]]) (rec .block b)))
 | _=>none:=rfl
theorem qJb:qK0 rec (.mk k x m ln co ks)=ifW (x == [] && m == 0) (match ks with
 | [_,_]=>qQi rec (.mk k x m ln co ks)
 | [_,_,c]=>jD (qQi rec (.mk k x m ln co ks)) (jD (some [zS]) (rec .block c))
 | _=>none):=rfl
theorem qK7:qPF rec (.mk k x m ln co ks)=ifW (x == [] && m == 0) (match ks with
 | [y]=>ifW (k == qW) (jD (wU rec y) (some [[61],qW,[40],[41]]))
 | [y,z]=>if k == qP then jD (wU rec y) (jD (some [[61]]) (rec .expr z))else ifW (k == qN) (jD (wU rec y) (jD (some [[61]]) (qKY rec z)))
 | _=>none):=rfl
theorem qUJ(j:Bool):vY j (.mk k x m ln co ks)=match ks with
 | u :: _=>ifW (u.kind == zB && (u.num == 0 && u.kids.length == 0) && (yG u.text || j && u.text == zA)) (some [u.text,x])
 | []=>none:=rfl
theorem paramW_mk:qZ1 (.mk k x m ln co ks)=ifW (k == qO && (jH x && m == 0) && ks.length == 1) (vY false (.mk k x m ln co ks)):=rfl
theorem wX:qJr rec (.mk k x m ln co ks)=if k == kIf then qK0 rec (.mk k x m ln co ks)
 else if k == qA then ifW ((x == [] && m == 0) && ks.length == 2) (qQi rec (.mk k x m ln co ks))
 else if k == qE then ifW ((jH x && m == 0) && ks.length == 1) (qQn (vY false (.mk k x m ln co ks)))
 else if k == zW then qQn (qKY rec (.mk k x m ln co ks))
 else if k == qV then ifW ((x == [] && m == 0) && decide (ks.length<=1)) (qQn (jD (some [qV]) (wO (rec .expr) ks)))
 else if k == qF || k == qD then
  match ks with
  | [e]=>ifW (x == [] && m == 0) (qQn (jD (some [k,[40]]) (jD (rec .expr e) (some [[41]]))))
  | _=>none
 else qQn (qPF rec (.mk k x m ln co ks)):=rfl
theorem qYY:qVv rec (.mk k x m ln co ks)=ifW (k == zX && (x == [] && m == 0)) (jD (some [[123]]) (jD (qZP (qJr rec) ks) (some [[125]]))):=rfl
theorem qK6:kA rec (.mk k x m ln co ks)=match ks with
 | _ :: v :: r=>ifW (jH x && m == 0) (jD (vY true (.mk k x m ln co ks)) (jD (some [[40]]) (jD (wO qZ1 ((v :: r).dropLast)) (jD (some [[41]]) (rec .block ((v :: r).getLast (List.cons_ne_nil v r)))))))
 | _=>none:=rfl
theorem qKF:qXa (.mk k x m ln co ks)=ifW (k == qG && (jH x && m == 0)) (match ks with
 | [_]=>qQn (vY false (.mk k x m ln co ks))
 | [_,n]=>qQn (jD (vY false (.mk k x m ln co ks)) (jD (some [[91]]) (jD (qZy n) (some [[93]]))))
 | _=>none):=rfl
theorem qV9(n:Nat):qQO n (.mk k x m ln co ks)=ifW (k == qY && (x == [] && m == 0)) (qZP (fun k=>if k.kind == qC then kA (qZB n) k else qXa k) ks):=rfl
end
open Go.RowKit
def qJv:List (ByteArray×Int×Bool):=[(⟨#[98,111,111,108]⟩,1,false),(⟨#[117,56]⟩,8,false),(⟨#[117,49,54]⟩,16,false),(⟨#[117,51,50]⟩,32,false),(⟨#[117,54,52]⟩,64,false),
 (⟨#[105,56]⟩,8,true),(⟨#[105,49,54]⟩,16,true),(⟨#[105,51,50]⟩,32,true),(⟨#[105,54,52]⟩,64,true)]
def tN(i:Nat):ByteArray:=(qJv.getD i (⟨#[]⟩,0,false)).1
def tW(i:Nat):Int:=(qJv.getD i (⟨#[]⟩,0,false)).2.1
def tS(i:Nat):Bool:=(qJv.getD i (⟨#[]⟩,0,false)).2.2
structure qZo(b off cap:Nat)(w:World):Prop where
 tg:w.cell? ⟨4,0,none⟩=some (.slice (some ⟨b,off,none⟩) 9 cap)
 tn:∀ i,i < 9->w.cell? ⟨b,off+i * 3,none⟩=some (.string (tN i))
 tw:∀ i,i < 9->w.cell? ⟨b,off+i * 3+1,none⟩=some (.int .i64 (tW i))
 ts:∀ i,i < 9->w.cell? ⟨b,off+i * 3+2,none⟩=some (.bool (tS i))
theorem qZo.below{b o j:Nat}{w w':World}(h:qZo b o j w)(hb:Below w.1.size w w'):qZo b o j w' :=
 ⟨kP hb h.tg,fun i hi=>(hb.cell (qJ (h.tn i hi))).trans (h.tn i hi),fun i hi=>(hb.cell (qJ (h.tw i hi))).trans (h.tw i hi),fun i hi=>(hb.cell (qJ (h.ts i hi))).trans (h.ts i hi)⟩
def qKi(w:World):Prop:=∃ b off cap,qZo b off cap w
theorem qKi.below{w w':World}(h:qKi w)(hb:Below w.1.size w w'):qKi w':=by
 obtain⟨b,o,j,h⟩:=h;exact⟨b,o,j,h.below hb⟩
theorem qKi.alloc{w:World}(h:qKi w)(o:Obj):qKi (w.alloc o):=h.below ((Below.refl _ _).alloc (Nat.le_refl _) o)
theorem qJ3{w w':World}{o:Obj}(h:Below (w.1.size+1) (w.alloc o) w'):Below w.1.size w w' :=
 ((Below.refl _ _).alloc (Nat.le_refl _) o).trans (h.mono (by omega))
def qQ3(W:Int)(S:Bool):List (ByteArray×Int×Bool)->ByteArray
 | []=>⟨#[]⟩
 | (n,w,s) :: r=>if w=W/\s=S then n else qQ3 W S r
def qZJ(W:Int)(S:Bool):ByteArray:=qQ3 W S qJv
def qJh(s:ByteArray):List (ByteArray×Int×Bool)->Int×Bool×Bool
 | []=>(0,false,false)
 | (n,w,g) :: r=>if n=s then(w,g,true)else qJh s r
def qXr(s:ByteArray):Int×Bool×Bool:=qJh s qJv
theorem qVl(k:Nat)(h:k < 9):qJv.drop k=(tN k,tW k,tS k) :: qJv.drop (k+1):=by
 match k,h with
 | 0,_=>rfl
 | 1,_=>rfl
 | 2,_=>rfl
 | 3,_=>rfl
 | 4,_=>rfl
 | 5,_=>rfl
 | 6,_=>rfl
 | 7,_=>rfl
 | 8,_=>rfl
theorem name_hit{W:Int}{S:Bool}{k:Nat}(h:k < 9)(o:tW k=W)(hs:tS k=S)(j:qQ3 W S (qJv.drop k)=qZJ W S):tN k=qZJ W S:=by
 rw[qVl k h]at j;rw[<-j,qQ3,if_pos ⟨o,hs⟩]
theorem qUj{W:Int}{S:Bool}{k:Nat}(h:k < 9)(o:¬(tW k=W/\tS k=S))(j:qQ3 W S (qJv.drop k)=qZJ W S):qQ3 W S (qJv.drop (k+1))=qZJ W S:=by
 rw[qVl k h]at j;rw[<-j,qQ3,if_neg o]
theorem name_end{W:Int}{S:Bool}{k:Nat}(h:k<=9)(o:¬k < 9)(j:qQ3 W S (qJv.drop k)=qZJ W S):(⟨#[]⟩:ByteArray)=qZJ W S:=by
 obtain rfl:k=9:=by omega
 rw[<-j];rfl
theorem qP7{a b:ByteArray}(h:a=b):Ending.returned (.string a)=.returned (.string b):=by rw[h]
theorem name_at(b z A:Nat)(W:Int)(S:Bool)(w:World)(ht:qZo b z A w) :
 Calls prog 180 #[.agg #[.int .i64 W, .bool S]] w fun e w'=>e=.returned (.string (qZJ W S))/\Below w.1.size w w':=by
 have g:=ht.tg;have I:4 < w.1.size:=qJ g;go_enter func180,ntmps180
 go_wp2
 go_loopw [7] (fun i wr=>∃ k:Nat,k<=9/\i=.int .i64 k/\qQ3 W S (qJv.drop k)=qZJ W S/\Below (w.1.size+1) (w.alloc (.cells #[.int .i64 W, .bool S] 37)) wr) (fun i _=>9 - (intOf i).toNat)
 case atStart=>exact⟨0,Nat.zero_le _,rfl,rfl,Below.refl _ _⟩
 case round =>
  obtain⟨k,G,rfl,C,hb⟩:=hrel;have s:=(ht.below ((Below.refl _ _).alloc (Nat.le_refl _) (.cells #[.int .i64 W, .bool S] 37))).below (by simp;exact hb);have b0:wr.cell? ⟨w.1.size,0,none⟩=some (.int .i64 W):=(hb.cell (p:=⟨w.1.size,0,none⟩) (by simp)).trans (by simp[go_sem]);have b1:wr.cell? ⟨w.1.size,1,none⟩=some (.bool S):=(hb.cell (p:=⟨w.1.size,1,none⟩) (by simp)).trans (by simp[go_sem]);have y:w.1.size < wr.1.size:=by have:=hb.size;simp at this;omega
  have Hn:=hI C;clear C g;by_cases j:k < 9
  ·have c0:=s.tn k j;have c1:=s.tw k j;have c2:=s.ts k j;clear ht s;go_wp2
   ·go_ret;exact⟨qP7 (name_hit j ‹_› ‹_› Hn.o),qJ3 (hb.alloc y _)⟩
   ·exact⟨⟨k+1,by omega,by go_num,qUj j (fun h=>absurd h.2 ‹_›) Hn.o,hb.alloc y _⟩,by simp[intOf];omega⟩
   ·exact⟨⟨k+1,by omega,by go_num,qUj j (fun h=>absurd h.1 ‹_›) Hn.o,hb.alloc y _⟩,by simp[intOf];omega⟩
  ·clear ht s;go_wp2
   go_ret;exact⟨qP7 (name_end G j Hn.o),qJ3 hb⟩
theorem name_any(W:Int)(S:Bool)(w:World)(ht:qKi w) :
 Calls prog 180 #[.agg #[.int .i64 W, .bool S]] w fun e w'=>e=.returned (.string (qZJ W S))/\Below w.1.size w w':=by
 obtain⟨b,o,j,ht⟩:=ht;exact name_at b o j W S w ht
def rt(W:Int)(S:Bool):Bool:=(W == 1 && !S) || W == 8 || W == 16 || W == 32 || W == 64
theorem qYc{W:Int}{S:Bool}(h:rt W S=true):(W=1/\S=false)\/W=8\/W=16\/W=32\/W=64:=by
 simp[rt]at h;cases S <;> simp_all <;> omega
theorem name_rt(W:Int)(S:Bool):(!(qZJ W S).toList.isEmpty)=rt W S:=by
 by_cases j:W=1
 ·subst j;cases S <;> decide +kernel
 by_cases h2:W=8
 ·subst h2;cases S <;> decide +kernel
 by_cases h3:W=16
 ·subst h3;cases S <;> decide +kernel
 by_cases h4:W=32
 ·subst h4;cases S <;> decide +kernel
 by_cases o:W=64
 ·subst o;cases S <;> decide +kernel
 have e:qZJ W S=⟨#[]⟩:=by
  simp[qZJ,qQ3,qJv,Ne.symm j,Ne.symm h2,Ne.symm h3,Ne.symm h4,Ne.symm o]
 have e2:rt W S=false:=by simp[rt,j,h2,h3,h4,o]
 rw[e,e2];decide +kernel
theorem right_any(W:Int)(S:Bool)(w:World)(ht:qKi w) :
 Calls prog 170 #[.agg #[.int .i64 W, .bool S]] w fun e w'=>e=.returned (.bool (rt W S))/\Below w.1.size w w':=by
 have j:=ht.alloc (.cells #[.int .i64 W, .bool S] 37);go_enter func170,ntmps170
 go_wp2_with fail
 refine(name_any _ _ _ j).mono ?_;rintro e A ⟨rfl,hb⟩;have s:=qJ3 (by simpa using hb);generalize y:qZJ W S=x at *;have z:=hI y;clear y hb j;go_wp2
 go_ret;exact⟨qQ4 (by rw[<-z.o];exact name_rt W S),s⟩
def lowF(W v:Int):Int:=v % 2 ^ W.toNat
theorem u64_wrap(n:Int):IntKind.u64.wrap n=n % 18446744073709551616:=by
 simp[IntKind.wrap,IntKind.signed,IntKind.bits]
theorem low_eq{W v:Int}(h:W=1\/W=8\/W=16\/W=32\/W=64)(_hv:0<=v)(_hv1:v < 18446744073709551616):IntKind.u64.wrap (v * 2 ^ (64 - W).toNat) / 2 ^ (64 - W).toNat=lowF W v:=by
 rw[u64_wrap];unfold lowF;rcases h with rfl | rfl | rfl | rfl | rfl
 ·show v * 2 ^ 63 % 18446744073709551616 / 2 ^ 63=v % 2 ^ 1
  omega
 ·show v * 2 ^ 56 % 18446744073709551616 / 2 ^ 56=v % 2 ^ 8
  omega
 ·show v * 2 ^ 48 % 18446744073709551616 / 2 ^ 48=v % 2 ^ 16
  omega
 ·show v * 2 ^ 32 % 18446744073709551616 / 2 ^ 32=v % 2 ^ 32
  omega
 ·show v * 2 ^ 0 % 18446744073709551616 / 2 ^ 0=v % 2 ^ 64
  omega
theorem rt_w{W:Int}{S:Bool}(h:rt W S=true):W=1\/W=8\/W=16\/W=32\/W=64:=by have:=qYc h;omega
theorem low_any(W:Int)(S:Bool)(v:Int)(w:World)(h:rt W S=true)(s:0<=v)(j:v < 18446744073709551616) :
 Calls prog 171 #[.agg #[.int .i64 W, .bool S], .int .u64 v] w fun e w'=>e=.returned (.int .u64 (lowF W v))/\Below w.1.size w w':=by
 have z:1<=W:=by have:=qYc h;omega
 have y:W<=64:=by have:=qYc h;omega
 have H:=hI h;clear h;go_enter func171,ntmps171
 go_wp2
 go_ret;exact⟨qQ6 (low_eq (rt_w H.o) s j),(Below.refl _ _).alloc (Nat.le_refl _) _⟩
def qUl(W:Int)(S:Bool)(v:Int):Int:=if rt W S then lowF W v else 0
theorem norm_any(W:Int)(S:Bool)(v:Int)(w:World)(ht:qKi w)(z:0<=v)(I:v < 18446744073709551616) :
 Calls prog 155 #[.agg #[.int .i64 W, .bool S], .int .u64 v] w fun e w'=>e=.returned (.int .u64 (qUl W S v))/\Below w.1.size w w':=by
 have s:=ht.alloc (.cells #[.int .i64 W, .bool S] 37);go_enter func155,ntmps155
 go_wp2_with fail
 refine(right_any _ _ _ s).mono ?_;rintro e O ⟨rfl,hb⟩;have C:O.cell? ⟨w.1.size,0,none⟩=some (.int .i64 W):=(hb.cell (p:=⟨w.1.size,0,none⟩) (by simp)).trans (by simp[go_sem]);have A:O.cell? ⟨w.1.size,1,none⟩=some (.bool S):=(hb.cell (p:=⟨w.1.size,1,none⟩) (by simp)).trans (by simp[go_sem]);have j:=qJ3 (by simpa using hb);clear hb s;by_cases hr:rt W S=true
 ·have y:qUl W S v=lowF W v:=if_pos hr;have J:=hI y;have U:=hI hr;clear y;go_wp2_with fail
  refine(low_any _ _ _ _ U.o z I).mono ?_;rintro e w2 ⟨rfl,G⟩;clear C A;go_wp2
  go_ret;exact⟨qQ6 J.o.symm,j.trans (G.mono j.size)⟩
 ·have R:rt W S=false:=by simpa using hr
  have y:qUl W S v=0:=if_neg hr;have J:=hI y;clear y hr;go_wp2
  go_ret;exact⟨qQ6 J.o.symm,j⟩
theorem of_hit{s:ByteArray}{k:Nat}(h:k < 9)(j:tN k=s)(hr:qJh s (qJv.drop k)=qXr s):qXr s=(tW k,tS k,true):=by
 rw[qVl k h]at hr;rw[<-hr,qJh,if_pos j]
theorem of_miss{s:ByteArray}{k:Nat}(h:k < 9)(j:¬tN k=s)(hr:qJh s (qJv.drop k)=qXr s):qJh s (qJv.drop (k+1))=qXr s:=by
 rw[qVl k h]at hr;rw[<-hr,qJh,if_neg j]
theorem of_end{s:ByteArray}{k:Nat}(h:k<=9)(j:¬k < 9)(hr:qJh s (qJv.drop k)=qXr s):qXr s=(0,false,false):=by
 obtain rfl:k=9:=by omega
 rw[<-hr];rfl
def ofV(r:Int×Bool×Bool):Value:=.tuple #[.agg #[.int .i64 r.1, .bool r.2.1], .bool r.2.2]
theorem ret_of{a b:Int×Bool×Bool}(h:a=b):Ending.returned (ofV a)=.returned (ofV b):=by rw[h]
theorem of_at(b G O:Nat)(s:ByteArray)(w:World)(ht:qZo b G O w) :
 Calls prog 120 #[.string s] w fun e w'=>e=.returned (ofV (qXr s))/\Below w.1.size w w':=by
 have g:=ht.tg;have X:4 < w.1.size:=qJ g;have U:w.1.size≠4:=by omega
 go_enter func120,ntmps120
 go_wp2
 go_loopw [8] (fun i wr=>∃ k:Nat,k<=9/\i=.int .i64 k/\qJh s (qJv.drop k)=qXr s/\Below (w.1.size+1) (w.alloc (.cells #[.int .i64 0, .bool false] 37)) wr) (fun i _=>9 - (intOf i).toNat)
 case atStart=>exact⟨0,Nat.zero_le _,rfl,rfl,Below.refl _ _⟩
 case round =>
  obtain⟨k,V,rfl,R,hb⟩:=hrel;have y:=(ht.below ((Below.refl _ _).alloc (Nat.le_refl _) (.cells #[.int .i64 0, .bool false] 37))).below (by simp;exact hb);have b0:wr.cell? ⟨w.1.size,0,none⟩=some (.int .i64 0):=(hb.cell (p:=⟨w.1.size,0,none⟩) (by simp)).trans (by simp[go_sem]);have b1:wr.cell? ⟨w.1.size,1,none⟩=some (.bool false):=(hb.cell (p:=⟨w.1.size,1,none⟩) (by simp)).trans (by simp[go_sem]);have f0:wr.frozen? ⟨w.1.size,0,none⟩=false:=(World.frozen?_of_block (hb.block w.1.size (by omega))).trans (by simp[go_sem]);have f1:wr.frozen? ⟨w.1.size,1,none⟩=false:=(World.frozen?_of_block (hb.block w.1.size (by omega))).trans (by simp[go_sem]);have I:w.1.size < wr.1.size:=by have:=hb.size;simp at this;omega
  have A:wr.1.size≠w.1.size:=by omega
  have Hn:=hI R;have C:=hI hb;clear R g hb;by_cases j:k < 9
  ·have c0:=y.tn k j;have c1:=y.tw k j;have c2:=y.ts k j;clear ht y;go_wp2
   ·have z:tN k=s:=ByteArray.ext (Array.toList_inj.1 (by have h:((tN k).toList == s.toList)=true:=‹_›;simpa[Lib.toList_data]using h));have J:=hI (ret_of (of_hit j z Hn.o).symm);refine bodyPost_ret (v:=ofV (tW k,tS k,true)) (by simp[results,results120,go_sem,ofV,b0,b1,A,A.symm,I]) rfl ⟨J.o,?_⟩;exact((((Below.refl _ _).alloc (Nat.le_refl _) _).trans (C.o.mono (by omega))).setCell (Nat.le_refl _) _).setCell (Nat.le_refl _) _ |>.alloc (by simp;omega) _
   ·have z:¬tN k=s:=fun e=>by have h:((tN k).toList == s.toList)=false:=‹_›;rw[e]at h;simp at h
    exact⟨⟨k+1,by omega,rfl,of_miss j z Hn.o,C.o.alloc (by simpa using C.o.size) _⟩,by simp[intOf];omega⟩
  ·clear ht y;go_wp2
   have J:=hI (ret_of (of_end V j Hn.o).symm);refine bodyPost_ret (v:=ofV (0,false,false)) (by simp[results,results120,go_sem,ofV,b0,b1]) rfl ⟨J.o,?_⟩;exact((((Below.refl _ _).alloc (Nat.le_refl _) _).trans (C.o.mono (by omega))).setCell (Nat.le_refl _) _).setCell (Nat.le_refl _) _
theorem of_any(s:ByteArray)(w:World)(ht:qKi w):Calls prog 120 #[.string s] w fun e w'=>e=.returned (ofV (qXr s))/\Below w.1.size w w':=by
 obtain⟨b,o,j,ht⟩:=ht;exact of_at b o j s w ht
end Go.Proofs.YtiajhekdhhhghaaGreatDoor
