/- Walks. -/
import Derived.Test.YtiajhekdhhhghaaGreatDoorNab
set_option linter.all false
set_option maxHeartbeats 8000000
set_option maxRecDepth 100000
namespace Go.Proofs.YtiajhekdhhhghaaGreatDoor
open Tryz
open Go Go.RowKit
theorem qWk(rec:NT->Int->List Tok->PR qQ)(d:Int)(hb:vM 172 (fun p=>#[p, .int .i64 0]) d (rec (.binary 0) d)):vM 158 (fun p=>#[p]) d (qQh rec d):=by
 intro B l w h j;have G:=St.start h;have V:=hI (hb B l _ G.ps j);have C:=hI G;have z:=zT;have A:=hI j;clear h G j;unfold jY at *;go_enter func158,ntmps158
 go_wp2_with fail
 refine(V.o).mono ?_;intro e Z O;rcases O.cases A.o with⟨X,l2,q,U,c2,y,rfl,hb,R,hg⟩ | ⟨ln,c,code,y,rfl,hg⟩
 ·have s:=C.o.call R hg;have HB:=hI hb;have HE:=hI y;have d2:=s.lt;have hr:=s.res;have⟨r0,Y,r2,r3,r4,r5,_⟩:=hr.a;have⟨g0,g1,g2,g3,g4,g5,_⟩:=hr.b;clear hr;have I:=hI s;clear s R hg hb y O V C z;unfold qZ;go_wp2
  refine bodyPost_ret (v:=qZ X (.slice q U c2)) (by simp[results,results158,go_sem,qZ, *]) rfl ?_;have J:zC Z (w.1.size+1) X.kids (.slice q U c2):=by simpa using HB.o
  rw[show(qQh rec d) l=_ from HE.o];exact I.o.fin J _ _ _ _ _ _
 ·refine⟨rfl,?_⟩;rw[show(qQh rec d) l=_ from y];exact C.o.pan ⟨rfl,hg⟩
theorem qYD(rec:NT->Int->List Tok->PR qQ)(d:Int)(s:yR 158)(hb:vM 158 (fun p=>#[p]) (d+1) (qQh rec (d+1))):vM 173 (fun p=>#[p]) d (qPf rec d):=by
 intro B l w h j;have G:=St.start h;have V:=hI (wT 158 d (rec (.binary 0)) s hb B l _ G.ps j);have C:=hI G;have z:=zT;have A:=hI j;clear h G j;unfold jY at *;go_enter func173,ntmps173
 go_wp2_with fail
 refine(V.o).mono ?_;intro e Z O;rcases O.cases A.o with⟨X,l2,q,U,c2,s,rfl,hb,R,hg⟩ | ⟨ln,c,code,s,rfl,hg⟩
 ·have y:=C.o.call R hg;have HB:=hI hb;have HE:=hI s;have d2:=y.lt;have hr:=y.res;have⟨r0,Y,r2,r3,r4,r5,_⟩:=hr.a;have⟨g0,g1,g2,g3,g4,g5,_⟩:=hr.b;clear hr;have I:=hI y;clear y R hg hb s O V C z;unfold qZ;go_wp2
  refine bodyPost_ret (v:=qZ X (.slice q U c2)) (by simp[results,results173,go_sem,qZ, *]) rfl ?_;have J:zC Z (w.1.size+1) X.kids (.slice q U c2):=by simpa using HB.o
  rw[show(qPf rec d) l=_ from HE.o];exact I.o.fin J _ _ _ _ _ _
 ·refine⟨rfl,?_⟩;rw[show(qPf rec d) l=_ from s];exact C.o.pan ⟨rfl,hg⟩
theorem loop_does(rec:NT->Int->List Tok->PR qQ)(d:Int)(hb:vM 157 (fun p=>#[p, .string ⟨#[119,104,105,108,101]⟩]) d (jK rec qA d)):vM 142 (fun p=>#[p]) d (jK rec qA d):=by
 intro B l w h j;have G:=St.start h;have V:=hI (hb B l _ G.ps j);have C:=hI G;have z:=zT;have A:=hI j;clear h G j;unfold jY at *;go_enter func142,ntmps142
 go_wp2_with fail
 refine(V.o).mono ?_;intro e Z O;rcases O.cases A.o with⟨X,l2,q,U,c2,y,rfl,hb,R,hg⟩ | ⟨ln,c,code,y,rfl,hg⟩
 ·have s:=C.o.call R hg;have HB:=hI hb;have HE:=hI y;have d2:=s.lt;have hr:=s.res;have⟨r0,Y,r2,r3,r4,r5,_⟩:=hr.a;have⟨g0,g1,g2,g3,g4,g5,_⟩:=hr.b;clear hr;have I:=hI s;clear s R hg hb y O V C z;unfold qZ;go_wp2
  refine bodyPost_ret (v:=qZ X (.slice q U c2)) (by simp[results,results142,go_sem,qZ, *]) rfl ?_;have J:zC Z (w.1.size+1) X.kids (.slice q U c2):=by simpa using HB.o
  rw[show(jK rec qA d) l=_ from HE.o];exact I.o.fin J _ _ _ _ _ _
 ·refine⟨rfl,?_⟩;rw[show(jK rec qA d) l=_ from y];exact C.o.pan ⟨rfl,hg⟩
theorem param_does(d:Int)(hb:vM 103 (fun p=>#[p, .string ⟨#[112,97,114,97,109]⟩, .bool false]) d (zG qO false)):vM 105 (fun p=>#[p]) d (zG qO false):=by
 intro B l w h j;have G:=St.start h;have V:=hI (hb B l _ G.ps j);have C:=hI G;have z:=zT;have A:=hI j;clear h G j;unfold jY at *;go_enter func105,ntmps105
 go_wp2_with fail
 refine(V.o).mono ?_;intro e Z O;rcases O.cases A.o with⟨X,l2,q,U,c2,y,rfl,hb,R,hg⟩ | ⟨ln,c,code,y,rfl,hg⟩
 ·have s:=C.o.call R hg;have HB:=hI hb;have HE:=hI y;have d2:=s.lt;have hr:=s.res;have⟨r0,Y,r2,r3,r4,r5,_⟩:=hr.a;have⟨g0,g1,g2,g3,g4,g5,_⟩:=hr.b;clear hr;have I:=hI s;clear s R hg hb y O V C z;unfold qZ;go_wp2
  refine bodyPost_ret (v:=qZ X (.slice q U c2)) (by simp[results,results105,go_sem,qZ, *]) rfl ?_;have J:zC Z (w.1.size+1) X.kids (.slice q U c2):=by simpa using HB.o
  rw[show(zG qO false) l=_ from HE.o];exact I.o.fin J _ _ _ _ _ _
 ·refine⟨rfl,?_⟩;rw[show(zG qO false) l=_ from y];exact C.o.pan ⟨rfl,hg⟩
theorem qX(t:Tok)(r:List Tok):hdT (t :: r)=t:=rfl
theorem xV{B S:Nat}{l:List Tok}{d:Int}{w:World}(xs:List (List UInt8))(h:vP B l d w)(s:∀ x∈xs,x≠[])(y:xs.length<=10)(hS:w.1.size=S) :
 Calls prog 108 #[.pointer (some ⟨B,0,none⟩), .slice (some ⟨S,0,none⟩) xs.length xs.length] (w.alloc (.cells (xs.map fun x=>.string ⟨x.toArray⟩).toArray 9)) fun e w' =>
  (∃ l',jL xs l=.ok () l'/\e=.returned (.tuple #[])/\vP B l' d w'/\w.grownBy w' (some B)) \/
  ∃ ln c code,jL xs l=.bad ln c code/\e=.panicked [{ v:=qXo ln c code,recovered:=false }]/\w.grownBy w' (some B):=by
 subst hS;refine(qPY B w.1.size xs.length xs l d (w.alloc (.cells (xs.map fun x=>.string ⟨x.toArray⟩).toArray 9)) (h.below ((Below.refl _ _).alloc (Nat.le_refl _) _)) h.lt (fun i hi=>?_) s (Nat.le_refl _) y).mono fun e w' hq=>?_
 ·have hg:=cell_of_row (w.alloc (.cells (xs.map fun x=>.string ⟨x.toArray⟩).toArray 9)) w.1.size i _ 9 (0,0) (heap_alloc_new w _);rw[hg];simp[hi]
 ·have j:=World.grownBy_alloc w (.cells (xs.map fun x=>.string ⟨x.toArray⟩).toArray 9) (some B);rcases hq.cases (qVF _ _)with⟨l',o,h2,h3,h4⟩ | ⟨ln,c,code,o,h2,h3⟩
  ·exact .inl ⟨l',o,h2,h3,qR j h4⟩
  ·exact .inr ⟨ln,c,code,o,h2,qR j h3⟩
theorem qK9(rec:NT->Int->List Tok->PR qQ)(word:List UInt8)(d:Int)(hw:word≠[])(he:yR 107)(m5:vM 158 (fun p=>#[p]) d (qQh rec d))(s:vM 107 (fun p=>#[p]) (d+1) (rec .block (d+1))):vM 157 (fun p=>#[p, .string ⟨word.toArray⟩]) d (jK rec word d):=by
 intro B l w h m1;obtain⟨t,r,rfl⟩:=h.ends.ne;have S0:=St.start h;have n6:=S0.hB;have g6:=hI m1;have S0:=hI S0;have n4:=zT;have n7:=vS;have n9:=yW;have HW:=hI hw;have n0:=hI m5;have n1:=hI (wT 107 d (rec .block) he s);clear hw he m5 s;clear h m1;unfold jY at *;go_enter func157,ntmps157
 have H:=hI (kY B t r d _ S0.o.ps);go_wp2_with fail
 refine(H.o).mono ?_;rintro e w1 ⟨rfl,m4⟩;have S1:=hI (S0.o.below m4);clear S0;clear H m4;have H:=hI (jI t ⟨word.toArray⟩ ⟨#[]⟩);go_wp2_with fail
 refine(H.o _).mono ?_;rintro e w2 ⟨rfl,m3⟩;have S2:=hI (S1.o.below m3);clear S1;clear H m3;have hwN:w.1.size < w2.1.size:=S2.o.lt;have N3:=hI (Nd.new word [] 0 t.line t.col w2);have S3:=hI (S2.o.alloc (wD word [] 0 t.line t.col (.slice none 0 0)));clear S2;unfold wD at *;have hw:=HW.o;have H:=hI (xV (S:=w2.1.size+1) [word,[40]] S3.o.ps (by simp[*,qY,qG,qC,qO,zB,zD,zX,qE,kIf,zS,qA,qV,qF,qD,qP,qW,qN,zW,zM,qL,qM,qT,zK,zL,qH,zA]) (by simp) (by simp));simp only[List.map,List.length]at H;go_wp2_with fail
 refine(H.o).mono ?_;rintro e w4 (⟨l4,he4,rfl,hP4,hg4⟩ | ⟨ln,c,code,he4,rfl,hg4⟩);rotate_left
 ·refine⟨rfl,?_⟩;have z:(jK rec word d) (t :: r)=.bad ln c code:=by simp[jK,PR.bind,qX,he4]
  rw[z];exact S3.o.pan ⟨rfl,hg4⟩
 have S4:=hI (S3.o.call hP4 hg4);have N4:=hI (N3.o.call hg4 (by omega));clear S3 N3;have U:=hI he4;clear H he4 hP4 hg4;clear hw;have O:qQh rec d l4≠.out:=fun e=>g6.o (by simp[jK,PR.bind,qX,U.o,e])
 have A:=hI O;clear O;have d7:=hI S4.o.drew;have Z:=hI N4.o.drew;clear S4 N4;go_wp2_with fail
 have C:=Z.o.nd.c5;refine wRg (S:=fun w'=>w'.cell? ⟨w2.1.size,5,none⟩=some (.slice none 0 0)) 5 ?_;refine wTk 0 14 (.pointer (some ⟨w2.1.size,5,none⟩)) ?_ C ?_
 ·intro _ y;go_simp
 refine wTk 1 15 (.slice none 0 0) ?_ C ?_
 ·intro _ y;go_simp
 refine wTk 2 16 (.pointer (some ⟨B,0,none⟩)) ?_ C ?_
 ·intro _ y;go_simp
 refine wOn 3 fun K hK=>?_
 go_simp;have HC:=n0.o B l4 _ d7.o.ps A.o;refine HC.mono ?_;intro e m2 hq;rcases hq.cases A.o with⟨t5,l5,q5,n5,c5,he5,rfl,X,I,j⟩ | ⟨ln,c,code,he5,rfl,j⟩;rotate_left
 ·refine⟨rfl,?_⟩;have z:(jK rec word d) (t :: r)=.bad ln c code:=by simp[jK,PR.bind,qX,U.o,he5]
  rw[z];exact d7.o.pan ⟨rfl,j⟩
 have S6:=hI (d7.o.call I j);have G:=hI (Z.o.call j (by omega));have d2:=hI X;have s:=Z.o.bd.lt;have d4:=G.o.nd.c5;have f4:=G.o.nd.f 5 nL;have n2:=G.o.lt;have V:=Z.o.lt;have J:=j.size;clear I j X HC hq d7 Z;unfold qZ;refine kK hK d4 ?_;clear hK K;refine wOn 4 fun K hK=>?_
 go_simp;refine kK hK (by go_simp) ?_;clear hK K;refine wOn 5 fun K hK=>?_
 refine qQq (dd:=19) (t:=t5) (u:=.slice q5 n5 c5) _ _ rfl rfl G.o.bd d2.o (by omega) (fun g hg=>(s g hg).2) J rfl rfl rfl (by simp) (fun v7 w5 hb7 hg7=>?_);refine kD hK ?_;clear hK K;obtain⟨m0,g9,g7,rfl⟩:=hb7.shape;have d3:=qZ8 S6.o G.o hwN hb7 hg7;have d9:w5.frozen? ⟨w2.1.size,5,none⟩=false:=((G.o.nd.grown (World.grownBy_alloc m2 _ none) (by simp)).grown hg7 (fun e=>by have:=(s _ e.symm).1;omega)).f 5 nL;have f6:=((G.o.nd.grown (World.grownBy_alloc m2 _ none) (by simp)).grown hg7 (fun e=>by have:=(s _ e.symm).1;omega)).c5;have R:=hI d3;clear d3 hb7 hg7 S6 G d2 s C d4 f4 V J;try simp only[Act.put,pZa,pZb,pZc]
 refine wOn 6 fun K hK=>?_
 go_simp;refine kD hK ?_;clear hK K;refine wOn 7 fun K hK=>?_
 go_simp;refine kD hK ?_;clear hK K;refine wDn ?_ _;clear d9 f6;have S5:=hI R.o.1;have N5:=hI R.o.2;have d8:=hI he5;clear R he5 A;have d5:=N5.o.lt;simp only[World.size_setCell]at d5;have H:=hI (xV (S:=w5.1.size) [[41]] S5.o.ps (by simp) (by simp) (by simp));simp only[List.map,List.length]at H;go_wp2_with fail
 refine(H.o).mono ?_;rintro e w6 (⟨l6,he6,rfl,I,j⟩ | ⟨ln,c,code,he6,rfl,j⟩);rotate_left
 ·refine⟨rfl,?_⟩;have z:(jK rec word d) (t :: r)=.bad ln c code:=by simp[jK,PR.bind,qX,U.o,d8.o,he6]
  rw[z];exact S5.o.pan ⟨rfl,j⟩
 have S6:=hI (S5.o.call I j);have G:=hI (N5.o.call j (by omega));clear S5 N5;have f7:=hI he6;clear H he6 I j;have O:xX d (rec .block) l6≠.out:=fun e=>g6.o (by simp[jK,PR.bind,qX,U.o,d8.o,f7.o,e])
 have A:=hI O;clear O;have d6:=hI S6.o.drew;have Y:=hI G.o.drew;clear S6 G;go_wp2_with fail
 have C:=Y.o.nd.c5;refine wRg (S:=fun w'=>w'.cell? ⟨w2.1.size,5,none⟩=some (.slice m0 g9 g7)) 7 ?_;refine wTk 0 24 (.pointer (some ⟨w2.1.size,5,none⟩)) ?_ C ?_
 ·intro _ y;go_simp
 refine wTk 1 25 (.slice m0 g9 g7) ?_ C ?_
 ·intro _ y;go_simp
 refine wTk 2 26 (.pointer (some ⟨B,0,none⟩)) ?_ C ?_
 ·intro _ y;go_simp
 refine wTk 3 27 (.pointer (some ⟨B,0,none⟩)) ?_ C ?_
 ·intro _ y;go_simp
 refine wTk 4 28 (.func (.func 107) #[.pointer (some ⟨B,0,none⟩)] #[]) ?_ C ?_
 ·intro _ y;go_simp
 refine wOn 5 fun K hK=>?_
 go_simp;have HC:=n1.o B l6 _ d6.o.ps A.o;refine HC.mono ?_;intro e g8 hq;rcases hq.cases A.o with⟨t7,l7,f9,f8,f3,he7,rfl,X,I,j⟩ | ⟨ln,c,code,he7,rfl,j⟩;rotate_left
 ·refine⟨rfl,?_⟩;have z:(jK rec word d) (t :: r)=.bad ln c code:=by simp[jK,PR.bind,qX,U.o,d8.o,f7.o,he7]
  rw[z];exact d6.o.pan ⟨rfl,j⟩
 have S6:=hI (d6.o.call I j);have G:=hI (Y.o.call j (by omega));have d2:=hI X;have s:=Y.o.bd.lt;have d4:=G.o.nd.c5;have f4:=G.o.nd.f 5 nL;have n2:=G.o.lt;have V:=Y.o.lt;have J:=j.size;clear I j X HC hq d6 Y;unfold qZ;refine kK hK d4 ?_;clear hK K;refine wOn 6 fun K hK=>?_
 go_simp;refine kK hK (by go_simp) ?_;clear hK K;refine wOn 7 fun K hK=>?_
 refine qQq (dd:=31) (t:=t7) (u:=.slice f9 f8 f3) _ _ rfl rfl G.o.bd d2.o (by omega) (fun g hg=>(s g hg).2) J rfl rfl rfl (by simp) (fun v7 w7 hb7 hg7=>?_);refine kD hK ?_;clear hK K;obtain⟨f9,f8,f3,rfl⟩:=hb7.shape;have d3:=qZ8 S6.o G.o hwN hb7 hg7;have d9:w7.frozen? ⟨w2.1.size,5,none⟩=false:=((G.o.nd.grown (World.grownBy_alloc g8 _ none) (by simp)).grown hg7 (fun e=>by have:=(s _ e.symm).1;omega)).f 5 nL;have f6:=((G.o.nd.grown (World.grownBy_alloc g8 _ none) (by simp)).grown hg7 (fun e=>by have:=(s _ e.symm).1;omega)).c5;have R:=hI d3;clear d3 hb7 hg7 S6 G d2 s C d4 f4 V J;try simp only[Act.put,pZa,pZb,pZc]
 refine wOn 8 fun K hK=>?_
 go_simp;refine kD hK ?_;clear hK K;refine wOn 9 fun K hK=>?_
 go_simp;refine kD hK ?_;clear hK K;refine wDn ?_ _;clear d9 f6;have S7:=hI R.o.1;have N7:=hI R.o.2;have m6:=hI he7;clear R he7 A;have d5:=N7.o.lt;simp only[World.size_setCell]at d5;have S9:=S7.o;have N9:=N7.o;have m7:=S9.lt;have hs2:=N9.lt;simp only[World.size_setCell]at m7 hs2;have hr:=S9.res;have⟨r0,n8,r2,r3,r4,r5,_⟩:=hr.a;have⟨g0,g1,g2,g3,g4,g5,_⟩:=hr.b;clear hr;have hq:=N9.nd;have⟨q0,q1,q2,q3,q4,q5,_⟩:=hq.a;clear hq;have n3:=hI S9;have m9:=hI N9;clear S9 N9 S7 N7;skip
 go_wp2
 refine bodyPost_ret (v:=qZ (.mk word [] 0 t.line t.col [t5,t7]) (.slice f9 f8 f3)) (by simp[results,results157,go_sem,qZ,qQ.kind,qQ.text,qQ.num,qQ.line,qQ.col,qQ.kids,qY,qG,qC,qO,zB,zD,zX,qE,kIf,zS,qA,qV,qF,qD,qP,qW,qN,zW,zM,qL,qM,qT,zK,zL,qH,zA, *]) rfl ?_;have f5:(jK rec word d) (t :: r)=.ok (.mk word [] 0 t.line t.col [t5,t7]) l7:=by simp[jK,PR.bind,qX,U.o,d8.o,f7.o,m6.o]
 rw[f5];exact n3.o.fin (m9.o.bd.mono (by omega)) _ _ _ _ _ _
theorem leave_does(rec:NT->Int->List Tok->PR qQ)(d:Int)(g7:vM 158 (fun p=>#[p]) d (qQh rec d)):vM 143 (fun p=>#[p]) d (yC rec d):=by
 intro B l w h f7;obtain⟨t,r,rfl⟩:=h.ends.ne;have S0:=St.start h;have n1:=S0.hB;have g9:=hI f7;have S0:=hI S0;have n0:=zT;have n2:=vS;have n4:=yW;have m7:=hI g7;clear g7;clear h f7;unfold jY at *;go_enter func143,ntmps143
 have H:=hI (kY B t r d _ S0.o.ps);go_wp2_with fail
 refine(H.o).mono ?_;rintro e w1 ⟨rfl,g6⟩;have S1:=hI (S0.o.below g6);clear S0;clear H g6;have H:=hI (jI t ⟨#[114,101,116,117,114,110]⟩ ⟨#[]⟩);go_wp2_with fail
 refine(H.o _).mono ?_;rintro e w2 ⟨rfl,f9⟩;have S2:=hI (S1.o.below f9);clear S1;clear H f9;have hwN:w.1.size < w2.1.size:=S2.o.lt;have N3:=hI (Nd.new qV [] 0 t.line t.col w2);have S3:=hI (S2.o.alloc (wD qV [] 0 t.line t.col (.slice none 0 0)));clear S2;unfold wD at *;have H:=hI (xV (S:=w2.1.size+1) [qV] S3.o.ps (by simp[*,qY,qG,qC,qO,zB,zD,zX,qE,kIf,zS,qA,qV,qF,qD,qP,qW,qN,zW,zM,qL,qM,qT,zK,zL,qH,zA]) (by simp) (by simp));simp only[List.map,List.length]at H;go_wp2_with fail
 refine(H.o).mono ?_;rintro e w4 (⟨l4,he4,rfl,hP4,hg4⟩ | ⟨ln,c,code,he4,rfl,hg4⟩);rotate_left
 ·refine⟨rfl,?_⟩;have s:(yC rec d) (t :: r)=.bad ln c code:=by simp only[bF,if_false,if_true,reduceIte,bN,bM,bO,bU,bP,bV,bW,bB,bA,bT,lN,lC,lA,yC,PR.bind,qX,he4]
  rw[s];exact S3.o.pan ⟨rfl,hg4⟩
 have S4:=hI (S3.o.call hP4 hg4);have N4:=hI (N3.o.call hg4 (by omega));clear S3 N3;have G:=hI he4;clear H he4 hP4 hg4;obtain⟨t1,r1,f4⟩:=S4.o.ps.ends.ne;subst f4;cases z:(t1.text == [59]);case false =>
  have H:=hI (wN B t1 r1 d [59] _ S4.o.ps);rw[z]at H;go_wp2_with fail
  refine(H.o).mono ?_;rintro e w5 ⟨rfl,hb5⟩;have S5:=hI (S4.o.below hb5);have N5:=hI (N4.o.below hb5);clear S4 N4;clear H hb5;have d3:qQh rec d (t1 :: r1)≠.out:=fun e=>g9.o (by simp only[bF,if_false,if_true,reduceIte,bN,bM,bO,bU,bP,bV,bW,bB,bA,bT,lN,lC,lA,yC,z,PR.bind,qX,G.o,e])
  have O:=hI d3;clear d3;have U:=hI S5.o.drew;have J:=hI N5.o.drew;clear S5 N5;go_wp2_with fail
  have Z:=J.o.nd.c5;refine wRg (S:=fun w'=>w'.cell? ⟨w2.1.size,5,none⟩=some (.slice none 0 0)) 5 ?_;refine wTk 0 13 (.pointer (some ⟨w2.1.size,5,none⟩)) ?_ Z ?_
  ·intro _ y;go_simp
  refine wTk 1 14 (.slice none 0 0) ?_ Z ?_
  ·intro _ y;go_simp
  refine wTk 2 15 (.pointer (some ⟨B,0,none⟩)) ?_ Z ?_
  ·intro _ y;go_simp
  refine wOn 3 fun K hK=>?_
  go_simp;have HC:=m7.o B (t1 :: r1) _ U.o.ps O.o;refine HC.mono ?_;intro e d8 hq;rcases hq.cases O.o with⟨t6,l6,q6,n6,c6,he6,rfl,f3,I,j⟩ | ⟨ln,c,code,he6,rfl,j⟩;rotate_left
  ·refine⟨rfl,?_⟩;have s:(yC rec d) (t :: r)=.bad ln c code:=by simp only[bF,if_false,if_true,reduceIte,bN,bM,bO,bU,bP,bV,bW,bB,bA,bT,lN,lC,lA,yC,z,PR.bind,qX,G.o,he6]
   rw[s];exact U.o.pan ⟨rfl,j⟩
  have R:=hI (U.o.call I j);have C:=hI (J.o.call j (by omega));have f5:=hI f3;have V:=J.o.bd.lt;have f8:=C.o.nd.c5;have m3:=C.o.nd.f 5 nL;have n3:=C.o.lt;have d9:=J.o.lt;have d2:=j.size;clear I j f3 HC hq U J;unfold qZ;refine kK hK f8 ?_;clear hK K;refine wOn 4 fun K hK=>?_
  go_simp;refine kK hK (by go_simp) ?_;clear hK K;refine wOn 5 fun K hK=>?_
  refine qQq (dd:=18) (t:=t6) (u:=.slice q6 n6 c6) _ _ rfl rfl C.o.bd f5.o (by omega) (fun g hg=>(V g hg).2) d2 rfl rfl rfl (by simp) (fun v7 w6 hb7 hg7=>?_);refine kD hK ?_;clear hK K;obtain⟨m2,m4,m9,rfl⟩:=hb7.shape;have f6:=qZ8 R.o C.o hwN hb7 hg7;have m1:w6.frozen? ⟨w2.1.size,5,none⟩=false:=((C.o.nd.grown (World.grownBy_alloc d8 _ none) (by simp)).grown hg7 (fun e=>by have:=(V _ e.symm).1;omega)).f 5 nL;have m6:=((C.o.nd.grown (World.grownBy_alloc d8 _ none) (by simp)).grown hg7 (fun e=>by have:=(V _ e.symm).1;omega)).c5;have d6:=hI f6;clear f6 hb7 hg7 R C f5 V Z f8 m3 d9 d2;try simp only[Act.put,pZa,pZb,pZc]
  refine wOn 6 fun K hK=>?_
  go_simp;refine kD hK ?_;clear hK K;refine wOn 7 fun K hK=>?_
  go_simp;refine kD hK ?_;clear hK K;refine wDn ?_ _;clear m1 m6;have R:=hI d6.o.1;have C:=hI d6.o.2;have X:=hI he6;clear d6 he6 O;have g8:=C.o.lt;simp only[World.size_setCell]at g8;have H:=hI (xV (S:=w6.1.size) [[59]] R.o.ps (by simp) (by simp) (by simp));simp only[List.map,List.length]at H;go_wp2_with fail
  refine(H.o).mono ?_;rintro e w7 (⟨l7,he7,rfl,hP7,hg7⟩ | ⟨ln,c,code,he7,rfl,hg7⟩);rotate_left
  ·refine⟨rfl,?_⟩;have s:(yC rec d) (t :: r)=.bad ln c code:=by simp only[bF,if_false,if_true,reduceIte,bN,bM,bO,bU,bP,bV,bW,bB,bA,bT,lN,lC,lA,yC,z,PR.bind,qX,G.o,X.o,he7]
   rw[s];exact R.o.pan ⟨rfl,hg7⟩
  have S7:=hI (R.o.call hP7 hg7);have N7:=hI (C.o.call hg7 (by omega));clear R C;have m0:=hI he7;clear H he7 hP7 hg7;have Y:=S7.o;have N9:=N7.o;have d4:=Y.lt;have hs2:=N9.lt;try simp only[World.size_setCell,World.size_alloc]at d4 hs2
  have hr:=Y.res;have⟨r0,m5,r2,r3,r4,r5,_⟩:=hr.a;have⟨g0,g1,g2,g3,g4,g5,_⟩:=hr.b;clear hr;have hq:=N9.nd;have⟨q0,q1,q2,q3,q4,q5,_⟩:=hq.a;clear hq;have d7:=hI Y;have d5:=hI N9;clear Y N9 S7 N7;unfold qV at q0;go_wp2
  refine bodyPost_ret (v:=qZ (.mk qV [] 0 t.line t.col [t6]) (.slice m2 m4 m9)) (by simp[results,results143,go_sem,qZ,qQ.kind,qQ.text,qQ.num,qQ.line,qQ.col,qQ.kids,qY,qG,qC,qO,zB,zD,zX,qE,kIf,zS,qA,qV,qF,qD,qP,qW,qN,zW,zM,qL,qM,qT,zK,zL,qH,zA, *]) rfl ?_;have A:(yC rec d) (t :: r)=.ok (.mk qV [] 0 t.line t.col [t6]) l7:=by simp only[bF,if_false,if_true,reduceIte,bN,bM,bO,bU,bP,bV,bW,bB,bA,bT,lN,lC,lA,yC,z,PR.bind,qX,G.o,X.o,m0.o]
  rw[A];exact d7.o.fin (d5.o.bd.mono (by omega)) _ _ _ _ _ _
 case true =>
  have H:=hI (wN B t1 r1 d [59] _ S4.o.ps);rw[z]at H;go_wp2_with fail
  refine(H.o).mono ?_;rintro e w5 ⟨rfl,hb5⟩;have S5:=hI (S4.o.below hb5);have N5:=hI (N4.o.below hb5);clear S4 N4;clear H hb5;have H:=hI (xV (S:=w5.1.size) [[59]] S5.o.ps (by simp) (by simp) (by simp));simp only[List.map,List.length]at H;go_wp2_with fail
  refine(H.o).mono ?_;rintro e w6 (⟨l6,he6,rfl,I,j⟩ | ⟨ln,c,code,he6,rfl,j⟩);rotate_left
  ·refine⟨rfl,?_⟩;have s:(yC rec d) (t :: r)=.bad ln c code:=by simp only[bF,if_false,if_true,reduceIte,bN,bM,bO,bU,bP,bV,bW,bB,bA,bT,lN,lC,lA,yC,z,PR.bind,qX,G.o,he6]
   rw[s];exact S5.o.pan ⟨rfl,j⟩
  have R:=hI (S5.o.call I j);have C:=hI (N5.o.call j (by omega));clear S5 N5;have X:=hI he6;clear H he6 I j;have Y:=R.o;have N9:=C.o;have d4:=Y.lt;have hs2:=N9.lt;try simp only[World.size_setCell,World.size_alloc]at d4 hs2
  have hr:=Y.res;have⟨r0,m5,r2,r3,r4,r5,_⟩:=hr.a;have⟨g0,g1,g2,g3,g4,g5,_⟩:=hr.b;clear hr;have hq:=N9.nd;have⟨q0,q1,q2,q3,q4,q5,_⟩:=hq.a;clear hq;have d7:=hI Y;have d5:=hI N9;clear Y N9 R C;unfold qV at q0;go_wp2
  refine bodyPost_ret (v:=qZ (.mk qV [] 0 t.line t.col []) (.slice none 0 0)) (by simp[results,results143,go_sem,qZ,qQ.kind,qQ.text,qQ.num,qQ.line,qQ.col,qQ.kids,qY,qG,qC,qO,zB,zD,zX,qE,kIf,zS,qA,qV,qF,qD,qP,qW,qN,zW,zM,qL,qM,qT,zK,zL,qH,zA, *]) rfl ?_;have A:(yC rec d) (t :: r)=.ok (.mk qV [] 0 t.line t.col []) l6:=by simp only[bF,if_false,if_true,reduceIte,bN,bM,bO,bU,bP,bV,bW,bB,bA,bT,lN,lC,lA,yC,z,PR.bind,qX,G.o,X.o]
  rw[A];exact d7.o.fin (d5.o.bd.mono (by omega)) _ _ _ _ _ _
theorem qLZ(rec:NT->Int->List Tok->PR qQ)(d:Int)(f5:vM 158 (fun p=>#[p]) d (qQh rec d)):∀ (B:Nat) (l:List Tok) (w:World),vP B l d w->(hdT l).text≠[]->(kL rec d) l≠.out->Calls prog 144 ((fun p=>#[p]) (.pointer (some ⟨B,0,none⟩))) w (qXV B d w ((kL rec d) l)):=by
 intro B l w h A f3;obtain⟨t,r,rfl⟩:=h.ends.ne;have S0:=St.start h;have m9:=S0.hB;have f7:=hI f3;have S0:=hI S0;have m6:=zT;have n0:=vS;have n5:=yW;have m2:=hI f5;have m4:t.text≠[]:=A;clear f5 A;clear h f3;unfold jY at *;go_enter func144,ntmps144
 have H:=hI (vB B t r d _ S0.o.ps m4);go_wp2_with fail
 refine(H.o).mono ?_;rintro e w1 ⟨rfl,hP1,hg1⟩;have S1:=hI (S0.o.call hP1 hg1);clear S0;clear H hP1 hg1;unfold vT xA at *;have n7:w.1.size < w1.1.size:=S1.o.lt;have Y:=hI (wH.newO t w1);have S2:=hI (S1.o.alloc (qXT t));clear S1;unfold qXT at *;have l1:=Y.o.c1;have l0:=Y.o.c0;have n1:=Y.o.c2;have n3:=Y.o.c3;have m7:=Y.o.c4;have H:=hI (jI t ⟨t.text.toArray⟩ ⟨#[]⟩);unfold vT xA at *;go_wp2_with fail
 refine(H.o _).mono ?_;rintro e w3 ⟨rfl,hb3⟩;have S3:=hI (S2.o.below hb3);have L3:=hI (Y.o.below hb3);clear S2 Y;clear H hb3;have hwN:w.1.size < w3.1.size:=S3.o.lt;have N4:=hI (Nd.new t.text [] 0 t.line t.col w3);have S4:=hI (S3.o.alloc (wD t.text [] 0 t.line t.col (.slice none 0 0)));have L4:=hI (L3.o.below ((Below.refl _ _).alloc (Nat.le_refl _) (wD t.text [] 0 t.line t.col (.slice none 0 0))));clear S3 L3;unfold wD at *;have H:=hI (xV (S:=w3.1.size+1) [[40]] S4.o.ps (by simp) (by simp) (by simp));simp only[List.map,List.length]at H;go_wp2_with fail
 refine(H.o).mono ?_;rintro e w5 (⟨l5,he5,rfl,hP5,hg5⟩ | ⟨ln,c,code,he5,rfl,hg5⟩);rotate_left
 ·refine⟨rfl,?_⟩;have j:(kL rec d) (t :: r)=.bad ln c code:=by simp only[bF,if_false,if_true,reduceIte,bN,bM,bO,bU,bP,bV,bW,bB,bA,bT,lN,lC,lA,kL,jV,PR.bind,qX,he5]
  rw[j];exact S4.o.pan ⟨rfl,hg5⟩
 have S5:=hI (S4.o.call hP5 hg5);have N5:=hI (N4.o.call hg5 (by omega));have L5:=hI (L4.o.grown hg5 (by simp;omega));clear S4 N4 L4;have R:=hI he5;clear H he5 hP5 hg5;have V:qQh rec d l5≠.out:=fun e=>f7.o (by simp only[bF,if_false,if_true,reduceIte,bN,bM,bO,bU,bP,bV,bW,bB,bA,bT,lN,lC,lA,kL,jV,PR.bind,qX,R.o,e])
 have G:=hI V;clear V;have I:=hI S5.o.drew;have C:=hI N5.o.drew;clear S5 N5;clear L5;go_wp2_with fail
 have O:=C.o.nd.c5;refine wRg (S:=fun w'=>w'.cell? ⟨w3.1.size,5,none⟩=some (.slice none 0 0)) 5 ?_;refine wTk 0 14 (.pointer (some ⟨w3.1.size,5,none⟩)) ?_ O ?_
 ·intro _ y;go_simp
 refine wTk 1 15 (.slice none 0 0) ?_ O ?_
 ·intro _ y;go_simp
 refine wTk 2 16 (.pointer (some ⟨B,0,none⟩)) ?_ O ?_
 ·intro _ y;go_simp
 refine wOn 3 fun K hK=>?_
 go_simp;have HC:=m2.o B l5 _ I.o.ps G.o;refine HC.mono ?_;intro e d3 hq;rcases hq.cases G.o with⟨t6,l6,q6,n6,c6,he6,rfl,d6,d5,s⟩ | ⟨ln,c,code,he6,rfl,s⟩;rotate_left
 ·refine⟨rfl,?_⟩;have j:(kL rec d) (t :: r)=.bad ln c code:=by simp only[bF,if_false,if_true,reduceIte,bN,bM,bO,bU,bP,bV,bW,bB,bA,bT,lN,lC,lA,kL,jV,PR.bind,qX,R.o,he6]
  rw[j];exact I.o.pan ⟨rfl,s⟩
 have X:=hI (I.o.call d5 s);have z:=hI (C.o.call s (by omega));have d8:=hI d6;have J:=C.o.bd.lt;have f4:=z.o.nd.c5;have g8:=z.o.nd.f 5 nL;have n4:=z.o.lt;have d4:=C.o.lt;have U:=s.size;clear d5 s d6 HC hq I C;unfold qZ;refine kK hK f4 ?_;clear hK K;refine wOn 4 fun K hK=>?_
 go_simp;refine kK hK (by go_simp) ?_;clear hK K;refine wOn 5 fun K hK=>?_
 refine qQq (dd:=19) (t:=t6) (u:=.slice q6 n6 c6) _ _ rfl rfl z.o.bd d8.o (by omega) (fun g hg=>(J g hg).2) U rfl rfl rfl (by simp) (fun v7 w6 hb7 hg7=>?_);refine kD hK ?_;clear hK K;obtain⟨g7,g9,m3,rfl⟩:=hb7.shape;have d9:=qZ8 X.o z.o hwN hb7 hg7;have f9:w6.frozen? ⟨w3.1.size,5,none⟩=false:=((z.o.nd.grown (World.grownBy_alloc d3 _ none) (by simp)).grown hg7 (fun e=>by have:=(J _ e.symm).1;omega)).f 5 nL;have m1:=((z.o.nd.grown (World.grownBy_alloc d3 _ none) (by simp)).grown hg7 (fun e=>by have:=(J _ e.symm).1;omega)).c5;have d2:=hI d9;clear d9 hb7 hg7 X z d8 J O f4 g8 d4 U;try simp only[Act.put,pZa,pZb,pZc]
 refine wOn 6 fun K hK=>?_
 go_simp;refine kD hK ?_;clear hK K;refine wOn 7 fun K hK=>?_
 go_simp;refine kD hK ?_;clear hK K;refine wDn ?_ _;clear f9 m1;have X:=hI d2.o.1;have z:=hI d2.o.2;have d7:=hI he6;clear d2 he6 G;have f6:=z.o.lt;simp only[World.size_setCell]at f6;have H:=hI (xV (S:=w6.1.size) [[41],[59]] X.o.ps (by simp) (by simp) (by simp));simp only[List.map,List.length]at H;go_wp2_with fail
 refine(H.o).mono ?_;rintro e w7 (⟨l7,he7,rfl,hP7,hg7⟩ | ⟨ln,c,code,he7,rfl,hg7⟩);rotate_left
 ·refine⟨rfl,?_⟩;have j:(kL rec d) (t :: r)=.bad ln c code:=by simp only[bF,if_false,if_true,reduceIte,bN,bM,bO,bU,bP,bV,bW,bB,bA,bT,lN,lC,lA,kL,jV,PR.bind,qX,R.o,d7.o,he7]
  rw[j];exact X.o.pan ⟨rfl,hg7⟩
 have S7:=hI (X.o.call hP7 hg7);have N7:=hI (z.o.call hg7 (by omega));clear X z;have f8:=hI he7;clear H he7 hP7 hg7;have S9:=S7.o;have N9:=N7.o;have g6:=S9.lt;have hs2:=N9.lt;try simp only[World.size_setCell,World.size_alloc]at g6 hs2
 have hr:=S9.res;have⟨r0,n2,r2,r3,r4,r5,_⟩:=hr.a;have⟨g0,g1,g2,g3,g4,g5,_⟩:=hr.b;clear hr;have hq:=N9.nd;have⟨q0,q1,q2,q3,q4,q5,_⟩:=hq.a;clear hq;have m5:=hI S9;have m0:=hI N9;clear S9 N9 S7 N7;skip
 go_wp2
 refine bodyPost_ret (v:=qZ (.mk t.text [] 0 t.line t.col [t6]) (.slice g7 g9 m3)) (by simp[results,results144,go_sem,qZ,qQ.kind,qQ.text,qQ.num,qQ.line,qQ.col,qQ.kids,qY,qG,qC,qO,zB,zD,zX,qE,kIf,zS,qA,qV,qF,qD,qP,qW,qN,zW,zM,qL,qM,qT,zK,zL,qH,zA, *]) rfl ?_;have Z:(kL rec d) (t :: r)=.ok (.mk t.text [] 0 t.line t.col [t6]) l7:=by simp only[bF,if_false,if_true,reduceIte,bN,bM,bO,bU,bP,bV,bW,bB,bA,bT,lN,lC,lA,kL,jV,PR.bind,qX,R.o,d7.o,f8.o]
 rw[Z];exact m5.o.fin (m0.o.bd.mono (by omega)) _ _ _ _ _ _
theorem Nd.setK{N:Nat}{k x:List UInt8}{n ln c:Int}{v:Value}{ts:List qQ}{w:World}(h:Nd N k x n ln c v ts w)(o:List UInt8):Nd N o x n ln c v ts (w.setCell ⟨N,0,none⟩ (.string ⟨o.toArray⟩)):=by
 have⟨z,y,h2,h3,h4,A,_⟩:=h.nd.a;have hf:=h.nd.f;refine⟨?_,h.bd.grown (jM _ _ _ _) (fun j e=>by cases e;exact .inl (Nat.lt_succ_self _))⟩;constructor
 case f=>intro k s;have:=hf k s;simp[go_sem, *]
 all_goals simp[go_sem, *]
theorem zC.lit1{w:World}{lo j:Nat}{t:qQ}{u:Value}(h:zC w j t.kids u)(hl:lo<=j)(o:j<=w.1.size):zC (w.alloc (.cells (qS t u).toArray 57)) lo [t] (.slice (some ⟨w.1.size,0,none⟩) 1 1):=by
 refine⟨[u],?_,?_,trivial⟩
 ·simpa[qZK]using World.ownsRow_lit (base:=lo) (e:=57) (size:=6) w (qS t u).toArray 1 (by omega) (by decide) (by simp[qS])
 ·exact xZ.move (fun g hg hok=>⟨⟨Nat.le_trans hl hok,by simp[Value.ownBlock];omega⟩,heap_alloc_old w _ hg⟩) t u h.lies
theorem zI.alloc{b:Nat}{k x:List UInt8}{n ln c:Int}{v:Value}{w:World}(h:zI b k x n ln c v w)(o:Obj):zI b k x n ln c v (w.alloc o):=h.below ((Below.refl _ _).alloc (Nat.le_refl _) o)
theorem qVb{w0 o:World}{B N s:Nat}{l:List Tok}{d:Int}{k x:List UInt8}{n ln c:Int}{v u:Value}{t:qQ}(S:St w0 B l d o)(y:zI N k x n ln c v o)(z:w0.1.size < N)(hb:zC o s t.kids u)(hl:N+1<=s)(hs:s<=o.1.size) :
 St w0 B l d ((o.setCell ⟨N,5,none⟩ (.slice (some ⟨o.1.size,0,none⟩) 1 1)).alloc (.cells (qS t u).toArray 57)) /\
  Nd N k x n ln c (.slice (some ⟨o.1.size,0,none⟩) 1 1) [t] ((o.setCell ⟨N,5,none⟩ (.slice (some ⟨o.1.size,0,none⟩) 1 1)).alloc (.cells (qS t u).toArray 57)):=by
 refine⟨(S.setN z _ _).alloc _,(y.set5 _).alloc _,?_⟩;have h:=(hb.grown (jM o N 5 (.slice (some ⟨o.1.size,0,none⟩) 1 1)) (fun j e=>by cases e;exact .inl (by omega))).lit1 hl (by simpa using hs);simpa using h
theorem qLf(rec:NT->Int->List Tok->PR qQ)(d:Int)(he:yR 158)(f8:vM 158 (fun p=>#[p]) (d+1) (qQh rec (d+1))):vM 161 (fun p=>#[p]) d (xF rec d):=by
 intro B l w h f6;obtain⟨t,r,rfl⟩:=h.ends.ne;have X:=St.start h;have m5:=X.hB;have f9:=hI f6;have X:=hI X;have m2:=zT;have m9:=vS;have n0:=yW;have g9:=hI (wT 158 d (rec (.binary 0)) he f8);clear he f8;clear h f6;unfold jY at *;go_enter func161,ntmps161
 cases s:(kR t);case false =>
  have H:=hI (kT B t r d _ X.o.ps);rw[s]at H;go_wp2_with fail
  refine(H.o).mono ?_;rintro e w1 ⟨rfl,O⟩;have S1:=hI (X.o.below O);clear X;clear H O;have H:=hI (qQ8 B t r d _ S1.o.ps);go_wp2_with fail
  refine(H.o).mono ?_;rintro e w2 ⟨rfl,hg2⟩;refine⟨rfl,?_⟩;have j:(xF rec d) (t :: r)=.bad t.line t.col 30:=by simp only[bF,if_false,if_true,reduceIte,bN,bM,bO,bU,bP,bV,bW,bB,bA,bT,lN,lC,lA,xF,jV,s,PR.bind,qX,jV]
  rw[j];exact S1.o.pan ⟨rfl,hg2⟩
 case true =>
  have H:=hI (kT B t r d _ X.o.ps);rw[s]at H;go_wp2_with fail
  refine(H.o).mono ?_;rintro e w1 ⟨rfl,O⟩;have S1:=hI (X.o.below O);clear X;clear H O;have m1:t.text≠[]:=qXe S1.o.ps.ends (by simp[kR]at s;omega);have H:=hI (vB B t r d _ S1.o.ps m1);go_wp2_with fail
  refine(H.o).mono ?_;rintro e w2 ⟨rfl,hP2,hg2⟩;have S2:=hI (S1.o.call hP2 hg2);clear S1;clear H hP2 hg2;unfold vT xA at *;have n2:w.1.size < w2.1.size:=S2.o.lt;have L3:=hI (wH.newO t w2);have S3:=hI (S2.o.alloc (qXT t));clear S2;unfold qXT at *;have l1:=L3.o.c1;have l0:=L3.o.c0;have g7:=L3.o.c2;have m0:=L3.o.c3;have g6:=L3.o.c4;have H:=hI (jI t ⟨#[110,97,109,101]⟩ ⟨t.text.toArray⟩);unfold vT xA at *;go_wp2_with fail
  refine(H.o _).mono ?_;rintro e w4 ⟨rfl,hb4⟩;have S4:=hI (S3.o.below hb4);have L4:=hI (L3.o.below hb4);clear S3 L3;clear H hb4;have hwN:w.1.size < w4.1.size:=S4.o.lt;have N5:=hI (Nd.new zM t.text 0 t.line t.col w4);have S5:=hI (S4.o.alloc (wD zM t.text 0 t.line t.col (.slice none 0 0)));have L5:=hI (L4.o.below ((Below.refl _ _).alloc (Nat.le_refl _) (wD zM t.text 0 t.line t.col (.slice none 0 0))));clear S4 L4;unfold wD at *;clear l0 l1 g7 m0 g6;obtain⟨V,r1,f3⟩:=S5.o.ps.ends.ne;subst f3;cases z:(V.text == [91]);case false =>
   have H:=hI (wN B V r1 d [91] _ S5.o.ps);rw[z]at H;go_wp2_with fail
   refine(H.o).mono ?_;rintro e w6 ⟨rfl,y⟩;have S6:=hI (S5.o.below y);have N6:=hI (N5.o.below y);have L6:=hI (L5.o.below y);clear S5 N5 L5;clear H y;have G:=S6.o;have I:=N6.o;have d2:=G.lt;have hs2:=I.lt;try simp only[World.size_setCell,World.size_alloc]at d2 hs2
   have hr:=G.res;have⟨r0,g8,r2,r3,r4,r5,_⟩:=hr.a;have⟨g0,g1,g2,g3,g4,g5,_⟩:=hr.b;clear hr;have hq:=I.nd;have⟨q0,q1,q2,q3,q4,q5,_⟩:=hq.a;clear hq;have d5:=hI G;have d3:=hI I;clear G I S6 N6;unfold zM at q0;go_wp2
   refine bodyPost_ret (v:=qZ (.mk zM t.text 0 t.line t.col []) (.slice none 0 0)) (by simp[results,results161,go_sem,qZ,qQ.kind,qQ.text,qQ.num,qQ.line,qQ.col,qQ.kids,qY,qG,qC,qO,zB,zD,zX,qE,kIf,zS,qA,qV,qF,qD,qP,qW,qN,zW,zM,qL,qM,qT,zK,zL,qH,zA, *]) rfl ?_;have C:(xF rec d) (t :: V :: r1)=.ok (.mk zM t.text 0 t.line t.col []) (V :: r1):=by simp only[bF,if_false,if_true,reduceIte,bN,bM,bO,bU,bP,bV,bW,bB,bA,bT,lN,lC,lA,xF,jV,s,z,PR.bind,qX]
   rw[C];exact d5.o.fin (d3.o.bd.mono (by omega)) _ _ _ _ _ _
  case true =>
   have H:=hI (wN B V r1 d [91] _ S5.o.ps);rw[z]at H;go_wp2_with fail
   refine(H.o).mono ?_;rintro e w6 ⟨rfl,y⟩;have S6:=hI (S5.o.below y);have N6:=hI (N5.o.below y);have L6:=hI (L5.o.below y);clear S5 N5 L5;clear H y;have H:=hI (xV (S:=w6.1.size) [[91]] S6.o.ps (by simp) (by simp) (by simp));simp only[List.map,List.length]at H;go_wp2_with fail
   refine(H.o).mono ?_;rintro e w7 (⟨l7,he7,rfl,hP7,hg7⟩ | ⟨ln,c,code,he7,rfl,hg7⟩);rotate_left
   ·refine⟨rfl,?_⟩;have j:(xF rec d) (t :: V :: r1)=.bad ln c code:=by simp only[bF,if_false,if_true,reduceIte,bN,bM,bO,bU,bP,bV,bW,bB,bA,bT,lN,lC,lA,xF,jV,s,z,PR.bind,qX,he7]
    rw[j];exact S6.o.pan ⟨rfl,hg7⟩
   have S7:=hI (S6.o.call hP7 hg7);have N7:=hI (N6.o.call hg7 (by omega));have L7:=hI (L6.o.grown hg7 (by simp;omega));clear S6 N6 L6;have R:=hI he7;clear H he7 hP7 hg7;have n1:=N7.o.nd.c0;have m3:=N7.o.nd.f 0 nL;have S8:=hI (S7.o.setN hwN 0 (.string ⟨qL.toArray⟩));have N8:=hI (N7.o.setK qL);clear S7 N7;clear L7;have J:xX d (rec (.binary 0)) l7≠.out:=fun e=>f9.o (by simp only[bF,if_false,if_true,reduceIte,bN,bM,bO,bU,bP,bV,bW,bB,bA,bT,lN,lC,lA,xF,jV,s,z,PR.bind,qX,R.o,e])
   have HC:=hI (g9.o B l7 _ S8.o.ps J);have Z:=hI J;clear J;go_wp2_with fail
   refine(HC.o).mono ?_;intro e w9 hq;rcases hq.cases Z.o with⟨t9,l9,q9,n9,c9,U,rfl,d7,d6,A⟩ | ⟨ln,c,code,U,rfl,A⟩;rotate_left
   ·refine⟨rfl,?_⟩;have j:(xF rec d) (t :: V :: r1)=.bad ln c code:=by simp only[bF,if_false,if_true,reduceIte,bN,bM,bO,bU,bP,bV,bW,bB,bA,bT,lN,lC,lA,xF,jV,s,z,PR.bind,qX,R.o,U]
    rw[j];exact S8.o.pan ⟨rfl,A⟩
   have f5:=qVb (S8.o.call d6 A) (N8.o.call A (by omega)).nd hwN d7 (Nat.succ_le_of_lt N8.o.lt) A.size;have Y:=(N8.o.call A (by omega)).nd;have m6:=Y.f 5 nL;have m4:=Y.c5;have n3:=Y.lt;have d4:=hI f5;have d8:=hI U;clear f5 Y hq d7 d6 A U HC Z S8 N8;unfold qZ;have G:=hI d4.o.1;have I:=hI d4.o.2;clear d4;have H:=hI (xV (S:=w9.1.size+1) [[93]] G.o.ps (by simp) (by simp) (by simp));simp only[List.map,List.length]at H;go_wp2_with fail
   refine(H.o).mono ?_;rintro e m7 (⟨l10,he10,rfl,hP10,hg10⟩ | ⟨ln,c,code,he10,rfl,hg10⟩);rotate_left
   ·refine⟨rfl,?_⟩;have j:(xF rec d) (t :: V :: r1)=.bad ln c code:=by simp only[bF,if_false,if_true,reduceIte,bN,bM,bO,bU,bP,bV,bW,bB,bA,bT,lN,lC,lA,xF,jV,s,z,PR.bind,qX,R.o,d8.o,he10]
    rw[j];exact G.o.pan ⟨rfl,hg10⟩
   have f7:=hI (G.o.call hP10 hg10);have f4:=hI (I.o.call hg10 (by omega));clear G I;have d9:=hI he10;clear H he10 hP10 hg10;have G:=f7.o;have I:=f4.o;have d2:=G.lt;have hs2:=I.lt;try simp only[World.size_setCell,World.size_alloc]at d2 hs2
   have hr:=G.res;have⟨r0,g8,r2,r3,r4,r5,_⟩:=hr.a;have⟨g0,g1,g2,g3,g4,g5,_⟩:=hr.b;clear hr;have hq:=I.nd;have⟨q0,q1,q2,q3,q4,q5,_⟩:=hq.a;clear hq;have d5:=hI G;have d3:=hI I;clear G I f7 f4;unfold qL at q0;go_wp2
   refine bodyPost_ret (v:=qZ (.mk qL t.text 0 t.line t.col [t9]) (.slice (some ⟨w9.1.size,0,none⟩) 1 1)) (by simp[results,results161,go_sem,qZ,qQ.kind,qQ.text,qQ.num,qQ.line,qQ.col,qQ.kids,qY,qG,qC,qO,zB,zD,zX,qE,kIf,zS,qA,qV,qF,qD,qP,qW,qN,zW,zM,qL,qM,qT,zK,zL,qH,zA, *]) rfl ?_;have C:(xF rec d) (t :: V :: r1)=.ok (.mk qL t.text 0 t.line t.col [t9]) l10:=by simp only[bF,if_false,if_true,reduceIte,bN,bM,bO,bU,bP,bV,bW,bB,bA,bT,lN,lC,lA,xF,jV,s,z,PR.bind,qX,R.o,d8.o,d9.o]
   rw[C];exact d5.o.fin (d3.o.bd.mono (by omega)) _ _ _ _ _ _
def CPost(B:Nat)(d:Int)(w:World)(p:PR (List qQ))(e:Ending)(w':World):Prop :=
 match p with
 | .ok ts l=>∃ v,e=.returned v/\zC w' w.1.size ts v/\vP B l d w'/\w.grownBy w' (some B)/\ts.length<=900001/\(ts=[]->v=.slice none 0 0)
 | .bad ln c code=>Pan B ln c code w e w'
 | .out=>True
theorem CPost.cases{B:Nat}{d:Int}{w:World}{p:PR (List qQ)}{e:Ending}{w':World}(h:CPost B d w p e w')(ho:p≠.out) :
 (∃ ts l q n c,p=.ok ts l/\e=.returned (.slice q n c)/\zC w' w.1.size ts (.slice q n c)/\vP B l d w'/\w.grownBy w' (some B)/\ts.length<=900001/\(ts=[]->Value.slice q n c=.slice none 0 0)) \/
 ∃ ln c code,p=.bad ln c code/\e=.panicked [{ v:=qXo ln c code,recovered:=false }]/\w.grownBy w' (some B):=by
 cases p with
 | ok ts l =>
  obtain⟨v,rfl,hb,s,hg,j,o⟩:=h;obtain⟨q,n,c,rfl⟩:=hb.shape;exact .inl ⟨ts,l,q,n,c,rfl,rfl,hb,s,hg,j,o⟩
 | bad ln c code=>exact .inr ⟨ln,c,code,rfl,h.1,h.2⟩
 | out=>exact absurd rfl ho
theorem qXF{ops:Array Oper}{rest:List Oper}{o:Oper}{a:Act}{Q:Exit->Act->World->Prop}{w:World}{lo j S dd:Nat}{acc:List qQ}{t:qQ}{v u:Value}(z:o.guard=none)(s x:Operand)
 (ho:o.op=.call { callee:=.builtin .append,args:=#[s,x],argTypes:=#[55,55] }) (hd:o.dst=some dd) (hB:zC w lo acc v) (G:zC w j t.kids u) (hlo:lo<=j) (hv:∀ g,v.ownBlock=some g->g < j) (y:j<=w.1.size)
 (hs:a.eval s=v) (hS:w.1.size=S) (A:a.eval x=.slice (some ⟨S,0,none⟩) 1 1) (C:acc.length < 1000000)
 (h:∀ v' w',zC w' lo (acc++[t]) v'->(w.alloc (.cells (qS t u).toArray 57)).grownBy w' v.ownBlock->wpList prog ops Q rest (a.put (some dd) v') w') :
 wpList prog ops Q (o :: rest) a (w.alloc (.cells (qS t u).toArray 57)) :=
 wpList_plain z fun _ hK'=>qQq s x ho hd hB G hlo hv y hs hS A C fun v' w' h1 h2=>hK' _ _ (h v' w' h1 h2)
theorem app_own{w0 z A:World}{B:Nat}{l:List Tok}{d:Int}{v:Value}{acc:List qQ}{o:Obj}(C:vP B l d z)(hg:w0.grownBy z (some B))(hB:B < w0.1.size)(hb:zC z w0.1.size acc v)(hg7:(z.alloc o).grownBy A v.ownBlock) :
 vP B l d A/\w0.grownBy A (some B):=by
 have y:=hb.lt;have G:=hg.size;refine⟨(C.below ((Below.refl _ _).alloc (Nat.le_refl _) o)).grown hg7 (fun j e=>by have:=(y j e).1;omega),?_⟩;have s:=zY hg o;exact⟨hg7.os.trans s.os,hg7.tape.trans s.tape,hg7.output.trans s.output,Nat.le_trans s.size hg7.size,fun j hj hne=>(hg7.block j (by simp;omega) (fun e=>by have:=(y j e.symm).1;omega)).trans (s.block j hj hne)⟩
def CommaRel(p:List Tok->PR qQ)(n:Nat)(R:PR (List qQ))(w:World)(B:Nat)(d:Int)(k:Nat)(v:Value)(wr:World):Prop :=
 ∃ acc l,vP B l d wr/\w.grownBy wr (some B)/\zC wr w.1.size acc v/\acc≠[]/\vI (fun u=>!(u.text == [44])) (fun l=>(jL [[44]] l).bind fun _ l=>p l) k acc l=R/\acc.length+k<=n+1
theorem qVY(f:Nat)(n:Nat)(d:Int)(p:List Tok->PR qQ)(hn:n<=900000)(he:yR f)(hp:vM f (fun p=>#[p]) d p) :
 ∀ (B:Nat) (l:List Tok) (w:World),vP B l d w->xT n p l≠.out->Calls prog 104 #[.pointer (some ⟨B,0,none⟩), .func (.func f) #[.pointer (some ⟨B,0,none⟩)] #[]] w (CPost B d w (xT n p l)):=by
 intro B l w h g9;have H:=hI (xV (S:=w.1.size) [[40]] h (by simp) (by simp) rfl);simp only[List.map,List.length]at H;have HP:=hI hp;have f9:=hI g9;have U:=h.lt;unfold yR at he;clear h g9 hp;go_enter func104,ntmps104
 go_wp2_with fail
 refine(H.o).mono ?_;rintro e w1 (⟨l1,he1,rfl,hP1,hg1⟩ | ⟨ln,c,code,he1,rfl,hg1⟩);rotate_left
 ·refine⟨rfl,?_⟩;have y:xT n p l=.bad ln c code:=by simp only[xT,PR.bind,he1]
  rw[y];exact⟨rfl,hg1⟩
 have R:=hI he1;obtain⟨t1,r1,rfl⟩:=hP1.ends.ne;have I:=hI (wN B t1 r1 d [41] w1 hP1);have Y:=hI hP1;clear he1 H hP1;cases hf:(t1.text == [41]);case true =>
  rw[hf]at I;go_wp2_with fail
  refine(I.o).mono ?_;rintro e w2 ⟨rfl,A⟩;have H:=hI (xV (S:=w2.1.size) [[41]] (Y.o.below A) (by simp) (by simp) rfl);simp only[List.map,List.length]at H;have hg2:=qR hg1 (zV A (some B));clear I A Y hg1;go_wp2_with fail
  refine(H.o).mono ?_;rintro e w3 (⟨l3,he3,rfl,hP3,hg3⟩ | ⟨ln,c,code,he3,rfl,hg3⟩);rotate_left
  ·refine⟨rfl,?_⟩;have y:xT n p l=.bad ln c code:=by simp only[xT,PR.bind,R.o,qX,hf,if_true,he3]
   rw[y];exact⟨rfl,qR hg2 hg3⟩
  have f5:=hI he3;have d2:=hI hP3;clear he3 hP3 H;go_wp2
  go_ret;have f7:xT n p l=.ok [] l3:=by simp only[xT,PR.bind,R.o,qX,hf,if_true,f5.o]
  rw[f7];exact⟨_,rfl,zC.nil _ _,d2.o,qR hg2 hg3,by simp,fun _=>rfl⟩
 case false =>
  rw[hf]at I;have d6:p (t1 :: r1)≠.out:=fun e=>f9.o (by simp only[xT,PR.bind,R.o,qX,hf,if_false,bF,e])
  have d8:=hI d6;clear d6;go_wp2_with fail
  refine(I.o).mono ?_;rintro e w2 ⟨rfl,A⟩;have HC:=hI (HP.o B (t1 :: r1) w2 (Y.o.below A) d8.o);have hg2:=qR hg1 (zV A (some B));clear I A Y hg1;go_wp2_with fail
  refine(HC.o).mono ?_;intro e w3 hq;rcases hq.cases d8.o with⟨t3,l3,q3,n3,c3,he3,rfl,hb3,hP3,hg3⟩ | ⟨ln,c,code,he3,rfl,hg3⟩;rotate_left
  ·refine⟨rfl,?_⟩;have y:xT n p l=.bad ln c code:=by simp only[xT,PR.bind,R.o,qX,hf,if_false,bF,he3]
   rw[y];exact⟨rfl,qR hg2 hg3⟩
  have f5:=hI he3;have g1:=hI hb3;have d2:=hI hP3;have hg4:=qR hg2 hg3;have hs2:=hg2.size;have hs3:=hg3.size;clear he3 hb3 hP3 hq HC hg2 hg3;unfold qZ;go_wp2_with (at_builtin;refine qXF (dd:=16) (t:=t3) (u:=.slice q3 n3 c3) (acc:=[]) (lo:=w.1.size) rfl _ _ rfl rfl (zC.nil _ _) g1.o (by omega) (fun g hg=>by cases hg) (by omega) rfl rfl rfl (by simp) ?_)
  intro v4 w4 hb4 hg5;obtain⟨hP4,g2⟩:=app_own d2.o hg4 U (zC.nil _ _) hg5;have m0:=hI hP4;have g3:=hI hb4;have d9:∀ x,vI (fun u=>!(u.text == [44])) (fun l=>(jL [[44]] l).bind fun _ l=>p l) n [t3] l3=x->xT n p l=x.bind fun ts l=>(jL [[41]] l).bind fun _ l=>.ok ts l:=fun x hx=>by
   unfold xT;rw[bind_ok R.o];simp only[qX,hf,if_false,bF];rw[bind_ok f5.o,hx]
  have d5:vI (fun u=>!(u.text == [44])) (fun l=>(jL [[44]] l).bind fun _ l=>p l) n [t3] l3≠.out:=fun e=>f9.o (d9 _ e)
  have d7:=hI d5;have X:=hI d9;obtain⟨q4,n4,c4,rfl⟩:=hb4.shape;clear hP4 hb4 d5 d9 g1 d2 hg4 hg5;go_wp2_with fail
  go_loopg [5] n (fun k v wr=>CommaRel p n (vI (fun u=>!(u.text == [44])) (fun l=>(jL [[44]] l).bind fun _ l=>p l) n [t3] l3) w B d k v wr)
  case atStart=>exact⟨[t3],l3,m0.o,g2,by simpa using g3.o,by simp,rfl,by simp;omega⟩
  case round =>
   obtain⟨acc,l5,hP,hg,hb,m1,hm,m6⟩:=hrel;obtain⟨t5,r5,rfl⟩:=hP.ends.ne;obtain⟨q5,n5,c5,rfl⟩:=hb.shape;have I:=hI (wN B t5 r5 d [44] wr hP);have d4:=hI hP;have HB:=hI hb;have HM:=hI hm;clear hP hb hm m0 g3 g2;cases gk with
   | zero=>exact absurd HM.o.symm d7.o
   | succ m =>
   cases Z:(t5.text == [44]);case false =>
    rw[Z]at I;have O:vI (fun u=>!(u.text == [44])) (fun l=>(jL [[44]] l).bind fun _ l=>p l) (m+1) acc (t5 :: r5)=.ok acc (t5 :: r5):=by
     rw[vI];simp only[qX,Z,bN,if_true]
    have z:=hI O;clear O;go_wp2_with fail
    refine(I.o).mono ?_;rintro e w6 ⟨rfl,s⟩;have H:=hI (xV (S:=w6.1.size) [[41]] (d4.o.below s) (by simp) (by simp) rfl);simp only[List.map,List.length]at H;have G:=qR hg (zV s (some B));have d3:=hI (HB.o.below s);clear I s d4 hg HB;go_wp2_with fail
    refine(H.o).mono ?_;rintro e w7 (⟨l7,he7,rfl,hP7,hg7⟩ | ⟨ln,c,code,he7,rfl,hg7⟩);rotate_left
    ·refine⟨rfl,?_⟩;rw[X.o _ (HM.o.symm.trans z.o)];simp only[PR.bind,he7];exact⟨rfl,qR G hg7⟩
    have J:=hI he7;have m2:=hI hP7;clear he7 hP7 H;go_wp2
    go_ret;rw[X.o _ (HM.o.symm.trans z.o)];simp only[PR.bind,J.o];exact⟨_,rfl,d3.o.grown hg7 (fun j e=>by cases e;exact .inl U),m2.o,qR G hg7,by omega,fun e=>absurd e m1⟩
   case true =>
    rw[Z]at I;have O:vI (fun u=>!(u.text == [44])) (fun l=>(jL [[44]] l).bind fun _ l=>p l) (m+1) acc (t5 :: r5)=((jL [[44]] (t5 :: r5)).bind fun _ l=>p l).bind fun t l=>vI (fun u=>!(u.text == [44])) (fun l=>(jL [[44]] l).bind fun _ l=>p l) m (acc++[t]) l:=by
     rw[vI];simp only[qX,Z,bM,bF,if_false]
    have z:=hI (HM.o.symm.trans O);clear O;go_wp2_with fail
    refine(I.o).mono ?_;rintro e w6 ⟨rfl,s⟩;have H:=hI (xV (S:=w6.1.size) [[44]] (d4.o.below s) (by simp) (by simp) rfl);simp only[List.map,List.length]at H;have G:=qR hg (zV s (some B));have d3:=hI (HB.o.below s);clear I s d4 hg HB;go_wp2_with fail
    refine(H.o).mono ?_;rintro e w7 (⟨l7,he7,rfl,hP7,hg7⟩ | ⟨ln,c,code,he7,rfl,hg7⟩);rotate_left
    ·refine⟨rfl,?_⟩;rw[X.o _ z.o];simp only[PR.bind,he7];exact⟨rfl,qR G hg7⟩
    have J:=hI he7;have V:p l7≠.out:=fun e=>d7.o (by rw[z.o];simp only[PR.bind,J.o,e])
    have HC:=hI (HP.o B l7 w7 hP7 V);have g4:=hI V;have hg8:=qR G hg7;have f6:=hI (d3.o.grown hg7 (fun j e=>by cases e;exact .inl U));clear he7 hP7 H V G hg7 d3;go_wp2_with fail
    refine(HC.o).mono ?_;intro e w8 hq;rcases hq.cases g4.o with⟨t8,l8,q8,n8,c8,he8,rfl,g6,hP8,C⟩ | ⟨ln,c,code,he8,rfl,C⟩;rotate_left
    ·refine⟨rfl,?_⟩;rw[X.o _ z.o];simp only[PR.bind,J.o,he8];exact⟨rfl,qR hg8 C⟩
    have m4:=hI he8;have g7:=hI g6;have g5:=hI hP8;have f4:=hI (f6.o.grown C (fun j e=>by cases e;exact .inl U));have g8:=qR hg8 C;have m9:=hg8.size;have m7:=C.size;have g0:=f6.o.lt;clear he8 g6 hP8 hq HC hg8 C f6;unfold qZ;go_wp2_with (at_builtin;refine qXF (dd:=26) (t:=t8) (u:=.slice q8 n8 c8) (acc:=acc) (lo:=w.1.size) rfl _ _ rfl rfl f4.o g7.o (by omega) (fun g hg=>(g0 g hg).2) (by omega) rfl rfl rfl (by omega) ?_)
    intro v9 w9 f3 hg10;obtain⟨f8,hg11⟩:=app_own g5.o g8 U f4.o hg10;have m5:=hI f8;have m3:=hI f3;obtain⟨q9,n9,c9,rfl⟩:=f3.shape;clear f8 f3 hg10 f4 g7 g5 g8 g0;go_wp2
    go_roundg m
    case measure=>omega
    case rel=>exact⟨acc++[t8],l8,m5.o,hg11,m3.o,by simp,by rw[z.o];simp only[PR.bind,J.o,m4.o],by simp;omega⟩
theorem vP.row{B:Nat}{l:List Tok}{d:Int}{w:World}(h:vP B l d w):∃ T o c,w.cell? ⟨B,0,none⟩=some (.slice (some ⟨T,o * 5,none⟩) l.length c)/\(∀ k (h:k < l.length),qKU T (o+k) l[k] w)/\T < B/\l.length<=c:=by
 obtain⟨lo,T,o,c,h⟩:=h;exact⟨T,o,c,h.c0,h.row,h.hT,h.hc⟩
theorem qX8(B:Nat)(l:List Tok)(d:Int)(w:World)(h:vP B l d w) :
 Calls prog 159 #[.pointer (some ⟨B,0,none⟩)] w fun e w'=>e=.returned (.bool (qQR l))/\Below w.1.size w w':=by
 obtain⟨t,r,rfl⟩:=h.ends.ne;have H:=hI (kT B t r d w h);cases y:kR t;case false =>
  have hb:qQR (t :: r)=false:=by cases r <;> simp[qQR,y]
  rw[y]at H;rw[hb];go_enter func159,ntmps159
  go_wp2_with fail
  refine(H.o).mono ?_;rintro e G ⟨rfl,j⟩;go_wp2
  go_ret;exact⟨rfl,j⟩
 case true =>
  have z:t.text≠[]:=qXe h.ends (by simp[kR]at y;omega);obtain⟨u,U,rfl⟩:=(h.ends.tail z).ne;have hb:qQR (t :: u :: U)=(u.text == [40]):=by simp[qQR,y]
  rw[y]at H;rw[hb];have A:=hI h;clear h;go_enter func159,ntmps159
  go_wp2_with fail
  refine(H.o).mono ?_;rintro e G ⟨rfl,j⟩;obtain⟨T,o,c,J,s,hT,hc⟩:=(A.o.below j).row;have R:=(A.o.below j).lt;have I:T < G.1.size:=by omega
  have C:=(s 1 (by simp)).ft;simp only[lO,List.getElem_cons_succ,List.getElem_cons_zero]at J C hc;have O:(o+1) * 5+1=o * 5+6:=by omega
  rw[O]at C;clear s A H;go_wp2
  go_ret;exact⟨rfl,j⟩
structure Hd(N lo:Nat)(k x:List UInt8)(n ln c:Int)(v:Value)(ts:List qQ)(w:World):Prop where
 nd:zI N k x n ln c v w
 bd:zC w lo ts v
theorem Hd.lt{N lo:Nat}{k x:List UInt8}{n ln c:Int}{v:Value}{ts:List qQ}{w:World}(h:Hd N lo k x n ln c v ts w):N < w.1.size:=h.nd.lt
theorem Hd.call{N lo B:Nat}{k x:List UInt8}{n ln c:Int}{v:Value}{ts:List qQ}{w w':World}(h:Hd N lo k x n ln c v ts w)(hg:w.grownBy w' (some B))(hB:B < N/\B < lo):Hd N lo k x n ln c v ts w' :=
 ⟨h.nd.grown hg (by simp;omega),h.bd.grown hg (fun j e=>by cases e;exact .inl hB.2)⟩
theorem Hd.put(t:qQ){lo:Nat}{v:Value}{w:World}(h:zC w lo t.kids v):Hd w.1.size lo t.kind t.text t.num t.line t.col v t.kids (w.alloc (wD t.kind t.text t.num t.line t.col v)):=⟨zI.new _ _ _ _ _ _ w,h.alloc _⟩
theorem Nd.setV{N:Nat}{k x:List UInt8}{n ln c:Int}{v u:Value}{ts:List qQ}{w:World}(h:zI N k x n ln c v w)(hb:zC w (N+1) ts u):Nd N k x n ln c u ts (w.setCell ⟨N,5,none⟩ u) :=
 ⟨h.set5 u,hb.grown (jM _ _ _ _) (fun j e=>by cases e;exact .inl (Nat.lt_succ_self _))⟩
theorem call_does(rec:NT->Int->List Tok->PR qQ)(n:Nat)(d:Int)(hn:n<=900000)(he:yR 173)(d2:vM 173 (fun p=>#[p]) d (qPf rec d)):vM 160 (fun p=>#[p]) d (qQz rec n d):=by
 intro B l w h Y;obtain⟨t,r,rfl⟩:=h.ends.ne;have G:=St.start h;have g6:=G.hB;have d3:=hI Y;have G:=hI G;have f7:=zT;have g8:=vS;have m3:=yW;have d9:=hI (qVY 173 n d (qPf rec d) hn he d2);clear he d2 hn;clear h Y;unfold jY at *;go_enter func160,ntmps160
 cases j:(kR t);case false =>
  have H:=hI (kT B t r d _ G.o.ps);rw[j]at H;go_wp2_with fail
  refine(H.o).mono ?_;rintro e w1 ⟨rfl,C⟩;have O:=hI (G.o.below C);clear G;clear H C;have H:=hI (qQ8 B t r d _ O.o.ps);go_wp2_with fail
  refine(H.o).mono ?_;rintro e w2 ⟨rfl,hg2⟩;refine⟨rfl,?_⟩;have s:(qQz rec n d) (t :: r)=.bad t.line t.col 30:=by simp only[bF,if_false,if_true,reduceIte,bN,bM,bO,bU,bP,bV,bW,bB,bA,bT,lN,lC,lA,qQz,jV,j,PR.bind,qX,jV]
  rw[s];exact O.o.pan ⟨rfl,hg2⟩
 case true =>
  have H:=hI (kT B t r d _ G.o.ps);rw[j]at H;go_wp2_with fail
  refine(H.o).mono ?_;rintro e w1 ⟨rfl,C⟩;have O:=hI (G.o.below C);clear G;clear H C;have f5:t.text≠[]:=qXe O.o.ps.ends (by simp[kR]at j;omega);have H:=hI (vB B t r d _ O.o.ps f5);go_wp2_with fail
  refine(H.o).mono ?_;rintro e w2 ⟨rfl,hP2,hg2⟩;have S2:=hI (O.o.call hP2 hg2);clear O;clear H hP2 hg2;unfold vT xA at *;have m4:w.1.size < w2.1.size:=S2.o.lt;have R:=hI (wH.newO t w2);have S3:=hI (S2.o.alloc (qXT t));clear S2;unfold qXT at *;have l1:=R.o.c1;have l0:=R.o.c0;have d6:=R.o.c2;have f3:=R.o.c3;have d5:=R.o.c4;have H:=hI (jI t ⟨#[99,97,108,108]⟩ ⟨t.text.toArray⟩);unfold vT xA at *;go_wp2_with fail
  refine(H.o _).mono ?_;rintro e w4 ⟨rfl,hb4⟩;have S4:=hI (S3.o.below hb4);have L4:=hI (R.o.below hb4);clear S3 R;clear H hb4;have hwN:w.1.size < w4.1.size:=S4.o.lt;have N5:=hI (Nd.new zW t.text 0 t.line t.col w4);have S5:=hI (S4.o.alloc (wD zW t.text 0 t.line t.col (.slice none 0 0)));have L5:=hI (L4.o.below ((Below.refl _ _).alloc (Nat.le_refl _) (wD zW t.text 0 t.line t.col (.slice none 0 0))));clear S4 L4;unfold wD at *;clear l0 l1 d6 f3 d5;have z:xT n (qPf rec d) r≠.out:=fun e=>d3.o (by simp only[bF,if_false,if_true,reduceIte,bN,bM,bO,bU,bP,bV,bW,bB,bA,bT,lN,lC,lA,qQz,jV,j,PR.bind,qX,e])
  have HC:=hI (d9.o B r _ S5.o.ps z);have I:=hI z;clear z;go_wp2_with fail
  refine(HC.o).mono ?_;intro e w6 X;rcases X.cases I.o with⟨Z,l6,q6,n6,c6,he6,rfl,V,U,y,_,_⟩ | ⟨ln,c,code,he6,rfl,y⟩;rotate_left
  ·refine⟨rfl,?_⟩;have s:(qQz rec n d) (t :: r)=.bad ln c code:=by simp only[bF,if_false,if_true,reduceIte,bN,bM,bO,bU,bP,bV,bW,bB,bA,bT,lN,lC,lA,qQz,jV,j,PR.bind,qX,he6]
   rw[s];exact S5.o.pan ⟨rfl,y⟩
  have A:=(N5.o.call y (by omega)).nd;have g7:=A.f 5 nL;have f9:=A.c5;have m6:=A.lt;have S6:=hI ((S5.o.call U y).setN hwN 5 (.slice q6 n6 c6));have N6:=hI (Nd.setV A (V.mono (Nat.succ_le_of_lt N5.o.lt)));have d8:=hI he6;clear A X V U y he6 HC I S5 N5;clear L5;have S9:=S6.o;have N9:=N6.o;have d4:=S9.lt;have hs2:=N9.lt;try simp only[World.size_setCell,World.size_alloc]at d4 hs2
  have hr:=S9.res;have⟨r0,m0,r2,r3,r4,r5,_⟩:=hr.a;have⟨g0,g1,g2,g3,g4,g5,_⟩:=hr.b;clear hr;have X:=N9.nd;have⟨f4,g9,m5,m1,f8,m2,_⟩:=X.a;clear X;have f6:=hI S9;have d7:=hI N9;clear S9 N9 S6 N6;unfold zW at f4;go_wp2
  refine bodyPost_ret (v:=qZ (.mk zW t.text 0 t.line t.col Z) (.slice q6 n6 c6)) (by simp[results,results160,go_sem,qZ,qQ.kind,qQ.text,qQ.num,qQ.line,qQ.col,qQ.kids,qY,qG,qC,qO,zB,zD,zX,qE,kIf,zS,qA,qV,qF,qD,qP,qW,qN,zW,zM,qL,qM,qT,zK,zL,qH,zA, *]) rfl ?_;have J:(qQz rec n d) (t :: r)=.ok (.mk zW t.text 0 t.line t.col Z) l6:=by simp only[bF,if_false,if_true,reduceIte,bN,bM,bO,bU,bP,bV,bW,bB,bA,bT,lN,lC,lA,qQz,jV,j,PR.bind,qX,d8.o]
  rw[J];exact f6.o.fin (d7.o.bd.mono (by omega)) _ _ _ _ _ _
theorem local_does(d:Int)(R:vM 103 (fun p=>#[p, .string ⟨#[108,111,99,97,108]⟩, .bool false]) d (zG qE false)):vM 145 (fun p=>#[p]) d (qQM):=by
 intro B l w h I;obtain⟨t,r,rfl⟩:=h.ends.ne;have y:=St.start h;have f3:=y.hB;have Z:=hI I;have y:=hI y;have d7:=zT;have f7:=vS;have d8:=yW;have Y:=hI R;clear R;clear h I;unfold jY at *;go_enter func145,ntmps145
 have s:zG qE false (t :: r)≠.out:=fun e=>Z.o (by simp only[bF,if_false,if_true,reduceIte,bN,bM,bO,bU,bP,bV,bW,bB,bA,bT,lN,lC,lA,qQM,PR.bind,qX,e])
 have HC:=hI (Y.o B (t :: r) _ y.o.ps s);have A:=hI s;clear s;go_wp2_with fail
 refine(HC.o).mono ?_;intro e w1 G;rcases G.cases A.o with⟨z,l1,q1,n1,c1,he1,rfl,O,hP1,hg1⟩ | ⟨ln,c,code,he1,rfl,hg1⟩;rotate_left
 ·refine⟨rfl,?_⟩;have j:(qQM) (t :: r)=.bad ln c code:=by simp only[bF,if_false,if_true,reduceIte,bN,bM,bO,bU,bP,bV,bW,bB,bA,bT,lN,lC,lA,qQM,PR.bind,qX,he1]
  rw[j];exact y.o.pan ⟨rfl,hg1⟩
 have hwN:w.1.size < w1.1.size:=(y.o.call hP1 hg1).lt;have N1:=hI (Hd.put z (O.mono (lo':=w.1.size+1) y.o.lt));have V:=hI ((y.o.call hP1 hg1).alloc (wD z.kind z.text z.num z.line z.col (.slice q1 n1 c1)));have J:=hI he1;clear G O hP1 hg1 he1 HC A y;unfold qZ wD at *;have H:=hI (xV (S:=w1.1.size+1) [[59]] V.o.ps (by simp) (by simp) (by simp));simp only[List.map,List.length]at H;go_wp2_with fail
 refine(H.o).mono ?_;rintro e w2 (⟨l2,he2,rfl,hP2,hg2⟩ | ⟨ln,c,code,he2,rfl,hg2⟩);rotate_left
 ·refine⟨rfl,?_⟩;have j:(qQM) (t :: r)=.bad ln c code:=by simp only[bF,if_false,if_true,reduceIte,bN,bM,bO,bU,bP,bV,bW,bB,bA,bT,lN,lC,lA,qQM,PR.bind,qX,J.o,he2]
  rw[j];exact V.o.pan ⟨rfl,hg2⟩
 have S2:=hI (V.o.call hP2 hg2);have N2:=hI (N1.o.call hg2 (by omega));clear V N1;have d3:=hI he2;clear H he2 hP2 hg2;have X:=S2.o;have U:=N2.o;have d2:=X.lt;have hs2:=U.lt;try simp only[World.size_setCell,World.size_alloc]at d2 hs2
 have hr:=X.res;have⟨r0,d6,r2,r3,r4,r5,_⟩:=hr.a;have⟨g0,g1,g2,g3,g4,g5,_⟩:=hr.b;clear hr;have G:=U.nd;have⟨f4,f8,d9,f5,f6,f9,_⟩:=G.a;clear G;have d4:=hI X;have d5:=hI U;clear X U S2 N2;skip
 go_wp2
 refine bodyPost_ret (v:=qZ z (.slice q1 n1 c1)) (by simp[results,results145,go_sem,qZ,qQ.kind,qQ.text,qQ.num,qQ.line,qQ.col,qQ.kids,qY,qG,qC,qO,zB,zD,zX,qE,kIf,zS,qA,qV,qF,qD,qP,qW,qN,zW,zM,qL,qM,qT,zK,zL,qH,zA, *]) rfl ?_;have C:(qQM) (t :: r)=.ok z l2:=by simp only[bF,if_false,if_true,reduceIte,bN,bM,bO,bU,bP,bV,bW,bB,bA,bT,lN,lC,lA,qQM,PR.bind,qX,J.o,d3.o]
 rw[C];exact d4.o.fin (d5.o.bd.mono (by omega)) _ _ _ _ _ _
theorem qPd(rec:NT->Int->List Tok->PR qQ)(n:Nat)(d:Int)(m5:vM 160 (fun p=>#[p]) d (qQz rec n d))(p2:vM 161 (fun p=>#[p]) d (xF rec d))(t3:vM 158 (fun p=>#[p]) d (qQh rec d)):vM 146 (fun p=>#[p]) d (jJ rec n d):=by
 intro B l w h s6;obtain⟨t,r,rfl⟩:=h.ends.ne;have S0:=St.start h;have D9:=S0.hB;have n4:=hI s6;have S0:=hI S0;have D7:=zT;have F0:=vS;have F1:=yW;have s2:=hI m5;have D4:=hI p2;have D3:=hI t3;clear m5 p2 t3;clear h s6;unfold jY at *;go_enter func146,ntmps146
 cases A:(qQR (t :: r));case false =>
  have H:=hI (qX8 B (t :: r) d _ S0.o.ps);rw[A]at H;go_wp2_with fail
  refine(H.o).mono ?_;rintro e w1 ⟨rfl,n3⟩;have S1:=hI (S0.o.below n3);clear S0;clear H n3;have H:=hI (kY B t r d _ S1.o.ps);go_wp2_with fail
  refine(H.o).mono ?_;rintro e w2 ⟨rfl,n1⟩;have S2:=hI (S1.o.below n1);clear S1;clear H n1;have H:=hI (jI t ⟨#[97,115,115,105,103,110]⟩ ⟨#[]⟩);go_wp2_with fail
  refine(H.o _).mono ?_;rintro e w3 ⟨rfl,hb3⟩;have S3:=hI (S2.o.below hb3);clear S2;clear H hb3;have hwN:w.1.size < w3.1.size:=S3.o.lt;have N4:=hI (Nd.new qP [] 0 t.line t.col w3);have S4:=hI (S3.o.alloc (wD qP [] 0 t.line t.col (.slice none 0 0)));clear S3;unfold wD at *;have G:xF rec d (t :: r)≠.out:=fun e=>n4.o (by simp only[bF,if_false,if_true,reduceIte,bN,bM,bO,bU,bP,bV,bW,bB,bA,bT,lN,lC,lA,jJ,A,PR.bind,qX,e])
  have z:=hI G;clear G;have n8:=hI S4.o.drew;have n0:=hI N4.o.drew;clear S4 N4;go_wp2_with fail
  have U:=n0.o.nd.c5;refine wRg (S:=fun w'=>w'.cell? ⟨w3.1.size,5,none⟩=some (.slice none 0 0)) 5 ?_;refine wTk 0 16 (.pointer (some ⟨w3.1.size,5,none⟩)) ?_ U ?_
  ·intro _ y;go_simp
  refine wTk 1 17 (.slice none 0 0) ?_ U ?_
  ·intro _ y;go_simp
  refine wTk 2 18 (.pointer (some ⟨B,0,none⟩)) ?_ U ?_
  ·intro _ y;go_simp
  refine wOn 3 fun K hK=>?_
  go_simp;have HC:=D4.o B (t :: r) _ n8.o.ps z.o;refine HC.mono ?_;intro e s7 hq;rcases hq.cases z.o with⟨t5,l5,q5,n5,c5,he5,rfl,f4,d2,s⟩ | ⟨ln,c,code,he5,rfl,s⟩;rotate_left
  ·refine⟨rfl,?_⟩;have j:(jJ rec n d) (t :: r)=.bad ln c code:=by simp only[bF,if_false,if_true,reduceIte,bN,bM,bO,bU,bP,bV,bW,bB,bA,bT,lN,lC,lA,jJ,A,PR.bind,qX,he5]
   rw[j];exact n8.o.pan ⟨rfl,s⟩
  have S6:=hI (n8.o.call d2 s);have O:=hI (n0.o.call s (by omega));have f5:=hI f4;have R:=n0.o.bd.lt;have f7:=O.o.nd.c5;have m4:=O.o.nd.f 5 nL;have s1:=O.o.lt;have d9:=n0.o.lt;have Y:=s.size;clear d2 s f4 HC hq n8 n0;unfold qZ;refine kK hK f7 ?_;clear hK K;refine wOn 4 fun K hK=>?_
  go_simp;refine kK hK (by go_simp) ?_;clear hK K;refine wOn 5 fun K hK=>?_
  refine qQq (dd:=21) (t:=t5) (u:=.slice q5 n5 c5) _ _ rfl rfl O.o.bd f5.o (by omega) (fun g hg=>(R g hg).2) Y rfl rfl rfl (by simp) (fun v7 w5 C hg7=>?_);refine kD hK ?_;clear hK K;obtain⟨m9,m3,m2,rfl⟩:=C.shape;have f6:=qZ8 S6.o O.o hwN C hg7;have m1:w5.frozen? ⟨w3.1.size,5,none⟩=false:=((O.o.nd.grown (World.grownBy_alloc s7 _ none) (by simp)).grown hg7 (fun e=>by have:=(R _ e.symm).1;omega)).f 5 nL;have m7:=((O.o.nd.grown (World.grownBy_alloc s7 _ none) (by simp)).grown hg7 (fun e=>by have:=(R _ e.symm).1;omega)).c5;have d4:=hI f6;clear f6 C hg7 S6 O f5 R U f7 m4 d9 Y;try simp only[Act.put,pZa,pZb,pZc]
  refine wOn 6 fun K hK=>?_
  go_simp;refine kD hK ?_;clear hK K;refine wOn 7 fun K hK=>?_
  go_simp;refine kD hK ?_;clear hK K;refine wDn ?_ _;clear m1 m7;have S5:=hI d4.o.1;have N5:=hI d4.o.2;have Z:=hI he5;clear d4 he5 z;have f8:=N5.o.lt;simp only[World.size_setCell]at f8;have H:=hI (xV (S:=w5.1.size) [[61]] S5.o.ps (by simp) (by simp) (by simp));simp only[List.map,List.length]at H;go_wp2_with fail
  refine(H.o).mono ?_;rintro e w6 (⟨l6,he6,rfl,d2,s⟩ | ⟨ln,c,code,he6,rfl,s⟩);rotate_left
  ·refine⟨rfl,?_⟩;have j:(jJ rec n d) (t :: r)=.bad ln c code:=by simp only[bF,if_false,if_true,reduceIte,bN,bM,bO,bU,bP,bV,bW,bB,bA,bT,lN,lC,lA,jJ,A,PR.bind,qX,Z.o,he6]
   rw[j];exact S5.o.pan ⟨rfl,s⟩
  have S6:=hI (S5.o.call d2 s);have O:=hI (N5.o.call s (by omega));clear S5 N5;have d3:=hI he6;clear H he6 d2 s;obtain⟨t1,r1,r8⟩:=S6.o.ps.ends.ne;subst r8;cases X:(t1.text == qW);case false =>
   have H:=hI (wN B t1 r1 d qW _ S6.o.ps);rw[X]at H;go_wp2_with fail
   refine(H.o).mono ?_;rintro e w7 ⟨rfl,C⟩;have S7:=hI (S6.o.below C);have N7:=hI (O.o.below C);clear S6 O;clear H C;cases d5:(qQR (t1 :: r1));case false =>
    have H:=hI (qX8 B (t1 :: r1) d _ S7.o.ps);rw[d5]at H;go_wp2_with fail
    refine(H.o).mono ?_;rintro e w8 ⟨rfl,g7⟩;have S8:=hI (S7.o.below g7);have N8:=hI (N7.o.below g7);clear S7 N7;clear H g7;have G:qQh rec d (t1 :: r1)≠.out:=fun e=>n4.o (by simp only[bF,if_false,if_true,reduceIte,bN,bM,bO,bU,bP,bV,bW,bB,bA,bT,lN,lC,lA,jJ,A,X,d5,PR.bind,qX,Z.o,d3.o,e])
    have z:=hI G;clear G;have p0:=hI S8.o.drew;have m6:=hI N8.o.drew;clear S8 N8;go_wp2_with fail
    have U:=m6.o.nd.c5;refine wRg (S:=fun w'=>w'.cell? ⟨w3.1.size,5,none⟩=some (.slice m9 m3 m2)) 5 ?_;refine wTk 0 26 (.pointer (some ⟨w3.1.size,5,none⟩)) ?_ U ?_
    ·intro _ y;go_simp
    refine wTk 1 27 (.slice m9 m3 m2) ?_ U ?_
    ·intro _ y;go_simp
    refine wTk 2 28 (.pointer (some ⟨B,0,none⟩)) ?_ U ?_
    ·intro _ y;go_simp
    refine wOn 3 fun K hK=>?_
    go_simp;have HC:=D3.o B (t1 :: r1) _ p0.o.ps z.o;refine HC.mono ?_;intro e s3 hq;rcases hq.cases z.o with⟨t9,l9,q9,n9,c9,n6,rfl,f4,d2,s⟩ | ⟨ln,c,code,n6,rfl,s⟩;rotate_left
    ·refine⟨rfl,?_⟩;have j:(jJ rec n d) (t :: r)=.bad ln c code:=by simp only[bF,if_false,if_true,reduceIte,bN,bM,bO,bU,bP,bV,bW,bB,bA,bT,lN,lC,lA,jJ,A,X,d5,PR.bind,qX,Z.o,d3.o,n6]
     rw[j];exact p0.o.pan ⟨rfl,s⟩
    have S6:=hI (p0.o.call d2 s);have O:=hI (m6.o.call s (by omega));have f5:=hI f4;have R:=m6.o.bd.lt;have f7:=O.o.nd.c5;have m4:=O.o.nd.f 5 nL;have s1:=O.o.lt;have d9:=m6.o.lt;have Y:=s.size;clear d2 s f4 HC hq p0 m6;unfold qZ;refine kK hK f7 ?_;clear hK K;refine wOn 4 fun K hK=>?_
    go_simp;refine kK hK (by go_simp) ?_;clear hK K;refine wOn 5 fun K hK=>?_
    refine qQq (dd:=31) (t:=t9) (u:=.slice q9 n9 c9) _ _ rfl rfl O.o.bd f5.o (by omega) (fun g hg=>(R g hg).2) Y rfl rfl rfl (by simp) (fun v7 w9 C hg7=>?_);refine kD hK ?_;clear hK K;obtain⟨t7,t4,D2,rfl⟩:=C.shape;have f6:=qZ8 S6.o O.o hwN C hg7;have m1:w9.frozen? ⟨w3.1.size,5,none⟩=false:=((O.o.nd.grown (World.grownBy_alloc s3 _ none) (by simp)).grown hg7 (fun e=>by have:=(R _ e.symm).1;omega)).f 5 nL;have m7:=((O.o.nd.grown (World.grownBy_alloc s3 _ none) (by simp)).grown hg7 (fun e=>by have:=(R _ e.symm).1;omega)).c5;have d4:=hI f6;clear f6 C hg7 S6 O f5 R U f7 m4 d9 Y;try simp only[Act.put,pZa,pZb,pZc]
    refine wOn 6 fun K hK=>?_
    go_simp;refine kD hK ?_;clear hK K;refine wOn 7 fun K hK=>?_
    go_simp;refine kD hK ?_;clear hK K;refine wDn ?_ _;clear m1 m7;have I:=hI d4.o.1;have V:=hI d4.o.2;have r7:=hI n6;clear d4 n6 z;have f8:=V.o.lt;simp only[World.size_setCell]at f8;have H:=hI (xV (S:=w9.1.size) [[59]] I.o.ps (by simp) (by simp) (by simp));simp only[List.map,List.length]at H;go_wp2_with fail
    refine(H.o).mono ?_;rintro e n7 (⟨l10,he10,rfl,hP10,hg10⟩ | ⟨ln,c,code,he10,rfl,hg10⟩);rotate_left
    ·refine⟨rfl,?_⟩;have j:(jJ rec n d) (t :: r)=.bad ln c code:=by simp only[bF,if_false,if_true,reduceIte,bN,bM,bO,bU,bP,bV,bW,bB,bA,bT,lN,lC,lA,jJ,A,X,d5,PR.bind,qX,Z.o,d3.o,r7.o,he10]
     rw[j];exact I.o.pan ⟨rfl,hg10⟩
    have d6:=hI (I.o.call hP10 hg10);have d8:=hI (V.o.call hg10 (by omega));clear I V;have d7:=hI he10;clear H he10 hP10 hg10;have I:=d6.o;have V:=d8.o;have f9:=I.lt;have hs2:=V.lt;try simp only[World.size_setCell,World.size_alloc]at f9 hs2
    have hr:=I.res;have⟨r0,p5,r2,r3,r4,r5,_⟩:=hr.a;have⟨g0,g1,g2,g3,g4,g5,_⟩:=hr.b;clear hr;have hq:=V.nd;have⟨m0,p4,p9,p7,p3,p8,_⟩:=hq.a;clear hq;have g8:=hI I;have g6:=hI V;clear I V d6 d8;unfold qP at m0;go_wp2
    refine bodyPost_ret (v:=qZ (.mk qP [] 0 t.line t.col [t5,t9]) (.slice t7 t4 D2)) (by simp[results,results146,go_sem,qZ,qQ.kind,qQ.text,qQ.num,qQ.line,qQ.col,qQ.kids,qY,qG,qC,qO,zB,zD,zX,qE,kIf,zS,qA,qV,qF,qD,qP,qW,qN,zW,zM,qL,qM,qT,zK,zL,qH,zA, *]) rfl ?_;have J:(jJ rec n d) (t :: r)=.ok (.mk qP [] 0 t.line t.col [t5,t9]) l10:=by simp only[bF,if_false,if_true,reduceIte,bN,bM,bO,bU,bP,bV,bW,bB,bA,bT,lN,lC,lA,jJ,A,X,d5,PR.bind,qX,Z.o,d3.o,r7.o,d7.o]
    rw[J];exact g8.o.fin (g6.o.bd.mono (by omega)) _ _ _ _ _ _
   case true =>
    have H:=hI (qX8 B (t1 :: r1) d _ S7.o.ps);rw[d5]at H;go_wp2_with fail
    refine(H.o).mono ?_;rintro e w8 ⟨rfl,g7⟩;have S8:=hI (S7.o.below g7);have N8:=hI (N7.o.below g7);clear S7 N7;clear H g7;have D5:=N8.o.nd.c0;have t6:=N8.o.nd.f 0 nL;have I:=hI (S8.o.setN hwN 0 (.string ⟨qN.toArray⟩));have V:=hI (N8.o.setK qN);clear S8 N8;have G:qQz rec n d (t1 :: r1)≠.out:=fun e=>n4.o (by simp only[bF,if_false,if_true,reduceIte,bN,bM,bO,bU,bP,bV,bW,bB,bA,bT,lN,lC,lA,jJ,A,X,d5,PR.bind,qX,Z.o,d3.o,e])
    have z:=hI G;clear G;have g9:=hI I.o.drew;have f3:=hI V.o.drew;clear I V;go_wp2_with fail
    have U:=f3.o.nd.c5;refine wRg (S:=fun w'=>w'.cell? ⟨w3.1.size,5,none⟩=some (.slice m9 m3 m2)) 5 ?_;refine wTk 0 44 (.pointer (some ⟨w3.1.size,5,none⟩)) ?_ U ?_
    ·intro _ y;go_simp
    refine wTk 1 45 (.slice m9 m3 m2) ?_ U ?_
    ·intro _ y;go_simp
    refine wTk 2 46 (.pointer (some ⟨B,0,none⟩)) ?_ U ?_
    ·intro _ y;go_simp
    refine wOn 3 fun K hK=>?_
    go_simp;have HC:=s2.o B (t1 :: r1) _ g9.o.ps z.o;refine HC.mono ?_;intro e p1 hq;rcases hq.cases z.o with⟨p6,l10,D0,D1,D6,he10,rfl,f4,d2,s⟩ | ⟨ln,c,code,he10,rfl,s⟩;rotate_left
    ·refine⟨rfl,?_⟩;have j:(jJ rec n d) (t :: r)=.bad ln c code:=by simp only[bF,if_false,if_true,reduceIte,bN,bM,bO,bU,bP,bV,bW,bB,bA,bT,lN,lC,lA,jJ,A,X,d5,PR.bind,qX,Z.o,d3.o,he10]
     rw[j];exact g9.o.pan ⟨rfl,s⟩
    have S6:=hI (g9.o.call d2 s);have O:=hI (f3.o.call s (by omega));have f5:=hI f4;have R:=f3.o.bd.lt;have f7:=O.o.nd.c5;have m4:=O.o.nd.f 5 nL;have s1:=O.o.lt;have d9:=f3.o.lt;have Y:=s.size;clear d2 s f4 HC hq g9 f3;unfold qZ;refine kK hK f7 ?_;clear hK K;refine wOn 4 fun K hK=>?_
    go_simp;refine kK hK (by go_simp) ?_;clear hK K;refine wOn 5 fun K hK=>?_
    refine qQq (dd:=49) (t:=p6) (u:=.slice D0 D1 D6) _ _ rfl rfl O.o.bd f5.o (by omega) (fun g hg=>(R g hg).2) Y rfl rfl rfl (by simp) (fun v7 n7 C hg7=>?_);refine kD hK ?_;clear hK K;obtain⟨t0,r6,s5,rfl⟩:=C.shape;have f6:=qZ8 S6.o O.o hwN C hg7;have m1:n7.frozen? ⟨w3.1.size,5,none⟩=false:=((O.o.nd.grown (World.grownBy_alloc p1 _ none) (by simp)).grown hg7 (fun e=>by have:=(R _ e.symm).1;omega)).f 5 nL;have m7:=((O.o.nd.grown (World.grownBy_alloc p1 _ none) (by simp)).grown hg7 (fun e=>by have:=(R _ e.symm).1;omega)).c5;have d4:=hI f6;clear f6 C hg7 S6 O f5 R U f7 m4 d9 Y;try simp only[Act.put,pZa,pZb,pZc]
    refine wOn 6 fun K hK=>?_
    go_simp;refine kD hK ?_;clear hK K;refine wOn 7 fun K hK=>?_
    go_simp;refine kD hK ?_;clear hK K;refine wDn ?_ _;clear m1 m7;have d6:=hI d4.o.1;have d8:=hI d4.o.2;have d7:=hI he10;clear d4 he10 z;have f8:=d8.o.lt;simp only[World.size_setCell]at f8;have H:=hI (xV (S:=n7.1.size) [[59]] d6.o.ps (by simp) (by simp) (by simp));simp only[List.map,List.length]at H;go_wp2_with fail
    refine(H.o).mono ?_;rintro e D8 (⟨l11,he11,rfl,hP11,hg11⟩ | ⟨ln,c,code,he11,rfl,hg11⟩);rotate_left
    ·refine⟨rfl,?_⟩;have j:(jJ rec n d) (t :: r)=.bad ln c code:=by simp only[bF,if_false,if_true,reduceIte,bN,bM,bO,bU,bP,bV,bW,bB,bA,bT,lN,lC,lA,jJ,A,X,d5,PR.bind,qX,Z.o,d3.o,d7.o,he11]
     rw[j];exact d6.o.pan ⟨rfl,hg11⟩
    have r9:=hI (d6.o.call hP11 hg11);have s9:=hI (d8.o.call hg11 (by omega));clear d6 d8;have s4:=hI he11;clear H he11 hP11 hg11;have I:=r9.o;have V:=s9.o;have f9:=I.lt;have hs2:=V.lt;try simp only[World.size_setCell,World.size_alloc]at f9 hs2
    have hr:=I.res;have⟨r0,p5,r2,r3,r4,r5,_⟩:=hr.a;have⟨g0,g1,g2,g3,g4,g5,_⟩:=hr.b;clear hr;have hq:=V.nd;have⟨m0,p4,p9,p7,p3,p8,_⟩:=hq.a;clear hq;have g8:=hI I;have g6:=hI V;clear I V r9 s9;unfold qN at m0;go_wp2
    refine bodyPost_ret (v:=qZ (.mk qN [] 0 t.line t.col [t5,p6]) (.slice t0 r6 s5)) (by simp[results,results146,go_sem,qZ,qQ.kind,qQ.text,qQ.num,qQ.line,qQ.col,qQ.kids,qY,qG,qC,qO,zB,zD,zX,qE,kIf,zS,qA,qV,qF,qD,qP,qW,qN,zW,zM,qL,qM,qT,zK,zL,qH,zA, *]) rfl ?_;have J:(jJ rec n d) (t :: r)=.ok (.mk qN [] 0 t.line t.col [t5,p6]) l11:=by simp only[bF,if_false,if_true,reduceIte,bN,bM,bO,bU,bP,bV,bW,bB,bA,bT,lN,lC,lA,jJ,A,X,d5,PR.bind,qX,Z.o,d3.o,d7.o,s4.o]
    rw[J];exact g8.o.fin (g6.o.bd.mono (by omega)) _ _ _ _ _ _
  case true =>
   have H:=hI (wN B t1 r1 d qW _ S6.o.ps);rw[X]at H;go_wp2_with fail
   refine(H.o).mono ?_;rintro e w7 ⟨rfl,C⟩;have S7:=hI (S6.o.below C);have N7:=hI (O.o.below C);clear S6 O;clear H C;have H:=hI (xV (S:=w7.1.size) [qW,[40],[41]] S7.o.ps (by simp[*,qY,qG,qC,qO,zB,zD,zX,qE,kIf,zS,qA,qV,qF,qD,qP,qW,qN,zW,zM,qL,qM,qT,zK,zL,qH,zA]) (by simp) (by simp));simp only[List.map,List.length]at H;go_wp2_with fail
   refine(H.o).mono ?_;rintro e w8 (⟨l8,he8,rfl,hP8,hg8⟩ | ⟨ln,c,code,he8,rfl,hg8⟩);rotate_left
   ·refine⟨rfl,?_⟩;have j:(jJ rec n d) (t :: r)=.bad ln c code:=by simp only[bF,if_false,if_true,reduceIte,bN,bM,bO,bU,bP,bV,bW,bB,bA,bT,lN,lC,lA,jJ,A,X,PR.bind,qX,Z.o,d3.o,he8]
    rw[j];exact S7.o.pan ⟨rfl,hg8⟩
   have S8:=hI (S7.o.call hP8 hg8);have N8:=hI (N7.o.call hg8 (by omega));clear S7 N7;have s0:=hI he8;clear H he8 hP8 hg8;have D5:=N8.o.nd.c0;have t6:=N8.o.nd.f 0 nL;have I:=hI (S8.o.setN hwN 0 (.string ⟨qW.toArray⟩));have V:=hI (N8.o.setK qW);clear S8 N8;have H:=hI (xV (S:=w8.1.size) [[59]] I.o.ps (by simp) (by simp) (by simp));simp only[List.map,List.length]at H;go_wp2_with fail
   refine(H.o).mono ?_;rintro e n7 (⟨l10,he10,rfl,hP10,hg10⟩ | ⟨ln,c,code,he10,rfl,hg10⟩);rotate_left
   ·refine⟨rfl,?_⟩;have j:(jJ rec n d) (t :: r)=.bad ln c code:=by simp only[bF,if_false,if_true,reduceIte,bN,bM,bO,bU,bP,bV,bW,bB,bA,bT,lN,lC,lA,jJ,A,X,PR.bind,qX,Z.o,d3.o,s0.o,he10]
    rw[j];exact I.o.pan ⟨rfl,hg10⟩
   have d6:=hI (I.o.call hP10 hg10);have d8:=hI (V.o.call hg10 (by omega));clear I V;have d7:=hI he10;clear H he10 hP10 hg10;have I:=d6.o;have V:=d8.o;have f9:=I.lt;have hs2:=V.lt;try simp only[World.size_setCell,World.size_alloc]at f9 hs2
   have hr:=I.res;have⟨r0,p5,r2,r3,r4,r5,_⟩:=hr.a;have⟨g0,g1,g2,g3,g4,g5,_⟩:=hr.b;clear hr;have hq:=V.nd;have⟨m0,p4,p9,p7,p3,p8,_⟩:=hq.a;clear hq;have g8:=hI I;have g6:=hI V;clear I V d6 d8;unfold qW at m0;go_wp2
   refine bodyPost_ret (v:=qZ (.mk qW [] 0 t.line t.col [t5]) (.slice m9 m3 m2)) (by simp[results,results146,go_sem,qZ,qQ.kind,qQ.text,qQ.num,qQ.line,qQ.col,qQ.kids,qY,qG,qC,qO,zB,zD,zX,qE,kIf,zS,qA,qV,qF,qD,qP,qW,qN,zW,zM,qL,qM,qT,zK,zL,qH,zA, *]) rfl ?_;have J:(jJ rec n d) (t :: r)=.ok (.mk qW [] 0 t.line t.col [t5]) l10:=by simp only[bF,if_false,if_true,reduceIte,bN,bM,bO,bU,bP,bV,bW,bB,bA,bT,lN,lC,lA,jJ,A,X,PR.bind,qX,Z.o,d3.o,s0.o,d7.o]
   rw[J];exact g8.o.fin (g6.o.bd.mono (by omega)) _ _ _ _ _ _
 case true =>
  have H:=hI (qX8 B (t :: r) d _ S0.o.ps);rw[A]at H;go_wp2_with fail
  refine(H.o).mono ?_;rintro e w1 ⟨rfl,n3⟩;have S1:=hI (S0.o.below n3);clear S0;clear H n3;have G:qQz rec n d (t :: r)≠.out:=fun e=>n4.o (by simp only[bF,if_false,if_true,reduceIte,bN,bM,bO,bU,bP,bV,bW,bB,bA,bT,lN,lC,lA,jJ,A,PR.bind,qX,e])
  have HC:=hI (s2.o B (t :: r) _ S1.o.ps G);have z:=hI G;clear G;go_wp2_with fail
  refine(HC.o).mono ?_;intro e w2 hq;rcases hq.cases z.o with⟨t2,l2,q2,n2,c2,he2,rfl,n1,hP2,hg2⟩ | ⟨ln,c,code,he2,rfl,hg2⟩;rotate_left
  ·refine⟨rfl,?_⟩;have j:(jJ rec n d) (t :: r)=.bad ln c code:=by simp only[bF,if_false,if_true,reduceIte,bN,bM,bO,bU,bP,bV,bW,bB,bA,bT,lN,lC,lA,jJ,A,PR.bind,qX,he2]
   rw[j];exact S1.o.pan ⟨rfl,hg2⟩
  have hwN:w.1.size < w2.1.size:=(S1.o.call hP2 hg2).lt;have N2:=hI (Hd.put t2 (n1.mono (lo':=w.1.size+1) S1.o.lt));have S2:=hI ((S1.o.call hP2 hg2).alloc (wD t2.kind t2.text t2.num t2.line t2.col (.slice q2 n2 c2)));have s8:=hI he2;clear hq n1 hP2 hg2 he2 HC z S1;unfold qZ wD at *;have H:=hI (xV (S:=w2.1.size+1) [[59]] S2.o.ps (by simp) (by simp) (by simp));simp only[List.map,List.length]at H;go_wp2_with fail
  refine(H.o).mono ?_;rintro e w3 (⟨l3,he3,rfl,hP3,hg3⟩ | ⟨ln,c,code,he3,rfl,hg3⟩);rotate_left
  ·refine⟨rfl,?_⟩;have j:(jJ rec n d) (t :: r)=.bad ln c code:=by simp only[bF,if_false,if_true,reduceIte,bN,bM,bO,bU,bP,bV,bW,bB,bA,bT,lN,lC,lA,jJ,A,PR.bind,qX,s8.o,he3]
   rw[j];exact S2.o.pan ⟨rfl,hg3⟩
  have S3:=hI (S2.o.call hP3 hg3);have N3:=hI (N2.o.call hg3 (by omega));clear S2 N2;have t8:=hI he3;clear H he3 hP3 hg3;have I:=S3.o;have V:=N3.o;have f9:=I.lt;have hs2:=V.lt;try simp only[World.size_setCell,World.size_alloc]at f9 hs2
  have hr:=I.res;have⟨r0,p5,r2,r3,r4,r5,_⟩:=hr.a;have⟨g0,g1,g2,g3,g4,g5,_⟩:=hr.b;clear hr;have hq:=V.nd;have⟨m0,p4,p9,p7,p3,p8,_⟩:=hq.a;clear hq;have g8:=hI I;have g6:=hI V;clear I V S3 N3;skip
  go_wp2
  refine bodyPost_ret (v:=qZ t2 (.slice q2 n2 c2)) (by simp[results,results146,go_sem,qZ,qQ.kind,qQ.text,qQ.num,qQ.line,qQ.col,qQ.kids,qY,qG,qC,qO,zB,zD,zX,qE,kIf,zS,qA,qV,qF,qD,qP,qW,qN,zW,zM,qL,qM,qT,zK,zL,qH,zA, *]) rfl ?_;have J:(jJ rec n d) (t :: r)=.ok t2 l3:=by simp only[bF,if_false,if_true,reduceIte,bN,bM,bO,bU,bP,bV,bW,bB,bA,bT,lN,lC,lA,jJ,A,PR.bind,qX,s8.o,t8.o]
  rw[J];exact g8.o.fin (g6.o.bd.mono (by omega)) _ _ _ _ _ _
theorem jA{P:Program}{ops:Array Oper}{Q:Exit->Act->World->Prop}{md:Region.Mode}{S:World->Prop}{tail:Nat->Bool}{i j:Nat}{o y:Oper}{fuel:Nat}{s:Array Bool}{a:Act}{w:World}(hi:ops[i]? = some o)(C:ops[j]? = some y)(hr:Region.ready md ops s=[i,j])(G:Region.wanted o (yielded ops a.tmps)=true)(z:Region.wanted y (yielded ops a.tmps)=true)
 (h:∀ K:Act->World->Prop,Shut (∀ a' w',(tail i=false->S w')->vR P md ops Q S tail fuel (s.setIfInBounds i true) a' w'->K a' w')->o.wp P a w K Q)
 (I:∀ K:Act->World->Prop,Shut (∀ a' w',(tail j=false->S w')->vR P md ops Q S tail fuel (s.setIfInBounds j true) a' w'->K a' w')->y.wp P a w K Q):vR P md ops Q S tail (fuel+1) s a w:=by
 refine⟨fun h0=>(by rw[hr]at h0;cases h0),fun k hk=>?_⟩;rw[hr]at hk;have A:k=i\/k=j:=by simpa using hk
 rcases A with rfl | rfl
 ·unfold wpOp;simp only[hi,G,if_true];exact .inl (h _ (fun a' w' h1 h2=>⟨h1,h2⟩))
 ·unfold wpOp;simp only[C,z,if_true];exact .inl (I _ (fun a' w' h1 h2=>⟨h1,h2⟩))
def CutPost(F:Act->Nat->Act)(a:Act)(I:Nat->World->Prop)(e:Exit)(a':Act)(w':World):Prop :=
 match e with
 | .normal=>∃ N,a'=F a N/\I N w'
 | _=>False
theorem qXG{P:Program}{c:Code}{Q:Exit->Act->World->Prop}{a:Act}{w:World}(F:Act->Nat->Act)(I:Nat->World->Prop)(h:c.wp P (CutPost F a I) a w)(k:∀ N w',I N w'->Q .normal (F a N) w'):c.wp P Q a w:=by
 refine wp_mono h ?_;intro e a' w' j;cases e with
 | normal =>
  obtain⟨N,rfl,hI⟩:=j;exact k N w' hI
 | exit id=>exact j.elim
 | goto l=>exact j.elim
 | ret=>exact j.elim
 | panic ch=>exact j.elim
 | outgrown=>exact j.elim
def PanPost(ch:List PanicEntry)(I:World->Prop)(e:Exit)(a':Act)(w':World):Prop :=
 match e with
 | .panic c=>a'.defers=[]/\c=ch/\I w'
 | _=>False
theorem wp_pan{P:Program}{c:Code}{Q:Exit->Act->World->Prop}{a:Act}{w:World}(ch:List PanicEntry)(I:World->Prop)(h:c.wp P (PanPost ch I) a w)(k:∀ a' w',a'.defers=[]->I w'->Q (.panic ch) a' w'):c.wp P Q a w:=by
 refine wp_mono h ?_;intro e a' w' j;cases e with
 | normal=>exact j.elim
 | exit id=>exact j.elim
 | goto l=>exact j.elim
 | ret=>exact j.elim
 | panic ch =>
  obtain⟨o,rfl,h2⟩:=j;exact k _ _ o h2
 | outgrown=>exact j.elim
theorem zI.six{b:Nat}{k x:List UInt8}{n ln c:Int}{v:Value}{w:World}(h:zI b k x n ln c v w)(y o:List UInt8)(n' j c':Int)(s:Value) :
 zI b y o n' j c' s (six w b (.string ⟨y.toArray⟩) (.string ⟨o.toArray⟩) (.int .u64 n') (.int .i64 j) (.int .i64 c') s):=by
 have⟨C,A,h2,h3,h4,G,_⟩:=h.a;have hf:=h.f;unfold Go.Proofs.YtiajhekdhhhghaaGreatDoor.six;constructor
 case f=>intro k z;have:=hf k z;simp[go_sem, *]
 all_goals simp[go_sem, *]
theorem St.six{w0:World}{B:Nat}{l:List Tok}{d:Int}{w:World}(h:St w0 B l d w){k:Nat}(o:w0.1.size < k)(a b c d' e f:Value):St w0 B l d (six w k a b c d' e f):=h.local (vQ w k a b c d' e f) (fun j e=>by cases e;exact o)
theorem qUS(rec:NT->Int->List Tok->PR qQ)(d:Int)(he:yR 181)(n6:vM 181 (fun p=>#[p]) (d+1) (rec .operand (d+1)))(m0:vM 185 (fun p=>#[p]) d (yJ rec d))(m9:vM 161 (fun p=>#[p]) d (xF rec d)):vM 181 (fun p=>#[p]) d (jU rec d):=by
 intro B l w h p3;obtain⟨t,r,rfl⟩:=h.ends.ne;have S0:=St.start h;have D1:=S0.hB;have g7:=Lib.hid p3;have S0:=Lib.hid S0;have t6:=zT;have D3:=vS;have D8:=yW;have r1:=Lib.hid (wT 181 d (rec .operand) he n6);have p9:=Lib.hid m0;have r9:=Lib.hid m9;have r6:=Lib.hid (qV7 d);clear he n6 m0 m9;clear h p3;unfold jY at *;go_enter func181,ntmps181
 have H:=Lib.hid (kY B t r d _ S0.o.ps);go_wp2_with fail
 refine(H.o).mono ?_;rintro e w1 ⟨rfl,p4⟩;have S1:=Lib.hid (S0.o.below p4);clear S0;clear H p4;unfold vT xA at *;have D9:w.1.size < w1.1.size:=S1.o.lt;have L2:=Lib.hid (wH.newO t w1);have V:=Lib.hid (S1.o.alloc (qXT t));clear S1;unfold qXT at *;have l0:=L2.o.c0;have l1:=L2.o.c1;have f4:=L2.o.c2;have f5:=L2.o.c3;have f3:=L2.o.c4;cases C:(t.kind == 1);case false =>
  cases G:(t.text == zL);case false =>
   have n1:(t.text == [116,114,117,101])=false:=G;cases O:(t.text == qH);case false =>
    have n4:(t.text == [102,97,108,115,101])=false:=O;cases I:(qXD t.text);case false =>
     have H:=Lib.hid (qVR t.text);rw[I]at H;go_wp2_with fail
     refine(H.o _).mono ?_;rintro e w3 ⟨rfl,rfl⟩;clear H;cases f7:(t.text == [40]);case false =>
      clear l0 l1 f4 f5 f3;have s:xF rec d (t :: r)≠.out:=fun e=>g7.o (by simp only[bF,if_false,if_true,reduceIte,bN,bM,bO,bU,bP,bV,bW,bB,bA,bT,lN,lC,lA,jU,jV,C,G,O,I,f7,PR.bind,qX,e])
      have HC:=Lib.hid (r9.o B (t :: r) _ V.o.ps s);have J:=Lib.hid s;clear s;go_wp2_with fail
      refine(HC.o).mono ?_;intro e w5 hq;rcases hq.cases J.o with⟨t5,l5,q5,n5,c5,he5,rfl,hb5,hP5,hg5⟩ | ⟨ln,c,code,he5,rfl,hg5⟩;rotate_left
      ·refine⟨rfl,?_⟩;have R:(jU rec d) (t :: r)=.bad ln c code:=by simp only[bF,if_false,if_true,reduceIte,bN,bM,bO,bU,bP,bV,bW,bB,bA,bT,lN,lC,lA,jU,jV,C,G,O,I,f7,PR.bind,qX,he5]
       rw[R];exact V.o.pan ⟨rfl,hg5⟩
      have S9:=V.o.call hP5 hg5;have HB:=Lib.hid (hb5.mono (lo':=w.1.size+1) V.o.lt);have HE:=Lib.hid he5;have d9:=S9.lt;have hr:=S9.res;have⟨r0,f8,r2,r3,r4,r5,_⟩:=hr.a;have⟨g0,g1,g2,g3,g4,g5,_⟩:=hr.b;clear hr;have f9:=Lib.hid S9;clear S9 hq hb5 hP5 hg5 he5 HC V L2;unfold qZ;go_wp2
      refine bodyPost_ret (v:=qZ t5 (.slice q5 n5 c5)) (by simp[results,results181,go_sem,qZ, *]) rfl ?_;have z:(jU rec d) (t :: r)=.ok t5 l5:=by simp only[bF,if_false,if_true,reduceIte,bN,bM,bO,bU,bP,bV,bW,bB,bA,bT,lN,lC,lA,jU,jV,C,G,O,I,f7,PR.bind,qX,HE.o]
      rw[z];exact f9.o.fin HB.o _ _ _ _ _ _
     case true =>
      clear l0 l1 f4 f5 f3;have s:yJ rec d (t :: r)≠.out:=fun e=>g7.o (by simp only[bF,if_false,if_true,reduceIte,bN,bM,bO,bU,bP,bV,bW,bB,bA,bT,lN,lC,lA,jU,jV,C,G,O,I,f7,PR.bind,qX,e])
      have HC:=Lib.hid (p9.o B (t :: r) _ V.o.ps s);have J:=Lib.hid s;clear s;go_wp2_with fail
      refine(HC.o).mono ?_;intro e w5 hq;rcases hq.cases J.o with⟨t5,l5,q5,n5,c5,he5,rfl,hb5,hP5,hg5⟩ | ⟨ln,c,code,he5,rfl,hg5⟩;rotate_left
      ·refine⟨rfl,?_⟩;have R:(jU rec d) (t :: r)=.bad ln c code:=by simp only[bF,if_false,if_true,reduceIte,bN,bM,bO,bU,bP,bV,bW,bB,bA,bT,lN,lC,lA,jU,jV,C,G,O,I,f7,PR.bind,qX,he5]
       rw[R];exact V.o.pan ⟨rfl,hg5⟩
      have S9:=V.o.call hP5 hg5;have HB:=Lib.hid (hb5.mono (lo':=w.1.size+1) V.o.lt);have HE:=Lib.hid he5;have d9:=S9.lt;have hr:=S9.res;have⟨r0,f8,r2,r3,r4,r5,_⟩:=hr.a;have⟨g0,g1,g2,g3,g4,g5,_⟩:=hr.b;clear hr;have f9:=Lib.hid S9;clear S9 hq hb5 hP5 hg5 he5 HC V L2;unfold qZ;go_wp2
      refine bodyPost_ret (v:=qZ t5 (.slice q5 n5 c5)) (by simp[results,results181,go_sem,qZ, *]) rfl ?_;have z:(jU rec d) (t :: r)=.ok t5 l5:=by simp only[bF,if_false,if_true,reduceIte,bN,bM,bO,bU,bP,bV,bW,bB,bA,bT,lN,lC,lA,jU,jV,C,G,O,I,f7,PR.bind,qX,HE.o]
      rw[z];exact f9.o.fin HB.o _ _ _ _ _ _
    case true =>
     have H:=Lib.hid (qVR t.text);rw[I]at H;go_wp2_with fail
     refine(H.o _).mono ?_;rintro e w3 ⟨rfl,rfl⟩;clear H;have f6:t.text≠[]:=fun e=>by rw[e]at I;exact absurd I (by decide)
     clear l0 l1 f4 f5 f3;go_wp2_with fail
     refine qXG (fun a N=>((((((a.put (some 31) (.agg #[.int .i64 t.kind, .string ⟨t.text.toArray⟩, .int .u64 t.num, .int .i64 t.line, .int .i64 t.col])).put (some 32) (.pointer (some ⟨B,0,none⟩))).put (some 33) (.agg #[.int .i64 t.kind, .string ⟨t.text.toArray⟩, .int .u64 t.num, .int .i64 t.line, .int .i64 t.col])).put (some 34) (.string ⟨t.text.toArray⟩)).put (some 35) (.agg #[.string ⟨qT.toArray⟩, .string ⟨t.text.toArray⟩, .int .u64 0, .int .i64 t.line, .int .i64 t.col, .slice none 0 0])).put (some 4) (.pointer (some ⟨N,0,none⟩)))) (fun N w'=>St w B r d w'/\Nd N qT t.text 0 t.line t.col (.slice none 0 0) [] w'/\w.1.size < N/\wH w1.1.size t w') ?_ ?_
     ·refine wW (S:=fun w'=>wH w1.1.size t w') (tail:=fun _=>false) (by kernel_rfl) ?_;change vR _ _ _ _ _ _ _ _ _ (World.drew _);have Z:=Lib.hid V.o.drew;have X:=Lib.hid (L2.o.below (Below.refl _ _).drew);generalize World.drew _=wd at *;have n8:=Z.o.lt;have n7:=X.o.lt;refine wTk 0 31 (.agg #[.int .i64 t.kind, .string ⟨t.text.toArray⟩, .int .u64 t.num, .int .i64 t.line, .int .i64 t.col]) ?_ X.o ?_
      ·intro _ y;have⟨h0,h1,h2,h3,h4,_⟩:=y.a;go_simp
      refine wTk 1 32 (.pointer (some ⟨B,0,none⟩)) ?_ X.o ?_
      ·intro _ y;go_simp
      refine jA (i:=2) (j:=5) rfl rfl (by kernel_rfl) (by rfl) (by rfl) (fun K hK=>?_) (fun K hK=>?_)
      ·go_simp;refine(vB B t r d _ Z.o.ps f6).mono ?_;rintro e v5 ⟨rfl,hP,hg⟩;have U:=Lib.hid (Z.o.call hP hg);have A:=Lib.hid (X.o.grown hg (by simp;omega));have t4:=U.o.lt;have t1:=A.o.lt;unfold vT xA;refine kK hK A.o ?_;clear hK K;refine wTk 3 34 (.string ⟨t.text.toArray⟩) ?_ A.o ?_
       ·intro _ y;go_simp
       refine jA (i:=4) (j:=5) rfl rfl (by kernel_rfl) (by rfl) (by rfl) (fun K hK=>?_) (fun K hK=>?_)
       ·go_simp;have Y:=jI t ⟨qT.toArray⟩ ⟨(t.text).toArray⟩;unfold vT xA at Y;refine(Y _).mono ?_;rintro e v9 ⟨rfl,hb⟩;have n2:=Lib.hid (U.o.below hb);have g6:=Lib.hid (A.o.below hb);have t2:=n2.o.lt;have t0:=g6.o.lt;refine kK hK g6.o ?_;clear hK K;refine wOn 5 fun K hK=>?_
        go_simp;refine kK hK (g6.o.below ((Below.refl _ _).alloc (Nat.le_refl _) _)) ?_;clear hK K;refine wOn 6 fun K hK=>?_
        go_simp;refine kK hK (g6.o.below ((Below.refl _ _).alloc (Nat.le_refl _) _)) ?_;clear hK K;refine wDn ?_ _;exact⟨_,by first | rfl | (simp only[Act.put,pZa,pZb,pZc];done),n2.o.alloc _,Nd.new qT t.text 0 t.line t.col _,n2.o.lt,g6.o.below ((Below.refl _ _).alloc (Nat.le_refl _) _)⟩
       ·go_simp;have p5:=Lib.hid (U.o.alloc jY);have m5:=Lib.hid (A.o.below ((Below.refl _ _).alloc (Nat.le_refl _) jY));have g9:=Lib.hid (zI.new [] [] 0 0 0 (.slice none 0 0) v5);have s9:=g9.o.lt;have r8:=U.o.lt;unfold jY at *;refine kK hK m5.o ?_;clear hK K;refine wOn 4 fun K hK=>?_
        go_simp;have Y:=jI t ⟨qT.toArray⟩ ⟨(t.text).toArray⟩;unfold vT xA at Y;refine(Y _).mono ?_;rintro e D5 ⟨rfl,hb⟩;have m6:=Lib.hid (p5.o.below hb);have d4:=Lib.hid (m5.o.below hb);have d5:=Lib.hid (g9.o.below hb);have s4:=d5.o.lt;have s6:=m6.o.lt;have r7:=d4.o.lt;refine kK hK d4.o ?_;clear hK K;have⟨a0,a1,a2,a3,a4,a5,_⟩:=d5.o.a;have⟨b0,b1,b2,b3,b4,b5,_⟩:=d5.o.b;refine wOn 6 fun K hK=>?_
        go_simp;refine kK hK (d4.o.grown (vQ _ v5.1.size _ _ _ _ _ _) (by simp;omega)) ?_;clear hK K;refine wDn ?_ _;exact⟨_,by first | rfl | (simp only[Act.put,pZa,pZb,pZc];done),m6.o.six (by omega) _ _ _ _ _ _,⟨d5.o.six qT t.text 0 t.line t.col (.slice none 0 0),zC.nil _ _⟩,by omega,d4.o.grown (vQ _ v5.1.size _ _ _ _ _ _) (by simp;omega)⟩
      ·go_simp;have m2:=Lib.hid (Z.o.alloc jY);have m7:=Lib.hid (X.o.below ((Below.refl _ _).alloc (Nat.le_refl _) jY));have n0:=Lib.hid (zI.new [] [] 0 0 0 (.slice none 0 0) wd);have s3:=n0.o.lt;have p6:=Z.o.lt;unfold jY at *;refine kK hK m7.o ?_;clear hK K;refine wOn 2 fun K hK=>?_
       go_simp;refine(vB B t r d _ m2.o.ps f6).mono ?_;rintro e t7 ⟨rfl,hP,hg⟩;have g8:=Lib.hid (m2.o.call hP hg);have d7:=Lib.hid (m7.o.grown hg (by simp;omega));have m1:=Lib.hid (n0.o.grown hg (by simp;omega));have p7:=m1.o.lt;have s0:=g8.o.lt;have s7:=d7.o.lt;unfold vT xA;refine kK hK d7.o ?_;clear hK K;refine wTk 3 34 (.string ⟨t.text.toArray⟩) ?_ d7.o ?_
       ·intro _ y;go_simp
       refine wOn 4 fun K hK=>?_
       go_simp;have Y:=jI t ⟨qT.toArray⟩ ⟨(t.text).toArray⟩;unfold vT xA at Y;refine(Y _).mono ?_;rintro e v20 ⟨rfl,hb⟩;have m3:=Lib.hid (g8.o.below hb);have d6:=Lib.hid (d7.o.below hb);have d8:=Lib.hid (m1.o.below hb);have s2:=d8.o.lt;have p8:=m3.o.lt;have s5:=d6.o.lt;refine kK hK d6.o ?_;clear hK K;have⟨a0,a1,a2,a3,a4,a5,_⟩:=d8.o.a;have⟨b0,b1,b2,b3,b4,b5,_⟩:=d8.o.b;refine wOn 6 fun K hK=>?_
       go_simp;refine kK hK (d6.o.grown (vQ _ wd.1.size _ _ _ _ _ _) (by simp;omega)) ?_;clear hK K;refine wDn ?_ _;exact⟨_,by first | rfl | (simp only[Act.put,pZa,pZb,pZc];done),m3.o.six (by omega) _ _ _ _ _ _,⟨d8.o.six qT t.text 0 t.line t.col (.slice none 0 0),zC.nil _ _⟩,by omega,d6.o.grown (vQ _ wd.1.size _ _ _ _ _ _) (by simp;omega)⟩
     intro N w5 ⟨hS5,hN5,hwN,hL5⟩;try simp only[Act.put,pZa,pZb,pZc]
     have S5:=Lib.hid hS5;have N5:=Lib.hid hN5;clear hS5 hN5 hL5 V L2;have s:xX d (rec .operand) r≠.out:=fun e=>g7.o (by simp only[bF,if_false,if_true,reduceIte,bN,bM,bO,bU,bP,bV,bW,bB,bA,bT,lN,lC,lA,jU,jV,C,G,O,I,PR.bind,qX,e])
     have HC:=Lib.hid (r1.o B r _ S5.o.ps s);have J:=Lib.hid s;clear s;go_wp2_with fail
     refine(HC.o).mono ?_;intro e s8 hq;rcases hq.cases J.o with⟨n9,l21,t8,F1,t9,he21,rfl,m4,hP21,hg21⟩ | ⟨ln,c,code,he21,rfl,hg21⟩;rotate_left
     ·refine⟨rfl,?_⟩;have R:(jU rec d) (t :: r)=.bad ln c code:=by simp only[bF,if_false,if_true,reduceIte,bN,bM,bO,bU,bP,bV,bW,bB,bA,bT,lN,lC,lA,jU,jV,C,G,O,I,PR.bind,qX,he21]
      rw[R];exact S5.o.pan ⟨rfl,hg21⟩
     have SC:=S5.o.call hP21 hg21;have NC:=N5.o.call hg21 (by omega);have p1:=qVb SC NC.nd hwN m4 (Nat.succ_le_of_lt N5.o.lt) hg21.size;have p0:=Lib.hid p1;have p2:=Lib.hid he21;have d9:=SC.lt;have hs2:=NC.lt;have D2:=NC.nd.f 5 nL;have hr:=SC.res;have⟨r0,f8,r2,r3,r4,r5,_⟩:=hr.a;have⟨g0,g1,g2,g3,g4,g5,_⟩:=hr.b;clear hr;have hq:=NC.nd;have⟨s1,D4,F0,D6,D0,D7,_⟩:=hq.a;clear hq;clear p1 hq m4 hP21 hg21 he21 HC J S5 N5 SC NC;unfold qZ;unfold qT at s1;go_wp2
     refine bodyPost_ret (v:=qZ (.mk qT t.text 0 t.line t.col [n9]) (.slice (some ⟨s8.1.size,0,none⟩) 1 1)) (by simp[results,results181,go_sem,qZ,qQ.kind,qQ.text,qQ.num,qQ.line,qQ.col,qQ.kids,qY,qG,qC,qO,zB,zD,zX,qE,kIf,zS,qA,qV,qF,qD,qP,qW,qN,zW,zM,qL,qM,qT,zK,zL,qH,zA, *]) rfl ?_;have z:(jU rec d) (t :: r)=.ok (.mk qT t.text 0 t.line t.col [n9]) l21:=by simp only[bF,if_false,if_true,reduceIte,bN,bM,bO,bU,bP,bV,bW,bB,bA,bT,lN,lC,lA,jU,jV,C,G,O,I,PR.bind,qX,p2.o]
     rw[z];exact p0.o.1.finA (by simpa using d9) (p0.o.2.bd.mono (by omega)) _ _ _ _ _ _
   case true =>
    have n4:(t.text == [102,97,108,115,101])=true:=O;have f6:t.text≠[]:=fun e=>by rw[e]at n4;exact absurd n4 (by decide)
    clear l0 l1 f4 f5 f3;go_wp2_with fail
    refine wW (S:=fun w'=>wH w1.1.size t w') (tail:=fun _=>false) (by kernel_rfl) ?_;change vR _ _ _ _ _ _ _ _ _ (World.drew _);have Z:=Lib.hid V.o.drew;have X:=Lib.hid (L2.o.below (Below.refl _ _).drew);generalize World.drew _=wd at *;have n8:=Z.o.lt;have n7:=X.o.lt;refine wTk 0 22 (.agg #[.int .i64 t.kind, .string ⟨t.text.toArray⟩, .int .u64 t.num, .int .i64 t.line, .int .i64 t.col]) ?_ X.o ?_
    ·intro _ y;have⟨h0,h1,h2,h3,h4,_⟩:=y.a;go_simp
    refine wTk 1 23 (.pointer (some ⟨B,0,none⟩)) ?_ X.o ?_
    ·intro _ y;go_simp
    refine wOn 2 fun K hK=>?_
    go_simp;refine(vB B t r d _ Z.o.ps f6).mono ?_;rintro e v5 ⟨rfl,hP,hg⟩;have U:=Lib.hid (Z.o.call hP hg);have A:=Lib.hid (X.o.grown hg (by simp;omega));unfold vT xA;refine kK hK A.o ?_;clear hK K;refine wTk 3 25 (.string ⟨t.text.toArray⟩) ?_ A.o ?_
    ·intro _ y;go_simp
    refine wOn 4 fun K hK=>?_
    go_simp;have Y:=jI t ⟨t.text.toArray⟩ ⟨#[]⟩;unfold vT xA at Y;refine(Y _).mono ?_;rintro e v6 ⟨rfl,hb⟩;have d2:=Lib.hid (U.o.below hb);have d3:=Lib.hid (A.o.below hb);refine kK hK d3.o ?_;clear hK K;have d9:=d2.o.lt;have hs2:=d3.o.lt;have hr:=d2.o.res;have⟨r0,f8,r2,r3,r4,r5,_⟩:=hr.a;have⟨g0,g1,g2,g3,g4,g5,_⟩:=hr.b;clear hr;refine wOn 5 fun K hK=>?_
    go_simp;refine kK hK (d3.o.grown (vQ _ w.1.size _ _ _ _ _ _) (by simp;omega)) ?_;clear hK K;refine wDn ?_ _;clear hP hg hb Y Z X U A;go_wp2
    refine bodyPost_ret (v:=qZ (.mk t.text [] 0 t.line t.col []) (.slice none 0 0)) (by simp[results,results181,go_sem,qZ,qQ.kind,qQ.text,qQ.num,qQ.line,qQ.col,qQ.kids, *]) rfl ?_;have z:(jU rec d) (t :: r)=.ok (.mk t.text [] 0 t.line t.col []) r:=by simp only[bF,if_false,if_true,reduceIte,bN,bM,bO,bU,bP,bV,bW,bB,bA,bT,lN,lC,lA,jU,jV,C,G,O,PR.bind,qX]
    rw[z];exact d2.o.fin (zC.nil _ _) _ _ _ _ _ _
  case true =>
   have n1:(t.text == [116,114,117,101])=true:=G;have f6:t.text≠[]:=fun e=>by rw[e]at n1;exact absurd n1 (by decide)
   clear l0 l1 f4 f5 f3;go_wp2_with fail
   refine wW (S:=fun w'=>wH w1.1.size t w') (tail:=fun _=>false) (by kernel_rfl) ?_;change vR _ _ _ _ _ _ _ _ _ (World.drew _);have Z:=Lib.hid V.o.drew;have X:=Lib.hid (L2.o.below (Below.refl _ _).drew);generalize World.drew _=wd at *;have n8:=Z.o.lt;have n7:=X.o.lt;refine wTk 0 22 (.agg #[.int .i64 t.kind, .string ⟨t.text.toArray⟩, .int .u64 t.num, .int .i64 t.line, .int .i64 t.col]) ?_ X.o ?_
   ·intro _ y;have⟨h0,h1,h2,h3,h4,_⟩:=y.a;go_simp
   refine wTk 1 23 (.pointer (some ⟨B,0,none⟩)) ?_ X.o ?_
   ·intro _ y;go_simp
   refine wOn 2 fun K hK=>?_
   go_simp;refine(vB B t r d _ Z.o.ps f6).mono ?_;rintro e v5 ⟨rfl,hP,hg⟩;have U:=Lib.hid (Z.o.call hP hg);have A:=Lib.hid (X.o.grown hg (by simp;omega));unfold vT xA;refine kK hK A.o ?_;clear hK K;refine wTk 3 25 (.string ⟨t.text.toArray⟩) ?_ A.o ?_
   ·intro _ y;go_simp
   refine wOn 4 fun K hK=>?_
   go_simp;have Y:=jI t ⟨t.text.toArray⟩ ⟨#[]⟩;unfold vT xA at Y;refine(Y _).mono ?_;rintro e v6 ⟨rfl,hb⟩;have d2:=Lib.hid (U.o.below hb);have d3:=Lib.hid (A.o.below hb);refine kK hK d3.o ?_;clear hK K;have d9:=d2.o.lt;have hs2:=d3.o.lt;have hr:=d2.o.res;have⟨r0,f8,r2,r3,r4,r5,_⟩:=hr.a;have⟨g0,g1,g2,g3,g4,g5,_⟩:=hr.b;clear hr;refine wOn 5 fun K hK=>?_
   go_simp;refine kK hK (d3.o.grown (vQ _ w.1.size _ _ _ _ _ _) (by simp;omega)) ?_;clear hK K;refine wDn ?_ _;clear hP hg hb Y Z X U A;go_wp2
   refine bodyPost_ret (v:=qZ (.mk t.text [] 0 t.line t.col []) (.slice none 0 0)) (by simp[results,results181,go_sem,qZ,qQ.kind,qQ.text,qQ.num,qQ.line,qQ.col,qQ.kids, *]) rfl ?_;have z:(jU rec d) (t :: r)=.ok (.mk t.text [] 0 t.line t.col []) r:=by simp only[bF,if_false,if_true,reduceIte,bN,bM,bO,bU,bP,bV,bW,bB,bA,bT,lN,lC,lA,jU,jV,C,G,PR.bind,qX]
   rw[z];exact d2.o.fin (zC.nil _ _) _ _ _ _ _ _
 case true =>
  clear l0 l1 f4 f5 f3;have s:wQ (t :: r)≠.out:=fun e=>g7.o (by simp only[bF,if_false,if_true,reduceIte,bN,bM,bO,bU,bP,bV,bW,bB,bA,bT,lN,lC,lA,jU,jV,C,PR.bind,qX,e])
  have HC:=Lib.hid (r6.o B (t :: r) _ V.o.ps s);have J:=Lib.hid s;clear s;go_wp2_with fail
  refine(HC.o).mono ?_;intro e w3 hq;rcases hq.cases J.o with⟨t3,l3,q3,n3,c3,he3,rfl,hb3,hP3,hg3⟩ | ⟨ln,c,code,he3,rfl,hg3⟩;rotate_left
  ·refine⟨rfl,?_⟩;have R:(jU rec d) (t :: r)=.bad ln c code:=by simp only[bF,if_false,if_true,reduceIte,bN,bM,bO,bU,bP,bV,bW,bB,bA,bT,lN,lC,lA,jU,jV,C,PR.bind,qX,he3]
   rw[R];exact V.o.pan ⟨rfl,hg3⟩
  have S9:=V.o.call hP3 hg3;have HB:=Lib.hid (hb3.mono (lo':=w.1.size+1) V.o.lt);have HE:=Lib.hid he3;have d9:=S9.lt;have hr:=S9.res;have⟨r0,f8,r2,r3,r4,r5,_⟩:=hr.a;have⟨g0,g1,g2,g3,g4,g5,_⟩:=hr.b;clear hr;have f9:=Lib.hid S9;clear S9 hq hb3 hP3 hg3 he3 HC V L2;unfold qZ;go_wp2
  refine bodyPost_ret (v:=qZ t3 (.slice q3 n3 c3)) (by simp[results,results181,go_sem,qZ, *]) rfl ?_;have z:(jU rec d) (t :: r)=.ok t3 l3:=by simp only[bF,if_false,if_true,reduceIte,bN,bM,bO,bU,bP,bV,bW,bB,bA,bT,lN,lC,lA,jU,jV,C,PR.bind,qX,HE.o]
  rw[z];exact f9.o.fin HB.o _ _ _ _ _ _
theorem paren_does(rec:NT->Int->List Tok->PR qQ)(d:Int)(he:yR 181)(m7:yR 158)(m5:vM 181 (fun p=>#[p]) (d+1) (rec .operand (d+1)))(n8:vM 158 (fun p=>#[p]) (d+1) (qQh rec (d+1))):vM 185 (fun p=>#[p]) d (yJ rec d):=by
 intro B l w h n5;obtain⟨t,r,rfl⟩:=h.ends.ne;have S0:=St.start h;have D0:=S0.hB;have m4:=hI n5;have S0:=hI S0;have t8:=zT;have D4:=vS;have D7:=yW;have p6:=hI (wT 181 d (rec .operand) he m5);have r8:=hI (wT 158 d (rec (.binary 0)) m7 n8);clear he m7 m5 n8;clear h n5;unfold jY at *;go_enter func185,ntmps185
 cases z:(t.text == [40]);case false =>
  have H:=hI (wN B t r d [40] _ S0.o.ps);rw[z]at H;go_wp2_with fail
  refine(H.o).mono ?_;rintro e w1 ⟨rfl,d6⟩;have S1:=hI (S0.o.below d6);clear S0;clear H d6;have H:=hI (qQ8 B t r d _ S1.o.ps);go_wp2_with fail
  refine(H.o).mono ?_;rintro e w2 ⟨rfl,hg2⟩;refine⟨rfl,?_⟩;have s:(yJ rec d) (t :: r)=.bad t.line t.col 30:=by simp only[bF,if_false,if_true,reduceIte,bN,bM,bO,bU,bP,bV,bW,bB,bA,bT,lN,lC,lA,yJ,jV,z,PR.bind,qX,jV]
  rw[s];exact S1.o.pan ⟨rfl,hg2⟩
 case true =>
  have H:=hI (wN B t r d [40] _ S0.o.ps);rw[z]at H;go_wp2_with fail
  refine(H.o).mono ?_;rintro e w1 ⟨rfl,d6⟩;have S1:=hI (S0.o.below d6);clear S0;clear H d6;have s7:t.text≠[]:=fun e=>by rw[e]at z;exact absurd z (by decide)
  have H:=hI (vB B t r d _ S1.o.ps s7);go_wp2_with fail
  refine(H.o).mono ?_;rintro e w2 ⟨rfl,hP2,hg2⟩;have S2:=hI (S1.o.call hP2 hg2);clear S1;clear H hP2 hg2;unfold vT xA at *;have D8:w.1.size < w2.1.size:=S2.o.lt;have L3:=hI (wH.newO t w2);have S3:=hI (S2.o.alloc (qXT t));clear S2;unfold qXT at *;obtain⟨u,rr,s1⟩:=S3.o.ps.ends.ne;subst s1;have H:=hI (kY B u rr d _ S3.o.ps);go_wp2_with fail
  refine(H.o).mono ?_;rintro e w4 ⟨rfl,hb4⟩;have S4:=hI (S3.o.below hb4);have L4:=hI (L3.o.below hb4);clear S3 L3;clear H hb4;cases A:(yG u.text);case false =>
   have hT:qWD w4:=by
    obtain⟨lo,T,o,c,h1⟩:=S4.o.ps;exact h1.tab.types
   have H:=hI (qXC ⟨u.text.toArray⟩ _ hT);have d2:(⟨u.text.toArray⟩:ByteArray).data.toList=u.text:=by simp
   rw[d2,A]at H;unfold vT xA at *;go_wp2_with fail
   refine(H.o).mono ?_;rintro e p7 ⟨rfl,rfl⟩;clear H hT d2;clear L4;have C:xX d (rec (.binary 0)) (u :: rr)≠.out:=fun e=>m4.o (by simp only[bF,if_false,if_true,reduceIte,bN,bM,bO,bU,bP,bV,bW,bB,bA,bT,lN,lC,lA,yJ,jV,z,A,PR.bind,qX,e])
   have HC:=hI (r8.o B (u :: rr) _ S4.o.ps C);have I:=hI C;clear C;go_wp2_with fail
   refine(HC.o).mono ?_;intro e w6 hq;rcases hq.cases I.o with⟨t6,l6,q6,n6,c6,he6,rfl,m9,m1,Z⟩ | ⟨ln,c,code,he6,rfl,Z⟩;rotate_left
   ·refine⟨rfl,?_⟩;have s:(yJ rec d) (t :: u :: rr)=.bad ln c code:=by simp only[bF,if_false,if_true,reduceIte,bN,bM,bO,bU,bP,bV,bW,bB,bA,bT,lN,lC,lA,yJ,jV,z,A,PR.bind,qX,he6]
    rw[s];exact S4.o.pan ⟨rfl,Z⟩
   have hwN:w.1.size < w6.1.size:=(S4.o.call m1 Z).lt;have N6:=hI (Hd.put t6 (m9.mono (lo':=w.1.size+1) S4.o.lt));have S6:=hI ((S4.o.call m1 Z).alloc (wD t6.kind t6.text t6.num t6.line t6.col (.slice q6 n6 c6)));have n0:=hI he6;clear hq m9 m1 Z he6 HC I S4;unfold qZ wD at *;have H:=hI (xV (S:=w6.1.size+1) [[41]] S6.o.ps (by simp) (by simp) (by simp));simp only[List.map,List.length]at H;go_wp2_with fail
   refine(H.o).mono ?_;rintro e w7 (⟨l7,he7,rfl,hP7,hg7⟩ | ⟨ln,c,code,he7,rfl,hg7⟩);rotate_left
   ·refine⟨rfl,?_⟩;have s:(yJ rec d) (t :: u :: rr)=.bad ln c code:=by simp only[bF,if_false,if_true,reduceIte,bN,bM,bO,bU,bP,bV,bW,bB,bA,bT,lN,lC,lA,yJ,jV,z,A,PR.bind,qX,n0.o,he7]
    rw[s];exact S6.o.pan ⟨rfl,hg7⟩
   have S7:=hI (S6.o.call hP7 hg7);have N7:=hI (N6.o.call hg7 (by omega));clear S6 N6;have p0:=hI he7;clear H he7 hP7 hg7;have S9:=S7.o;have N9:=N7.o;have m0:=S9.lt;have hs2:=N9.lt;try simp only[World.size_setCell,World.size_alloc]at m0 hs2
   have hr:=S9.res;have⟨r0,r7,r2,r3,r4,r5,_⟩:=hr.a;have⟨g0,g1,g2,g3,g4,g5,_⟩:=hr.b;clear hr;have hq:=N9.nd;have⟨n2,p8,t0,s0,p5,s4,_⟩:=hq.a;clear hq;have t2:=hI S9;have r1:=hI N9;clear S9 N9 S7 N7;skip
   go_wp2
   refine bodyPost_ret (v:=qZ t6 (.slice q6 n6 c6)) (by simp[results,results185,go_sem,qZ,qQ.kind,qQ.text,qQ.num,qQ.line,qQ.col,qQ.kids,qY,qG,qC,qO,zB,zD,zX,qE,kIf,zS,qA,qV,qF,qD,qP,qW,qN,zW,zM,qL,qM,qT,zK,zL,qH,zA, *]) rfl ?_;have J:(yJ rec d) (t :: u :: rr)=.ok t6 l7:=by simp only[bF,if_false,if_true,reduceIte,bN,bM,bO,bU,bP,bV,bW,bB,bA,bT,lN,lC,lA,yJ,jV,z,A,PR.bind,qX,n0.o,p0.o]
   rw[J];exact t2.o.fin (r1.o.bd.mono (by omega)) _ _ _ _ _ _
  case true =>
   have hT:qWD w4:=by
    obtain⟨lo,T,o,c,h1⟩:=S4.o.ps;exact h1.tab.types
   have H:=hI (qXC ⟨u.text.toArray⟩ _ hT);have d2:(⟨u.text.toArray⟩:ByteArray).data.toList=u.text:=by simp
   rw[d2,A]at H;unfold vT xA at *;go_wp2_with fail
   refine(H.o).mono ?_;rintro e p7 ⟨rfl,rfl⟩;clear H hT d2;have f4:u.text≠[]:=fun e=>by rw[e]at A;exact absurd A (by decide)
   go_wp2_with fail
   refine qXG (fun a N=>((((((a.put (some 14) (.agg #[.int .i64 t.kind, .string ⟨t.text.toArray⟩, .int .u64 t.num, .int .i64 t.line, .int .i64 t.col])).put (some 15) (.pointer (some ⟨B,0,none⟩))).put (some 16) (.agg #[.int .i64 u.kind, .string ⟨u.text.toArray⟩, .int .u64 u.num, .int .i64 u.line, .int .i64 u.col])).put (some 17) (.string ⟨u.text.toArray⟩)).put (some 18) (.agg #[.string ⟨zK.toArray⟩, .string ⟨u.text.toArray⟩, .int .u64 0, .int .i64 t.line, .int .i64 t.col, .slice none 0 0])).put (some 4) (.pointer (some ⟨N,0,none⟩)))) (fun N w'=>St w B rr d w'/\Nd N zK u.text 0 t.line t.col (.slice none 0 0) [] w'/\w.1.size < N/\wH w2.1.size t w') ?_ ?_
   ·refine wW (S:=fun w'=>wH w2.1.size t w') (tail:=fun _=>false) (by kernel_rfl) ?_;change vR _ _ _ _ _ _ _ _ _ (World.drew _);have SS:=hI S4.o.drew;have LL:=hI (L4.o.below (Below.refl _ _).drew);generalize World.drew _=wd at *;have D3:=SS.o.lt;have D2:=LL.o.lt;refine wTk 0 14 (.agg #[.int .i64 t.kind, .string ⟨t.text.toArray⟩, .int .u64 t.num, .int .i64 t.line, .int .i64 t.col]) ?_ LL.o ?_
    ·intro _ y;have⟨h0,h1,h2,h3,h4,_⟩:=y.a;go_simp
    refine wTk 1 15 (.pointer (some ⟨B,0,none⟩)) ?_ LL.o ?_
    ·intro _ y;go_simp
    refine jA (i:=2) (j:=5) rfl rfl (by kernel_rfl) (by rfl) (by rfl) (fun K hK=>?_) (fun K hK=>?_)
    ·go_simp;refine(vB B u rr d _ SS.o.ps f4).mono ?_;rintro e v5 ⟨rfl,hP,hg⟩;have d7:=hI (SS.o.call hP hg);have d3:=hI (LL.o.grown hg (by simp;omega));have t7:=d7.o.lt;have t4:=d3.o.lt;unfold vT xA;refine kK hK d3.o ?_;clear hK K;refine wTk 3 17 (.string ⟨u.text.toArray⟩) ?_ d3.o ?_
     ·intro _ y;go_simp
     refine jA (i:=4) (j:=5) rfl rfl (by kernel_rfl) (by rfl) (by rfl) (fun K hK=>?_) (fun K hK=>?_)
     ·go_simp;have HN:=jI t ⟨zK.toArray⟩ ⟨(u.text).toArray⟩;unfold vT xA at HN;refine(HN _).mono ?_;rintro e v9 ⟨rfl,hb⟩;have m3:=hI (d7.o.below hb);have d5:=hI (d3.o.below hb);have t5:=m3.o.lt;have t3:=d5.o.lt;refine kK hK d5.o ?_;clear hK K;refine wOn 5 fun K hK=>?_
      go_simp;refine kK hK (d5.o.below ((Below.refl _ _).alloc (Nat.le_refl _) _)) ?_;clear hK K;refine wOn 6 fun K hK=>?_
      go_simp;refine kK hK (d5.o.below ((Below.refl _ _).alloc (Nat.le_refl _) _)) ?_;clear hK K;refine wDn ?_ _;exact⟨_,by first | rfl | (simp only[Act.put,pZa,pZb,pZc];done),m3.o.alloc _,Nd.new zK u.text 0 t.line t.col _,m3.o.lt,d5.o.below ((Below.refl _ _).alloc (Nat.le_refl _) _)⟩
     ·go_simp;have n7:=hI (d7.o.alloc jY);have f9:=hI (d3.o.below ((Below.refl _ _).alloc (Nat.le_refl _) jY));have f3:=hI (zI.new [] [] 0 0 0 (.slice none 0 0) v5);have t1:=f3.o.lt;have r6:=d7.o.lt;unfold jY at *;refine kK hK f9.o ?_;clear hK K;refine wOn 4 fun K hK=>?_
      go_simp;have HN:=jI t ⟨zK.toArray⟩ ⟨(u.text).toArray⟩;unfold vT xA at HN;refine(HN _).mono ?_;rintro e D5 ⟨rfl,hb⟩;have g7:=hI (n7.o.below hb);have O:=hI (f9.o.below hb);have U:=hI (f3.o.below hb);have s5:=U.o.lt;have s8:=g7.o.lt;have p9:=O.o.lt;refine kK hK O.o ?_;clear hK K;have⟨a0,a1,a2,a3,a4,a5,_⟩:=U.o.a;have⟨b0,b1,b2,b3,b4,b5,_⟩:=U.o.b;refine wOn 6 fun K hK=>?_
      go_simp;refine kK hK (O.o.grown (vQ _ v5.1.size _ _ _ _ _ _) (by simp;omega)) ?_;clear hK K;refine wDn ?_ _;exact⟨_,by first | rfl | (simp only[Act.put,pZa,pZb,pZc];done),g7.o.six (by omega) _ _ _ _ _ _,⟨U.o.six zK u.text 0 t.line t.col (.slice none 0 0),zC.nil _ _⟩,by omega,O.o.grown (vQ _ v5.1.size _ _ _ _ _ _) (by simp;omega)⟩
    ·go_simp;have f7:=hI (SS.o.alloc jY);have g8:=hI (LL.o.below ((Below.refl _ _).alloc (Nat.le_refl _) jY));have g9:=hI (zI.new [] [] 0 0 0 (.slice none 0 0) wd);have s3:=g9.o.lt;have n9:=SS.o.lt;unfold jY at *;refine kK hK g8.o ?_;clear hK K;refine wOn 2 fun K hK=>?_
     go_simp;refine(vB B u rr d _ f7.o.ps f4).mono ?_;rintro e t9 ⟨rfl,hP,hg⟩;have d9:=hI (f7.o.call hP hg);have X:=hI (g8.o.grown hg (by simp;omega));have f5:=hI (g9.o.grown hg (by simp;omega));have p1:=f5.o.lt;have r9:=d9.o.lt;have s9:=X.o.lt;unfold vT xA;refine kK hK X.o ?_;clear hK K;refine wTk 3 17 (.string ⟨u.text.toArray⟩) ?_ X.o ?_
     ·intro _ y;go_simp
     refine wOn 4 fun K hK=>?_
     go_simp;have HN:=jI t ⟨zK.toArray⟩ ⟨(u.text).toArray⟩;unfold vT xA at HN;refine(HN _).mono ?_;rintro e v20 ⟨rfl,hb⟩;have f8:=hI (d9.o.below hb);have V:=hI (X.o.below hb);have Y:=hI (f5.o.below hb);have s2:=Y.o.lt;have p3:=f8.o.lt;have s6:=V.o.lt;refine kK hK V.o ?_;clear hK K;have⟨a0,a1,a2,a3,a4,a5,_⟩:=Y.o.a;have⟨b0,b1,b2,b3,b4,b5,_⟩:=Y.o.b;refine wOn 6 fun K hK=>?_
     go_simp;refine kK hK (V.o.grown (vQ _ wd.1.size _ _ _ _ _ _) (by simp;omega)) ?_;clear hK K;refine wDn ?_ _;exact⟨_,by first | rfl | (simp only[Act.put,pZa,pZb,pZc];done),f8.o.six (by omega) _ _ _ _ _ _,⟨Y.o.six zK u.text 0 t.line t.col (.slice none 0 0),zC.nil _ _⟩,by omega,V.o.grown (vQ _ wd.1.size _ _ _ _ _ _) (by simp;omega)⟩
   intro N w5 ⟨hS5,hN5,hwN,hL5⟩;try simp only[Act.put,pZa,pZb,pZc]
   have S5:=hI hS5;have N5:=hI hN5;clear hS5 hN5 hL5 S4 L4;have H:=hI (xV (S:=w5.1.size) [[41]] S5.o.ps (by simp) (by simp) (by simp));simp only[List.map,List.length]at H;go_wp2_with fail
   refine(H.o).mono ?_;rintro e D9 (⟨l21,he21,rfl,hP21,hg21⟩ | ⟨ln,c,code,he21,rfl,hg21⟩);rotate_left
   ·refine⟨rfl,?_⟩;have s:(yJ rec d) (t :: u :: rr)=.bad ln c code:=by simp only[bF,if_false,if_true,reduceIte,bN,bM,bO,bU,bP,bV,bW,bB,bA,bT,lN,lC,lA,yJ,jV,z,A,PR.bind,qX,he21]
    rw[s];exact S5.o.pan ⟨rfl,hg21⟩
   have d8:=hI (S5.o.call hP21 hg21);have m2:=hI (N5.o.call hg21 (by omega));clear S5 N5;have d4:=hI he21;clear H he21 hP21 hg21;have C:xX d (rec .operand) l21≠.out:=fun e=>m4.o (by simp only[bF,if_false,if_true,reduceIte,bN,bM,bO,bU,bP,bV,bW,bB,bA,bT,lN,lC,lA,yJ,jV,z,A,PR.bind,qX,d4.o,e])
   have HC:=hI (p6.o B l21 _ d8.o.ps C);have I:=hI C;clear C;go_wp2_with fail
   refine(HC.o).mono ?_;intro e p4 hq;rcases hq.cases I.o with⟨n1,p2,F0,D6,F1,R,rfl,f6,g6,G⟩ | ⟨ln,c,code,R,rfl,G⟩;rotate_left
   ·refine⟨rfl,?_⟩;have s:(yJ rec d) (t :: u :: rr)=.bad ln c code:=by simp only[bF,if_false,if_true,reduceIte,bN,bM,bO,bU,bP,bV,bW,bB,bA,bT,lN,lC,lA,yJ,jV,z,A,PR.bind,qX,d4.o,R]
    rw[s];exact d8.o.pan ⟨rfl,G⟩
   have SC:=d8.o.call g6 G;have NC:=m2.o.call G (by omega);have n4:=qVb SC NC.nd hwN f6 (Nat.succ_le_of_lt m2.o.lt) G.size;have n3:=hI n4;have m6:=hI R;have m0:=SC.lt;have hs2:=NC.lt;have D1:=NC.nd.f 5 nL;have hr:=SC.res;have⟨r0,r7,r2,r3,r4,r5,_⟩:=hr.a;have⟨g0,g1,g2,g3,g4,g5,_⟩:=hr.b;clear hr;have hq:=NC.nd;have⟨n2,p8,t0,s0,p5,s4,_⟩:=hq.a;clear hq;clear n4 hq f6 g6 G R HC I d8 m2 SC NC;unfold qZ;unfold zK at n2;go_wp2
   refine bodyPost_ret (v:=qZ (.mk zK u.text 0 t.line t.col [n1]) (.slice (some ⟨p4.1.size,0,none⟩) 1 1)) (by simp[results,results185,go_sem,qZ,qQ.kind,qQ.text,qQ.num,qQ.line,qQ.col,qQ.kids,qY,qG,qC,qO,zB,zD,zX,qE,kIf,zS,qA,qV,qF,qD,qP,qW,qN,zW,zM,qL,qM,qT,zK,zL,qH,zA, *]) rfl ?_;have J:(yJ rec d) (t :: u :: rr)=.ok (.mk zK u.text 0 t.line t.col [n1]) p2:=by simp only[bF,if_false,if_true,reduceIte,bN,bM,bO,bU,bP,bV,bW,bB,bA,bT,lN,lC,lA,yJ,jV,z,A,PR.bind,qX,d4.o,m6.o]
   rw[J];exact n3.o.1.finA (by simpa using m0) (n3.o.2.bd.mono (by omega)) _ _ _ _ _ _
structure LevAt(G T:Nat)(w:World):Prop where
 row:∀ k,k < 10->w.cell? ⟨T,k,none⟩=some (.slice (some ⟨G+k,0,none⟩) (jG.getD k []).length (jG.getD k []).length)
 str:∀ k,k < 10->∀ j,j < ((jG.getD k []).map fun x=>(⟨x.toArray⟩:ByteArray)).length->w.cell? ⟨G+k,0+j,none⟩=some (.string (((jG.getD k []).map fun x=>(⟨x.toArray⟩:ByteArray)).getD j ByteArray.empty))
def vH(w:World):World:=((((((((((w.alloc (.cells #[.string ⟨#[124,124]⟩] 9)).alloc (.cells #[.string ⟨#[38,38]⟩] 9)).alloc (.cells #[.string ⟨#[124]⟩] 9)).alloc (.cells #[.string ⟨#[94]⟩] 9)).alloc (.cells #[.string ⟨#[38]⟩] 9)).alloc (.cells #[.string ⟨#[61,61]⟩, .string ⟨#[33,61]⟩] 9)).alloc (.cells #[.string ⟨#[60]⟩, .string ⟨#[60,61]⟩, .string ⟨#[62]⟩, .string ⟨#[62,61]⟩] 9)).alloc (.cells #[.string ⟨#[60,60]⟩, .string ⟨#[62,62]⟩] 9)).alloc (.cells #[.string ⟨#[43]⟩, .string ⟨#[45]⟩] 9)).alloc (.cells #[.string ⟨#[42]⟩, .string ⟨#[47]⟩, .string ⟨#[37]⟩] 9)).alloc (.cells #[.slice (some ⟨w.1.size,0,none⟩) 1 1, .slice (some ⟨w.1.size+1,0,none⟩) 1 1, .slice (some ⟨w.1.size+1+1,0,none⟩) 1 1, .slice (some ⟨w.1.size+1+1+1,0,none⟩) 1 1, .slice (some ⟨w.1.size+1+1+1+1,0,none⟩) 1 1, .slice (some ⟨w.1.size+1+1+1+1+1,0,none⟩) 2 2, .slice (some ⟨w.1.size+1+1+1+1+1+1,0,none⟩) 4 4, .slice (some ⟨w.1.size+1+1+1+1+1+1+1,0,none⟩) 2 2, .slice (some ⟨w.1.size+1+1+1+1+1+1+1+1,0,none⟩) 2 2, .slice (some ⟨w.1.size+1+1+1+1+1+1+1+1+1,0,none⟩) 3 3] 113)
theorem lev_row(w:World)(k:Nat)(j:k < 10):(vH w).cell? ⟨w.1.size+1+1+1+1+1+1+1+1+1+1,k,none⟩=some (.slice (some ⟨w.1.size+k,0,none⟩) (jG.getD k []).length (jG.getD k []).length):=by
 match k,j with
 | 0,_=>exact(show(vH w).cell? ⟨w.1.size+1+1+1+1+1+1+1+1+1+1,0,none⟩=some (.slice (some ⟨w.1.size+0,0,none⟩) 1 1) by simp[vH,go_sem])
 | 1,_=>exact(show(vH w).cell? ⟨w.1.size+1+1+1+1+1+1+1+1+1+1,1,none⟩=some (.slice (some ⟨w.1.size+1,0,none⟩) 1 1) by simp[vH,go_sem])
 | 2,_=>exact(show(vH w).cell? ⟨w.1.size+1+1+1+1+1+1+1+1+1+1,2,none⟩=some (.slice (some ⟨w.1.size+2,0,none⟩) 1 1) by simp[vH,go_sem])
 | 3,_=>exact(show(vH w).cell? ⟨w.1.size+1+1+1+1+1+1+1+1+1+1,3,none⟩=some (.slice (some ⟨w.1.size+3,0,none⟩) 1 1) by simp[vH,go_sem])
 | 4,_=>exact(show(vH w).cell? ⟨w.1.size+1+1+1+1+1+1+1+1+1+1,4,none⟩=some (.slice (some ⟨w.1.size+4,0,none⟩) 1 1) by simp[vH,go_sem])
 | 5,_=>exact(show(vH w).cell? ⟨w.1.size+1+1+1+1+1+1+1+1+1+1,5,none⟩=some (.slice (some ⟨w.1.size+5,0,none⟩) 2 2) by simp[vH,go_sem])
 | 6,_=>exact(show(vH w).cell? ⟨w.1.size+1+1+1+1+1+1+1+1+1+1,6,none⟩=some (.slice (some ⟨w.1.size+6,0,none⟩) 4 4) by simp[vH,go_sem])
 | 7,_=>exact(show(vH w).cell? ⟨w.1.size+1+1+1+1+1+1+1+1+1+1,7,none⟩=some (.slice (some ⟨w.1.size+7,0,none⟩) 2 2) by simp[vH,go_sem])
 | 8,_=>exact(show(vH w).cell? ⟨w.1.size+1+1+1+1+1+1+1+1+1+1,8,none⟩=some (.slice (some ⟨w.1.size+8,0,none⟩) 2 2) by simp[vH,go_sem])
 | 9,_=>exact(show(vH w).cell? ⟨w.1.size+1+1+1+1+1+1+1+1+1+1,9,none⟩=some (.slice (some ⟨w.1.size+9,0,none⟩) 3 3) by simp[vH,go_sem])
theorem lev_str(w:World)(k:Nat)(s:k < 10)(j:Nat)(o:j < ((jG.getD k []).map fun x=>(⟨x.toArray⟩:ByteArray)).length):(vH w).cell? ⟨w.1.size+k,0+j,none⟩=some (.string (((jG.getD k []).map fun x=>(⟨x.toArray⟩:ByteArray)).getD j ByteArray.empty)):=by
 rw[Nat.zero_add];match k,s with
 | 0,_ =>
  match j,o with
  | 0,_=>exact(show(vH w).cell? ⟨w.1.size+0,0,none⟩=some (.string ⟨#[124,124]⟩) by simp[vH,go_sem])
  | j+1,o=>exact absurd o (by simp[jG])
 | 1,_ =>
  match j,o with
  | 0,_=>exact(show(vH w).cell? ⟨w.1.size+1,0,none⟩=some (.string ⟨#[38,38]⟩) by simp[vH,go_sem])
  | j+1,o=>exact absurd o (by simp[jG])
 | 2,_ =>
  match j,o with
  | 0,_=>exact(show(vH w).cell? ⟨w.1.size+2,0,none⟩=some (.string ⟨#[124]⟩) by simp[vH,go_sem])
  | j+1,o=>exact absurd o (by simp[jG])
 | 3,_ =>
  match j,o with
  | 0,_=>exact(show(vH w).cell? ⟨w.1.size+3,0,none⟩=some (.string ⟨#[94]⟩) by simp[vH,go_sem])
  | j+1,o=>exact absurd o (by simp[jG])
 | 4,_ =>
  match j,o with
  | 0,_=>exact(show(vH w).cell? ⟨w.1.size+4,0,none⟩=some (.string ⟨#[38]⟩) by simp[vH,go_sem])
  | j+1,o=>exact absurd o (by simp[jG])
 | 5,_ =>
  match j,o with
  | 0,_=>exact(show(vH w).cell? ⟨w.1.size+5,0,none⟩=some (.string ⟨#[61,61]⟩) by simp[vH,go_sem])
  | 1,_=>exact(show(vH w).cell? ⟨w.1.size+5,1,none⟩=some (.string ⟨#[33,61]⟩) by simp[vH,go_sem])
  | j+2,o=>exact absurd o (by simp[jG])
 | 6,_ =>
  match j,o with
  | 0,_=>exact(show(vH w).cell? ⟨w.1.size+6,0,none⟩=some (.string ⟨#[60]⟩) by simp[vH,go_sem])
  | 1,_=>exact(show(vH w).cell? ⟨w.1.size+6,1,none⟩=some (.string ⟨#[60,61]⟩) by simp[vH,go_sem])
  | 2,_=>exact(show(vH w).cell? ⟨w.1.size+6,2,none⟩=some (.string ⟨#[62]⟩) by simp[vH,go_sem])
  | 3,_=>exact(show(vH w).cell? ⟨w.1.size+6,3,none⟩=some (.string ⟨#[62,61]⟩) by simp[vH,go_sem])
  | j+4,o=>exact absurd o (by simp[jG])
 | 7,_ =>
  match j,o with
  | 0,_=>exact(show(vH w).cell? ⟨w.1.size+7,0,none⟩=some (.string ⟨#[60,60]⟩) by simp[vH,go_sem])
  | 1,_=>exact(show(vH w).cell? ⟨w.1.size+7,1,none⟩=some (.string ⟨#[62,62]⟩) by simp[vH,go_sem])
  | j+2,o=>exact absurd o (by simp[jG])
 | 8,_ =>
  match j,o with
  | 0,_=>exact(show(vH w).cell? ⟨w.1.size+8,0,none⟩=some (.string ⟨#[43]⟩) by simp[vH,go_sem])
  | 1,_=>exact(show(vH w).cell? ⟨w.1.size+8,1,none⟩=some (.string ⟨#[45]⟩) by simp[vH,go_sem])
  | j+2,o=>exact absurd o (by simp[jG])
 | 9,_ =>
  match j,o with
  | 0,_=>exact(show(vH w).cell? ⟨w.1.size+9,0,none⟩=some (.string ⟨#[42]⟩) by simp[vH,go_sem])
  | 1,_=>exact(show(vH w).cell? ⟨w.1.size+9,1,none⟩=some (.string ⟨#[47]⟩) by simp[vH,go_sem])
  | 2,_=>exact(show(vH w).cell? ⟨w.1.size+9,2,none⟩=some (.string ⟨#[37]⟩) by simp[vH,go_sem])
  | j+3,o=>exact absurd o (by simp[jG])
theorem lev_below(w:World):Below w.1.size w (vH w):=by
 unfold vH;refine Below.alloc ?_ (by simp;try omega) _;refine Below.alloc ?_ (by simp;try omega) _;refine Below.alloc ?_ (by simp;try omega) _;refine Below.alloc ?_ (by simp;try omega) _;refine Below.alloc ?_ (by simp;try omega) _;refine Below.alloc ?_ (by simp;try omega) _;refine Below.alloc ?_ (by simp;try omega) _;refine Below.alloc ?_ (by simp;try omega) _;refine Below.alloc ?_ (by simp;try omega) _;refine Below.alloc ?_ (by simp;try omega) _;refine Below.alloc ?_ (by simp;try omega) _;exact Below.refl _ _
theorem lev_len:∀ k,k < 10->(jG.getD k []).length<=9223372036854775807:=by decide
theorem lev_at(w:World):LevAt w.1.size (w.1.size+1+1+1+1+1+1+1+1+1+1) (vH w):=⟨lev_row w,lev_str w⟩
theorem lev_hit{x:List UInt8}{k:Nat}(h:k < 10)(hp:(jG.getD k []).contains x=true)(hr:xE x k (jG.drop k)=xL x):(k:Int)=xL x:=by
 have hl:k < jG.length:=h;rw[List.drop_eq_getElem_cons hl,xE]at hr;rw[List.getD_eq_getElem?_getD,List.getElem?_eq_getElem hl,Option.getD_some]at hp;rw[if_pos hp]at hr;exact hr
theorem lev_miss{x:List UInt8}{k:Nat}(h:k < 10)(hp:(jG.getD k []).contains x=false)(hr:xE x k (jG.drop k)=xL x):xE x ((k+1:Nat):Int) (jG.drop (k+1))=xL x:=by
 have hl:k < jG.length:=h;rw[List.drop_eq_getElem_cons hl,xE]at hr;rw[List.getD_eq_getElem?_getD,List.getElem?_eq_getElem hl,Option.getD_some]at hp;rw[if_neg (by rw[hp];decide)]at hr;simpa using hr
theorem lev_end{x:List UInt8}{k:Nat}(h:k<=10)(j:¬k < 10)(hr:xE x k (jG.drop k)=xL x):(-1:Int)=xL x:=by
 obtain rfl:k=10:=by omega
 exact hr
theorem qUG(L:List (List UInt8))(x:List UInt8):Lib.containsS ((L.map fun y=>(⟨y.toArray⟩:ByteArray)).take L.length) ⟨x.toArray⟩=L.contains x:=by
 rw[List.take_of_length_le (by simp),Bool.eq_iff_iff,Lib.containsS_iff];simp
theorem qUf(x:List UInt8)(w:World):Calls prog 162 #[.string ⟨x.toArray⟩] w fun e w'=>e=.returned (.int .i64 (xL x))/\Below w.1.size w w':=by
 have G:=hI (lev_at w);have C:=hI (lev_below w);go_enter func162,ntmps162
 go_wp2_with fail
 change Code.wp _ _ _ _ (vH w);generalize vH w=W at *;generalize w.1.size+1+1+1+1+1+1+1+1+1+1=T at *;go_loop [18] (fun i=>∃ k:Nat,k<=10/\i=.int .i64 k/\xE x k (jG.drop k)=xL x) (fun i=>10 - (intOf i).toNat)
 case atStart=>exact⟨0,Nat.zero_le _,rfl,rfl⟩
 case round =>
  obtain⟨k,I,rfl,hr⟩:=hrel;have A:=hI hr;clear hr;by_cases j:k < 10
  ·have hc:=G.o.row k j;have s:=hI (Tryz.slices_Contains_string (w.1.size+k) 0 (jG.getD k []).length (jG.getD k []).length ((jG.getD k []).map fun x=>(⟨x.toArray⟩:ByteArray)) ⟨x.toArray⟩ W (by simp) (lev_len k j) (G.o.str k j));rw[qUG]at s;have y:=s;cases hp:(jG.getD k []).contains x
   ·rw[hp]at s;have z:=hI hp;clear hp y;generalize (jG.getD k []).length=m at *;go_wp2_with fail
    refine(s.o).mono ?_;rintro e w' ⟨rfl,rfl⟩;go_wp2
    go_round
    case rel=>exact⟨k+1,by omega,by go_num,lev_miss j z.o A.o⟩
    case measure=>simp[intOf];omega
   ·rw[hp]at s;have z:=hI hp;clear hp y;generalize (jG.getD k []).length=m at *;go_wp2_with fail
    refine(s.o).mono ?_;rintro e w' ⟨rfl,rfl⟩;go_wp2
    go_ret;refine⟨?_,C.o⟩;rw[<-lev_hit j z.o A.o];rfl
  ·go_wp2
   go_ret;refine⟨?_,C.o⟩;rw[<-lev_end I j A.o];rfl
end Go.Proofs.YtiajhekdhhhghaaGreatDoor
