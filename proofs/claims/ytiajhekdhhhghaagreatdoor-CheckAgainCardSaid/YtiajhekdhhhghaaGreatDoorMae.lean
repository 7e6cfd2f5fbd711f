/- Walks. -/
import Derived.Test.YtiajhekdhhhghaaGreatDoorMad
set_option linter.all false
set_option maxHeartbeats 8000000
set_option maxRecDepth 100000
namespace Go.Proofs.YtiajhekdhhhghaaGreatDoor
open Tryz
open Go Go.RowKit
theorem qPd(rec:NT->Int->List Tok->PR qQ)(n:Nat)(d:Int)(hcall:vM 160 (fun p=>#[p]) d (qQz rec n d))(htar:vM 161 (fun p=>#[p]) d (xF rec d))(hex:vM 158 (fun p=>#[p]) d (qQh rec d)):vM 146 (fun p=>#[p]) d (jJ rec n d):=by
 intro B l w h hno;obtain⟨t,r,rfl⟩:=h.ends.ne;have S0:=St.start h;have hBw:=S0.hB;have HNO:=hI hno;have S0:=hI S0;have hmf:=zT;have hft:=vS;have hfk:=yW;have HCL:=hI hcall;have HTR:=hI htar;have HEX:=hI hex;clear hcall htar hex;clear h hno;unfold jY at *;go_enter func146,ntmps146
 cases hf0:(qQR (t :: r));case false =>
  have H:=hI (qX8 B (t :: r) d _ S0.o.ps);rw[hf0]at H;go_wp2_with fail
  refine(H.o).mono ?_;rintro e w1 ⟨rfl,hb1⟩;have S1:=hI (S0.o.below hb1);clear S0;clear H hb1;have H:=hI (kY B t r d _ S1.o.ps);go_wp2_with fail
  refine(H.o).mono ?_;rintro e w2 ⟨rfl,hb2⟩;have S2:=hI (S1.o.below hb2);clear S1;clear H hb2;have H:=hI (jI t ⟨#[97,115,115,105,103,110]⟩ ⟨#[]⟩);go_wp2_with fail
  refine(H.o _).mono ?_;rintro e w3 ⟨rfl,hb3⟩;have S3:=hI (S2.o.below hb3);clear S2;clear H hb3;have hwN:w.1.size < w3.1.size:=S3.o.lt;have N4:=hI (Nd.new qP [] 0 t.line t.col w3);have S4:=hI (S3.o.alloc (wD qP [] 0 t.line t.col (.slice none 0 0)));clear S3;unfold wD at *;have hnoc:xF rec d (t :: r)≠.out:=fun e=>HNO.o (by simp only[bF,if_false,if_true,reduceIte,bN,bM,bO,bU,bP,bV,bW,bB,bA,bT,lN,lC,lA,jJ,hf0,PR.bind,qX,e])
  have HNOC:=hI hnoc;clear hnoc;have S5d:=hI S4.o.drew;have N5d:=hI N4.o.drew;clear S4 N4;go_wp2_with fail
  have hcl:=N5d.o.nd.c5;refine wRg (S:=fun w'=>w'.cell? ⟨w3.1.size,5,none⟩=some (.slice none 0 0)) 5 ?_;refine wTk 0 16 (.pointer (some ⟨w3.1.size,5,none⟩)) ?_ hcl ?_
  ·intro _ y;go_simp
  refine wTk 1 17 (.slice none 0 0) ?_ hcl ?_
  ·intro _ y;go_simp
  refine wTk 2 18 (.pointer (some ⟨B,0,none⟩)) ?_ hcl ?_
  ·intro _ y;go_simp
  refine wOn 3 fun K hK=>?_
  go_simp;have HC:=HTR.o B (t :: r) _ S5d.o.ps HNOC.o;refine HC.mono ?_;intro e w5a hq;rcases hq.cases HNOC.o with⟨t5,l5,q5,n5,c5,he5,rfl,hb6,hP6,hg6⟩ | ⟨ln,c,code,he5,rfl,hg6⟩;rotate_left
  ·refine⟨rfl,?_⟩;have hbad:(jJ rec n d) (t :: r)=.bad ln c code:=by simp only[bF,if_false,if_true,reduceIte,bN,bM,bO,bU,bP,bV,bW,bB,bA,bT,lN,lC,lA,jJ,hf0,PR.bind,qX,he5]
   rw[hbad];exact S5d.o.pan ⟨rfl,hg6⟩
  have S6:=hI (S5d.o.call hP6 hg6);have N6:=hI (N5d.o.call hg6 (by omega));have HB6:=hI hb6;have hbl:=N5d.o.bd.lt;have c6':=N6.o.nd.c5;have f6':=N6.o.nd.f 5 nL;have hs6:=N6.o.lt;have hsz5:=N5d.o.lt;have hsz6:=hg6.size;clear hP6 hg6 hb6 HC hq S5d N5d;unfold qZ;refine kK hK c6' ?_;clear hK K;refine wOn 4 fun K hK=>?_
  go_simp;refine kK hK (by go_simp) ?_;clear hK K;refine wOn 5 fun K hK=>?_
  refine qQq (dd:=21) (t:=t5) (u:=.slice q5 n5 c5) _ _ rfl rfl N6.o.bd HB6.o (by omega) (fun g hg=>(hbl g hg).2) hsz6 rfl rfl rfl (by simp) (fun v7 w5 hb7 hg7=>?_);refine kD hK ?_;clear hK K;obtain⟨qq5,nn5,cc5,rfl⟩:=hb7.shape;have hff:=qZ8 S6.o N6.o hwN hb7 hg7;have hs7:w5.frozen? ⟨w3.1.size,5,none⟩=false:=((N6.o.nd.grown (World.grownBy_alloc w5a _ none) (by simp)).grown hg7 (fun e=>by have:=(hbl _ e.symm).1;omega)).f 5 nL;have hd7:=((N6.o.nd.grown (World.grownBy_alloc w5a _ none) (by simp)).grown hg7 (fun e=>by have:=(hbl _ e.symm).1;omega)).c5;have HFF:=hI hff;clear hff hb7 hg7 S6 N6 HB6 hbl hcl c6' f6' hsz5 hsz6;try simp only[Act.put,pZa,pZb,pZc]
  refine wOn 6 fun K hK=>?_
  go_simp;refine kD hK ?_;clear hK K;refine wOn 7 fun K hK=>?_
  go_simp;refine kD hK ?_;clear hK K;refine wDn ?_ _;clear hs7 hd7;have S5:=hI HFF.o.1;have N5:=hI HFF.o.2;have HE5:=hI he5;clear HFF he5 HNOC;have hszn:=N5.o.lt;simp only[World.size_setCell]at hszn;have H:=hI (xV (S:=w5.1.size) [[61]] S5.o.ps (by simp) (by simp) (by simp));simp only[List.map,List.length]at H;go_wp2_with fail
  refine(H.o).mono ?_;rintro e w6 (⟨l6,he6,rfl,hP6,hg6⟩ | ⟨ln,c,code,he6,rfl,hg6⟩);rotate_left
  ·refine⟨rfl,?_⟩;have hbad:(jJ rec n d) (t :: r)=.bad ln c code:=by simp only[bF,if_false,if_true,reduceIte,bN,bM,bO,bU,bP,bV,bW,bB,bA,bT,lN,lC,lA,jJ,hf0,PR.bind,qX,HE5.o,he6]
   rw[hbad];exact S5.o.pan ⟨rfl,hg6⟩
  have S6:=hI (S5.o.call hP6 hg6);have N6:=hI (N5.o.call hg6 (by omega));clear S5 N5;have HE6:=hI he6;clear H he6 hP6 hg6;obtain⟨t1,r1,hlt1⟩:=S6.o.ps.ends.ne;subst hlt1;cases hf1:(t1.text == qW);case false =>
   have H:=hI (wN B t1 r1 d qW _ S6.o.ps);rw[hf1]at H;go_wp2_with fail
   refine(H.o).mono ?_;rintro e w7 ⟨rfl,hb7⟩;have S7:=hI (S6.o.below hb7);have N7:=hI (N6.o.below hb7);clear S6 N6;clear H hb7;cases hf2:(qQR (t1 :: r1));case false =>
    have H:=hI (qX8 B (t1 :: r1) d _ S7.o.ps);rw[hf2]at H;go_wp2_with fail
    refine(H.o).mono ?_;rintro e w8 ⟨rfl,hb8⟩;have S8:=hI (S7.o.below hb8);have N8:=hI (N7.o.below hb8);clear S7 N7;clear H hb8;have hnoc:qQh rec d (t1 :: r1)≠.out:=fun e=>HNO.o (by simp only[bF,if_false,if_true,reduceIte,bN,bM,bO,bU,bP,bV,bW,bB,bA,bT,lN,lC,lA,jJ,hf0,hf1,hf2,PR.bind,qX,HE5.o,HE6.o,e])
    have HNOC:=hI hnoc;clear hnoc;have S9d:=hI S8.o.drew;have N9d:=hI N8.o.drew;clear S8 N8;go_wp2_with fail
    have hcl:=N9d.o.nd.c5;refine wRg (S:=fun w'=>w'.cell? ⟨w3.1.size,5,none⟩=some (.slice qq5 nn5 cc5)) 5 ?_;refine wTk 0 26 (.pointer (some ⟨w3.1.size,5,none⟩)) ?_ hcl ?_
    ·intro _ y;go_simp
    refine wTk 1 27 (.slice qq5 nn5 cc5) ?_ hcl ?_
    ·intro _ y;go_simp
    refine wTk 2 28 (.pointer (some ⟨B,0,none⟩)) ?_ hcl ?_
    ·intro _ y;go_simp
    refine wOn 3 fun K hK=>?_
    go_simp;have HC:=HEX.o B (t1 :: r1) _ S9d.o.ps HNOC.o;refine HC.mono ?_;intro e w9a hq;rcases hq.cases HNOC.o with⟨t9,l9,q9,n9,c9,he9,rfl,hb6,hP6,hg6⟩ | ⟨ln,c,code,he9,rfl,hg6⟩;rotate_left
    ·refine⟨rfl,?_⟩;have hbad:(jJ rec n d) (t :: r)=.bad ln c code:=by simp only[bF,if_false,if_true,reduceIte,bN,bM,bO,bU,bP,bV,bW,bB,bA,bT,lN,lC,lA,jJ,hf0,hf1,hf2,PR.bind,qX,HE5.o,HE6.o,he9]
     rw[hbad];exact S9d.o.pan ⟨rfl,hg6⟩
    have S6:=hI (S9d.o.call hP6 hg6);have N6:=hI (N9d.o.call hg6 (by omega));have HB6:=hI hb6;have hbl:=N9d.o.bd.lt;have c6':=N6.o.nd.c5;have f6':=N6.o.nd.f 5 nL;have hs6:=N6.o.lt;have hsz5:=N9d.o.lt;have hsz6:=hg6.size;clear hP6 hg6 hb6 HC hq S9d N9d;unfold qZ;refine kK hK c6' ?_;clear hK K;refine wOn 4 fun K hK=>?_
    go_simp;refine kK hK (by go_simp) ?_;clear hK K;refine wOn 5 fun K hK=>?_
    refine qQq (dd:=31) (t:=t9) (u:=.slice q9 n9 c9) _ _ rfl rfl N6.o.bd HB6.o (by omega) (fun g hg=>(hbl g hg).2) hsz6 rfl rfl rfl (by simp) (fun v7 w9 hb7 hg7=>?_);refine kD hK ?_;clear hK K;obtain⟨qq9,nn9,cc9,rfl⟩:=hb7.shape;have hff:=qZ8 S6.o N6.o hwN hb7 hg7;have hs7:w9.frozen? ⟨w3.1.size,5,none⟩=false:=((N6.o.nd.grown (World.grownBy_alloc w9a _ none) (by simp)).grown hg7 (fun e=>by have:=(hbl _ e.symm).1;omega)).f 5 nL;have hd7:=((N6.o.nd.grown (World.grownBy_alloc w9a _ none) (by simp)).grown hg7 (fun e=>by have:=(hbl _ e.symm).1;omega)).c5;have HFF:=hI hff;clear hff hb7 hg7 S6 N6 HB6 hbl hcl c6' f6' hsz5 hsz6;try simp only[Act.put,pZa,pZb,pZc]
    refine wOn 6 fun K hK=>?_
    go_simp;refine kD hK ?_;clear hK K;refine wOn 7 fun K hK=>?_
    go_simp;refine kD hK ?_;clear hK K;refine wDn ?_ _;clear hs7 hd7;have S9:=hI HFF.o.1;have N9:=hI HFF.o.2;have HE9:=hI he9;clear HFF he9 HNOC;have hszn:=N9.o.lt;simp only[World.size_setCell]at hszn;have H:=hI (xV (S:=w9.1.size) [[59]] S9.o.ps (by simp) (by simp) (by simp));simp only[List.map,List.length]at H;go_wp2_with fail
    refine(H.o).mono ?_;rintro e w10 (⟨l10,he10,rfl,hP10,hg10⟩ | ⟨ln,c,code,he10,rfl,hg10⟩);rotate_left
    ·refine⟨rfl,?_⟩;have hbad:(jJ rec n d) (t :: r)=.bad ln c code:=by simp only[bF,if_false,if_true,reduceIte,bN,bM,bO,bU,bP,bV,bW,bB,bA,bT,lN,lC,lA,jJ,hf0,hf1,hf2,PR.bind,qX,HE5.o,HE6.o,HE9.o,he10]
     rw[hbad];exact S9.o.pan ⟨rfl,hg10⟩
    have S10:=hI (S9.o.call hP10 hg10);have N10:=hI (N9.o.call hg10 (by omega));clear S9 N9;have HE10:=hI he10;clear H he10 hP10 hg10;have S9:=S10.o;have N9:=N10.o;have hs1:=S9.lt;have hs2:=N9.lt;try simp only[World.size_setCell,World.size_alloc]at hs1 hs2
    have hr:=S9.res;have⟨r0,r1',r2,r3,r4,r5,_⟩:=hr.a;have⟨g0,g1,g2,g3,g4,g5,_⟩:=hr.b;clear hr;have hq:=N9.nd;have⟨qn0,qn1,qn2,qn3,qn4,qn5,_⟩:=hq.a;clear hq;have HS9:=hI S9;have HN9:=hI N9;clear S9 N9 S10 N10;unfold qP at qn0;go_wp2
    refine bodyPost_ret (v:=qZ (.mk qP [] 0 t.line t.col [t5,t9]) (.slice qq9 nn9 cc9)) (by simp[results,results146,go_sem,qZ,tQ,qY,qG,qC,qO,zB,zD,zX,qE,kIf,zS,qA,qV,qF,qD,qP,qW,qN,zW,zM,qL,qM,qT,zK,zL,qH,zA, *]) rfl ?_;have hgood:(jJ rec n d) (t :: r)=.ok (.mk qP [] 0 t.line t.col [t5,t9]) l10:=by simp only[bF,if_false,if_true,reduceIte,bN,bM,bO,bU,bP,bV,bW,bB,bA,bT,lN,lC,lA,jJ,hf0,hf1,hf2,PR.bind,qX,HE5.o,HE6.o,HE9.o,HE10.o]
    rw[hgood];exact HS9.o.fin (HN9.o.bd.mono (by omega)) _ _ _ _ _ _
   case true =>
    have H:=hI (qX8 B (t1 :: r1) d _ S7.o.ps);rw[hf2]at H;go_wp2_with fail
    refine(H.o).mono ?_;rintro e w8 ⟨rfl,hb8⟩;have S8:=hI (S7.o.below hb8);have N8:=hI (N7.o.below hb8);clear S7 N7;clear H hb8;have hk0:=N8.o.nd.c0;have hkf:=N8.o.nd.f 0 nL;have S9:=hI (S8.o.setN hwN 0 (.string ⟨qN.toArray⟩));have N9:=hI (N8.o.setK qN);clear S8 N8;have hnoc:qQz rec n d (t1 :: r1)≠.out:=fun e=>HNO.o (by simp only[bF,if_false,if_true,reduceIte,bN,bM,bO,bU,bP,bV,bW,bB,bA,bT,lN,lC,lA,jJ,hf0,hf1,hf2,PR.bind,qX,HE5.o,HE6.o,e])
    have HNOC:=hI hnoc;clear hnoc;have S10d:=hI S9.o.drew;have N10d:=hI N9.o.drew;clear S9 N9;go_wp2_with fail
    have hcl:=N10d.o.nd.c5;refine wRg (S:=fun w'=>w'.cell? ⟨w3.1.size,5,none⟩=some (.slice qq5 nn5 cc5)) 5 ?_;refine wTk 0 44 (.pointer (some ⟨w3.1.size,5,none⟩)) ?_ hcl ?_
    ·intro _ y;go_simp
    refine wTk 1 45 (.slice qq5 nn5 cc5) ?_ hcl ?_
    ·intro _ y;go_simp
    refine wTk 2 46 (.pointer (some ⟨B,0,none⟩)) ?_ hcl ?_
    ·intro _ y;go_simp
    refine wOn 3 fun K hK=>?_
    go_simp;have HC:=HCL.o B (t1 :: r1) _ S10d.o.ps HNOC.o;refine HC.mono ?_;intro e w10a hq;rcases hq.cases HNOC.o with⟨t10,l10,q10,n10,c10,he10,rfl,hb6,hP6,hg6⟩ | ⟨ln,c,code,he10,rfl,hg6⟩;rotate_left
    ·refine⟨rfl,?_⟩;have hbad:(jJ rec n d) (t :: r)=.bad ln c code:=by simp only[bF,if_false,if_true,reduceIte,bN,bM,bO,bU,bP,bV,bW,bB,bA,bT,lN,lC,lA,jJ,hf0,hf1,hf2,PR.bind,qX,HE5.o,HE6.o,he10]
     rw[hbad];exact S10d.o.pan ⟨rfl,hg6⟩
    have S6:=hI (S10d.o.call hP6 hg6);have N6:=hI (N10d.o.call hg6 (by omega));have HB6:=hI hb6;have hbl:=N10d.o.bd.lt;have c6':=N6.o.nd.c5;have f6':=N6.o.nd.f 5 nL;have hs6:=N6.o.lt;have hsz5:=N10d.o.lt;have hsz6:=hg6.size;clear hP6 hg6 hb6 HC hq S10d N10d;unfold qZ;refine kK hK c6' ?_;clear hK K;refine wOn 4 fun K hK=>?_
    go_simp;refine kK hK (by go_simp) ?_;clear hK K;refine wOn 5 fun K hK=>?_
    refine qQq (dd:=49) (t:=t10) (u:=.slice q10 n10 c10) _ _ rfl rfl N6.o.bd HB6.o (by omega) (fun g hg=>(hbl g hg).2) hsz6 rfl rfl rfl (by simp) (fun v7 w10 hb7 hg7=>?_);refine kD hK ?_;clear hK K;obtain⟨qq10,nn10,cc10,rfl⟩:=hb7.shape;have hff:=qZ8 S6.o N6.o hwN hb7 hg7;have hs7:w10.frozen? ⟨w3.1.size,5,none⟩=false:=((N6.o.nd.grown (World.grownBy_alloc w10a _ none) (by simp)).grown hg7 (fun e=>by have:=(hbl _ e.symm).1;omega)).f 5 nL;have hd7:=((N6.o.nd.grown (World.grownBy_alloc w10a _ none) (by simp)).grown hg7 (fun e=>by have:=(hbl _ e.symm).1;omega)).c5;have HFF:=hI hff;clear hff hb7 hg7 S6 N6 HB6 hbl hcl c6' f6' hsz5 hsz6;try simp only[Act.put,pZa,pZb,pZc]
    refine wOn 6 fun K hK=>?_
    go_simp;refine kD hK ?_;clear hK K;refine wOn 7 fun K hK=>?_
    go_simp;refine kD hK ?_;clear hK K;refine wDn ?_ _;clear hs7 hd7;have S10:=hI HFF.o.1;have N10:=hI HFF.o.2;have HE10:=hI he10;clear HFF he10 HNOC;have hszn:=N10.o.lt;simp only[World.size_setCell]at hszn;have H:=hI (xV (S:=w10.1.size) [[59]] S10.o.ps (by simp) (by simp) (by simp));simp only[List.map,List.length]at H;go_wp2_with fail
    refine(H.o).mono ?_;rintro e w11 (⟨l11,he11,rfl,hP11,hg11⟩ | ⟨ln,c,code,he11,rfl,hg11⟩);rotate_left
    ·refine⟨rfl,?_⟩;have hbad:(jJ rec n d) (t :: r)=.bad ln c code:=by simp only[bF,if_false,if_true,reduceIte,bN,bM,bO,bU,bP,bV,bW,bB,bA,bT,lN,lC,lA,jJ,hf0,hf1,hf2,PR.bind,qX,HE5.o,HE6.o,HE10.o,he11]
     rw[hbad];exact S10.o.pan ⟨rfl,hg11⟩
    have S11:=hI (S10.o.call hP11 hg11);have N11:=hI (N10.o.call hg11 (by omega));clear S10 N10;have HE11:=hI he11;clear H he11 hP11 hg11;have S9:=S11.o;have N9:=N11.o;have hs1:=S9.lt;have hs2:=N9.lt;try simp only[World.size_setCell,World.size_alloc]at hs1 hs2
    have hr:=S9.res;have⟨r0,r1',r2,r3,r4,r5,_⟩:=hr.a;have⟨g0,g1,g2,g3,g4,g5,_⟩:=hr.b;clear hr;have hq:=N9.nd;have⟨qn0,qn1,qn2,qn3,qn4,qn5,_⟩:=hq.a;clear hq;have HS9:=hI S9;have HN9:=hI N9;clear S9 N9 S11 N11;unfold qN at qn0;go_wp2
    refine bodyPost_ret (v:=qZ (.mk qN [] 0 t.line t.col [t5,t10]) (.slice qq10 nn10 cc10)) (by simp[results,results146,go_sem,qZ,tQ,qY,qG,qC,qO,zB,zD,zX,qE,kIf,zS,qA,qV,qF,qD,qP,qW,qN,zW,zM,qL,qM,qT,zK,zL,qH,zA, *]) rfl ?_;have hgood:(jJ rec n d) (t :: r)=.ok (.mk qN [] 0 t.line t.col [t5,t10]) l11:=by simp only[bF,if_false,if_true,reduceIte,bN,bM,bO,bU,bP,bV,bW,bB,bA,bT,lN,lC,lA,jJ,hf0,hf1,hf2,PR.bind,qX,HE5.o,HE6.o,HE10.o,HE11.o]
    rw[hgood];exact HS9.o.fin (HN9.o.bd.mono (by omega)) _ _ _ _ _ _
  case true =>
   have H:=hI (wN B t1 r1 d qW _ S6.o.ps);rw[hf1]at H;go_wp2_with fail
   refine(H.o).mono ?_;rintro e w7 ⟨rfl,hb7⟩;have S7:=hI (S6.o.below hb7);have N7:=hI (N6.o.below hb7);clear S6 N6;clear H hb7;have H:=hI (xV (S:=w7.1.size) [qW,[40],[41]] S7.o.ps (by simp[*,qY,qG,qC,qO,zB,zD,zX,qE,kIf,zS,qA,qV,qF,qD,qP,qW,qN,zW,zM,qL,qM,qT,zK,zL,qH,zA]) (by simp) (by simp));simp only[List.map,List.length]at H;go_wp2_with fail
   refine(H.o).mono ?_;rintro e w8 (⟨l8,he8,rfl,hP8,hg8⟩ | ⟨ln,c,code,he8,rfl,hg8⟩);rotate_left
   ·refine⟨rfl,?_⟩;have hbad:(jJ rec n d) (t :: r)=.bad ln c code:=by simp only[bF,if_false,if_true,reduceIte,bN,bM,bO,bU,bP,bV,bW,bB,bA,bT,lN,lC,lA,jJ,hf0,hf1,PR.bind,qX,HE5.o,HE6.o,he8]
    rw[hbad];exact S7.o.pan ⟨rfl,hg8⟩
   have S8:=hI (S7.o.call hP8 hg8);have N8:=hI (N7.o.call hg8 (by omega));clear S7 N7;have HE8:=hI he8;clear H he8 hP8 hg8;have hk0:=N8.o.nd.c0;have hkf:=N8.o.nd.f 0 nL;have S9:=hI (S8.o.setN hwN 0 (.string ⟨qW.toArray⟩));have N9:=hI (N8.o.setK qW);clear S8 N8;have H:=hI (xV (S:=w8.1.size) [[59]] S9.o.ps (by simp) (by simp) (by simp));simp only[List.map,List.length]at H;go_wp2_with fail
   refine(H.o).mono ?_;rintro e w10 (⟨l10,he10,rfl,hP10,hg10⟩ | ⟨ln,c,code,he10,rfl,hg10⟩);rotate_left
   ·refine⟨rfl,?_⟩;have hbad:(jJ rec n d) (t :: r)=.bad ln c code:=by simp only[bF,if_false,if_true,reduceIte,bN,bM,bO,bU,bP,bV,bW,bB,bA,bT,lN,lC,lA,jJ,hf0,hf1,PR.bind,qX,HE5.o,HE6.o,HE8.o,he10]
    rw[hbad];exact S9.o.pan ⟨rfl,hg10⟩
   have S10:=hI (S9.o.call hP10 hg10);have N10:=hI (N9.o.call hg10 (by omega));clear S9 N9;have HE10:=hI he10;clear H he10 hP10 hg10;have S9:=S10.o;have N9:=N10.o;have hs1:=S9.lt;have hs2:=N9.lt;try simp only[World.size_setCell,World.size_alloc]at hs1 hs2
   have hr:=S9.res;have⟨r0,r1',r2,r3,r4,r5,_⟩:=hr.a;have⟨g0,g1,g2,g3,g4,g5,_⟩:=hr.b;clear hr;have hq:=N9.nd;have⟨qn0,qn1,qn2,qn3,qn4,qn5,_⟩:=hq.a;clear hq;have HS9:=hI S9;have HN9:=hI N9;clear S9 N9 S10 N10;unfold qW at qn0;go_wp2
   refine bodyPost_ret (v:=qZ (.mk qW [] 0 t.line t.col [t5]) (.slice qq5 nn5 cc5)) (by simp[results,results146,go_sem,qZ,tQ,qY,qG,qC,qO,zB,zD,zX,qE,kIf,zS,qA,qV,qF,qD,qP,qW,qN,zW,zM,qL,qM,qT,zK,zL,qH,zA, *]) rfl ?_;have hgood:(jJ rec n d) (t :: r)=.ok (.mk qW [] 0 t.line t.col [t5]) l10:=by simp only[bF,if_false,if_true,reduceIte,bN,bM,bO,bU,bP,bV,bW,bB,bA,bT,lN,lC,lA,jJ,hf0,hf1,PR.bind,qX,HE5.o,HE6.o,HE8.o,HE10.o]
   rw[hgood];exact HS9.o.fin (HN9.o.bd.mono (by omega)) _ _ _ _ _ _
 case true =>
  have H:=hI (qX8 B (t :: r) d _ S0.o.ps);rw[hf0]at H;go_wp2_with fail
  refine(H.o).mono ?_;rintro e w1 ⟨rfl,hb1⟩;have S1:=hI (S0.o.below hb1);clear S0;clear H hb1;have hnoc:qQz rec n d (t :: r)≠.out:=fun e=>HNO.o (by simp only[bF,if_false,if_true,reduceIte,bN,bM,bO,bU,bP,bV,bW,bB,bA,bT,lN,lC,lA,jJ,hf0,PR.bind,qX,e])
  have HC:=hI (HCL.o B (t :: r) _ S1.o.ps hnoc);have HNOC:=hI hnoc;clear hnoc;go_wp2_with fail
  refine(HC.o).mono ?_;intro e w2 hq;rcases hq.cases HNOC.o with⟨t2,l2,q2,n2,c2,he2,rfl,hb2,hP2,hg2⟩ | ⟨ln,c,code,he2,rfl,hg2⟩;rotate_left
  ·refine⟨rfl,?_⟩;have hbad:(jJ rec n d) (t :: r)=.bad ln c code:=by simp only[bF,if_false,if_true,reduceIte,bN,bM,bO,bU,bP,bV,bW,bB,bA,bT,lN,lC,lA,jJ,hf0,PR.bind,qX,he2]
   rw[hbad];exact S1.o.pan ⟨rfl,hg2⟩
  have hwN:w.1.size < w2.1.size:=(S1.o.call hP2 hg2).lt;have N2:=hI (Hd.put t2 (hb2.mono (lo':=w.1.size+1) S1.o.lt));have S2:=hI ((S1.o.call hP2 hg2).alloc (wD t2.kind t2.text t2.num t2.line t2.col (.slice q2 n2 c2)));have HE2:=hI he2;clear hq hb2 hP2 hg2 he2 HC HNOC S1;unfold qZ wD at *;have H:=hI (xV (S:=w2.1.size+1) [[59]] S2.o.ps (by simp) (by simp) (by simp));simp only[List.map,List.length]at H;go_wp2_with fail
  refine(H.o).mono ?_;rintro e w3 (⟨l3,he3,rfl,hP3,hg3⟩ | ⟨ln,c,code,he3,rfl,hg3⟩);rotate_left
  ·refine⟨rfl,?_⟩;have hbad:(jJ rec n d) (t :: r)=.bad ln c code:=by simp only[bF,if_false,if_true,reduceIte,bN,bM,bO,bU,bP,bV,bW,bB,bA,bT,lN,lC,lA,jJ,hf0,PR.bind,qX,HE2.o,he3]
   rw[hbad];exact S2.o.pan ⟨rfl,hg3⟩
  have S3:=hI (S2.o.call hP3 hg3);have N3:=hI (N2.o.call hg3 (by omega));clear S2 N2;have HE3:=hI he3;clear H he3 hP3 hg3;have S9:=S3.o;have N9:=N3.o;have hs1:=S9.lt;have hs2:=N9.lt;try simp only[World.size_setCell,World.size_alloc]at hs1 hs2
  have hr:=S9.res;have⟨r0,r1',r2,r3,r4,r5,_⟩:=hr.a;have⟨g0,g1,g2,g3,g4,g5,_⟩:=hr.b;clear hr;have hq:=N9.nd;have⟨qn0,qn1,qn2,qn3,qn4,qn5,_⟩:=hq.a;clear hq;have HS9:=hI S9;have HN9:=hI N9;clear S9 N9 S3 N3;skip
  go_wp2
  refine bodyPost_ret (v:=qZ t2 (.slice q2 n2 c2)) (by simp[results,results146,go_sem,qZ,tQ,qY,qG,qC,qO,zB,zD,zX,qE,kIf,zS,qA,qV,qF,qD,qP,qW,qN,zW,zM,qL,qM,qT,zK,zL,qH,zA, *]) rfl ?_;have hgood:(jJ rec n d) (t :: r)=.ok t2 l3:=by simp only[bF,if_false,if_true,reduceIte,bN,bM,bO,bU,bP,bV,bW,bB,bA,bT,lN,lC,lA,jJ,hf0,PR.bind,qX,HE2.o,HE3.o]
  rw[hgood];exact HS9.o.fin (HN9.o.bd.mono (by omega)) _ _ _ _ _ _
theorem jA{P:Program}{ops:Array Oper}{Q:Exit->Act->World->Prop}{md:Region.Mode}{S:World->Prop}{tail:Nat->Bool}{i j:Nat}{o o':Oper}{fuel:Nat}{listed:Array Bool}{a:Act}{w:World}(hi:ops[i]? = some o)(hj:ops[j]? = some o')(hr:Region.ready md ops listed=[i,j])(hw:Region.wanted o (yielded ops a.tmps)=true)(hw':Region.wanted o' (yielded ops a.tmps)=true)
 (h:∀ K:Act->World->Prop,Shut (∀ a' w',(tail i=false->S w')->vR P md ops Q S tail fuel (listed.setIfInBounds i true) a' w'->K a' w')->o.wp P a w K Q)
 (h':∀ K:Act->World->Prop,Shut (∀ a' w',(tail j=false->S w')->vR P md ops Q S tail fuel (listed.setIfInBounds j true) a' w'->K a' w')->o'.wp P a w K Q):vR P md ops Q S tail (fuel+1) listed a w:=by
 refine⟨fun h0=>(by rw[hr]at h0;cases h0),fun k hk=>?_⟩;rw[hr]at hk;have hk':k=i\/k=j:=by simpa using hk
 rcases hk' with rfl | rfl
 ·unfold wpOp;simp only[hi,hw,if_true];exact .inl (h _ (fun a' w' h1 h2=>⟨h1,h2⟩))
 ·unfold wpOp;simp only[hj,hw',if_true];exact .inl (h' _ (fun a' w' h1 h2=>⟨h1,h2⟩))
def CutPost(F:Act->Nat->Act)(a:Act)(I:Nat->World->Prop)(e:Exit)(a':Act)(w':World):Prop :=
 match e with
 | .normal=>∃ N,a'=F a N/\I N w'
 | _=>False
theorem qXG{P:Program}{c:Code}{Q:Exit->Act->World->Prop}{a:Act}{w:World}(F:Act->Nat->Act)(I:Nat->World->Prop)(h:c.wp P (CutPost F a I) a w)(k:∀ N w',I N w'->Q .normal (F a N) w'):c.wp P Q a w:=by
 refine wp_mono h ?_;intro e a' w' hq;cases e with
 | normal =>
  obtain⟨N,rfl,hI⟩:=hq;exact k N w' hI
 | exit id=>exact hq.elim
 | goto l=>exact hq.elim
 | ret=>exact hq.elim
 | panic ch=>exact hq.elim
 | outgrown=>exact hq.elim
def PanPost(ch:List PanicEntry)(I:World->Prop)(e:Exit)(a':Act)(w':World):Prop :=
 match e with
 | .panic c=>a'.defers=[]/\c=ch/\I w'
 | _=>False
theorem wp_pan{P:Program}{c:Code}{Q:Exit->Act->World->Prop}{a:Act}{w:World}(ch:List PanicEntry)(I:World->Prop)(h:c.wp P (PanPost ch I) a w)(k:∀ a' w',a'.defers=[]->I w'->Q (.panic ch) a' w'):c.wp P Q a w:=by
 refine wp_mono h ?_;intro e a' w' hq;cases e with
 | normal=>exact hq.elim
 | exit id=>exact hq.elim
 | goto l=>exact hq.elim
 | ret=>exact hq.elim
 | panic ch =>
  obtain⟨h1,rfl,h2⟩:=hq;exact k _ _ h1 h2
 | outgrown=>exact hq.elim
theorem zI.six{b:Nat}{k x:List UInt8}{n ln c:Int}{v:Value}{w:World}(h:zI b k x n ln c v w)(k' x':List UInt8)(n' ln' c':Int)(v':Value) :
 zI b k' x' n' ln' c' v' (six w b (.string ⟨k'.toArray⟩) (.string ⟨x'.toArray⟩) (.int .u64 n') (.int .i64 ln') (.int .i64 c') v'):=by
 have⟨h0,h1,h2,h3,h4,h5,_⟩:=h.a;have hf:=h.f;unfold Go.Proofs.YtiajhekdhhhghaaGreatDoor.six;constructor
 case f=>intro k hk;have:=hf k hk;simp[go_sem, *]
 all_goals simp[go_sem, *]
theorem St.six{w0:World}{B:Nat}{l:List Tok}{d:Int}{w:World}(h:St w0 B l d w){k:Nat}(hk:w0.1.size < k)(a b c d' e f:Value):St w0 B l d (six w k a b c d' e f):=h.local (vQ w k a b c d' e f) (fun j e=>by cases e;exact hk)
theorem qUS(rec:NT->Int->List Tok->PR qQ)(d:Int)(he:yR 181)(hop:vM 181 (fun p=>#[p]) (d+1) (rec .operand (d+1)))(hpar:vM 185 (fun p=>#[p]) d (yJ rec d))(htar:vM 161 (fun p=>#[p]) d (xF rec d)):vM 181 (fun p=>#[p]) d (jU rec d):=by
 intro B l w h hno;obtain⟨t,r,rfl⟩:=h.ends.ne;have S0:=St.start h;have hBw:=S0.hB;have HNO:=Lib.hid hno;have S0:=Lib.hid S0;have hmf:=zT;have hft:=vS;have hfk:=yW;have HOP:=Lib.hid (wT 181 d (rec .operand) he hop);have HPA:=Lib.hid hpar;have HTR:=Lib.hid htar;have HNU:=Lib.hid (qV7 d);clear he hop hpar htar;clear h hno;unfold jY at *;go_enter func181,ntmps181
 have H:=Lib.hid (kY B t r d _ S0.o.ps);go_wp2_with fail
 refine(H.o).mono ?_;rintro e w1 ⟨rfl,hb1⟩;have S1:=Lib.hid (S0.o.below hb1);clear S0;clear H hb1;unfold vT xA at *;have hwT:w.1.size < w1.1.size:=S1.o.lt;have L2:=Lib.hid (wH.newO t w1);have S2:=Lib.hid (S1.o.alloc (qXT t));clear S1;unfold qXT at *;have l0:=L2.o.c0;have l1:=L2.o.c1;have l2':=L2.o.c2;have l3':=L2.o.c3;have l4':=L2.o.c4;cases hk1:(t.kind == 1);case false =>
  cases hk2:(t.text == zL);case false =>
   have hm2:(t.text == [116,114,117,101])=false:=hk2;cases hk3:(t.text == qH);case false =>
    have hm3:(t.text == [102,97,108,115,101])=false:=hk3;cases hk4:(qXD t.text);case false =>
     have H:=Lib.hid (qVR t.text);rw[hk4]at H;go_wp2_with fail
     refine(H.o _).mono ?_;rintro e w3 ⟨rfl,rfl⟩;clear H;cases hk5:(t.text == [40]);case false =>
      clear l0 l1 l2' l3' l4';have hnoc:xF rec d (t :: r)≠.out:=fun e=>HNO.o (by simp only[bF,if_false,if_true,reduceIte,bN,bM,bO,bU,bP,bV,bW,bB,bA,bT,lN,lC,lA,jU,jV,hk1,hk2,hk3,hk4,hk5,PR.bind,qX,e])
      have HC:=Lib.hid (HTR.o B (t :: r) _ S2.o.ps hnoc);have HNOC:=Lib.hid hnoc;clear hnoc;go_wp2_with fail
      refine(HC.o).mono ?_;intro e w5 hq;rcases hq.cases HNOC.o with⟨t5,l5,q5,n5,c5,he5,rfl,hb5,hP5,hg5⟩ | ⟨ln,c,code,he5,rfl,hg5⟩;rotate_left
      ·refine⟨rfl,?_⟩;have hbad:(jU rec d) (t :: r)=.bad ln c code:=by simp only[bF,if_false,if_true,reduceIte,bN,bM,bO,bU,bP,bV,bW,bB,bA,bT,lN,lC,lA,jU,jV,hk1,hk2,hk3,hk4,hk5,PR.bind,qX,he5]
       rw[hbad];exact S2.o.pan ⟨rfl,hg5⟩
      have S9:=S2.o.call hP5 hg5;have HB:=Lib.hid (hb5.mono (lo':=w.1.size+1) S2.o.lt);have HE:=Lib.hid he5;have hs1:=S9.lt;have hr:=S9.res;have⟨r0,r1',r2,r3,r4,r5,_⟩:=hr.a;have⟨g0,g1,g2,g3,g4,g5,_⟩:=hr.b;clear hr;have HS9:=Lib.hid S9;clear S9 hq hb5 hP5 hg5 he5 HC S2 L2;unfold qZ;go_wp2
      refine bodyPost_ret (v:=qZ t5 (.slice q5 n5 c5)) (by simp[results,results181,go_sem,qZ, *]) rfl ?_;have hgood:(jU rec d) (t :: r)=.ok t5 l5:=by simp only[bF,if_false,if_true,reduceIte,bN,bM,bO,bU,bP,bV,bW,bB,bA,bT,lN,lC,lA,jU,jV,hk1,hk2,hk3,hk4,hk5,PR.bind,qX,HE.o]
      rw[hgood];exact HS9.o.fin HB.o _ _ _ _ _ _
     case true =>
      clear l0 l1 l2' l3' l4';have hnoc:yJ rec d (t :: r)≠.out:=fun e=>HNO.o (by simp only[bF,if_false,if_true,reduceIte,bN,bM,bO,bU,bP,bV,bW,bB,bA,bT,lN,lC,lA,jU,jV,hk1,hk2,hk3,hk4,hk5,PR.bind,qX,e])
      have HC:=Lib.hid (HPA.o B (t :: r) _ S2.o.ps hnoc);have HNOC:=Lib.hid hnoc;clear hnoc;go_wp2_with fail
      refine(HC.o).mono ?_;intro e w5 hq;rcases hq.cases HNOC.o with⟨t5,l5,q5,n5,c5,he5,rfl,hb5,hP5,hg5⟩ | ⟨ln,c,code,he5,rfl,hg5⟩;rotate_left
      ·refine⟨rfl,?_⟩;have hbad:(jU rec d) (t :: r)=.bad ln c code:=by simp only[bF,if_false,if_true,reduceIte,bN,bM,bO,bU,bP,bV,bW,bB,bA,bT,lN,lC,lA,jU,jV,hk1,hk2,hk3,hk4,hk5,PR.bind,qX,he5]
       rw[hbad];exact S2.o.pan ⟨rfl,hg5⟩
      have S9:=S2.o.call hP5 hg5;have HB:=Lib.hid (hb5.mono (lo':=w.1.size+1) S2.o.lt);have HE:=Lib.hid he5;have hs1:=S9.lt;have hr:=S9.res;have⟨r0,r1',r2,r3,r4,r5,_⟩:=hr.a;have⟨g0,g1,g2,g3,g4,g5,_⟩:=hr.b;clear hr;have HS9:=Lib.hid S9;clear S9 hq hb5 hP5 hg5 he5 HC S2 L2;unfold qZ;go_wp2
      refine bodyPost_ret (v:=qZ t5 (.slice q5 n5 c5)) (by simp[results,results181,go_sem,qZ, *]) rfl ?_;have hgood:(jU rec d) (t :: r)=.ok t5 l5:=by simp only[bF,if_false,if_true,reduceIte,bN,bM,bO,bU,bP,bV,bW,bB,bA,bT,lN,lC,lA,jU,jV,hk1,hk2,hk3,hk4,hk5,PR.bind,qX,HE.o]
      rw[hgood];exact HS9.o.fin HB.o _ _ _ _ _ _
    case true =>
     have H:=Lib.hid (qVR t.text);rw[hk4]at H;go_wp2_with fail
     refine(H.o _).mono ?_;rintro e w3 ⟨rfl,rfl⟩;clear H;have hte:t.text≠[]:=fun e=>by rw[e]at hk4;exact absurd hk4 (by decide)
     clear l0 l1 l2' l3' l4';go_wp2_with fail
     refine qXG (fun a N=>((((((a.put (some 31) (.agg #[.int .i64 t.kind, .string ⟨t.text.toArray⟩, .int .u64 t.num, .int .i64 t.line, .int .i64 t.col])).put (some 32) (.pointer (some ⟨B,0,none⟩))).put (some 33) (.agg #[.int .i64 t.kind, .string ⟨t.text.toArray⟩, .int .u64 t.num, .int .i64 t.line, .int .i64 t.col])).put (some 34) (.string ⟨t.text.toArray⟩)).put (some 35) (.agg #[.string ⟨qT.toArray⟩, .string ⟨t.text.toArray⟩, .int .u64 0, .int .i64 t.line, .int .i64 t.col, .slice none 0 0])).put (some 4) (.pointer (some ⟨N,0,none⟩)))) (fun N w'=>St w B r d w'/\Nd N qT t.text 0 t.line t.col (.slice none 0 0) [] w'/\w.1.size < N/\wH w1.1.size t w') ?_ ?_
     ·refine wW (S:=fun w'=>wH w1.1.size t w') (tail:=fun _=>false) (by kernel_rfl) ?_;change vR _ _ _ _ _ _ _ _ _ (World.drew _);have SS:=Lib.hid S2.o.drew;have LL:=Lib.hid (L2.o.below (Below.refl _ _).drew);generalize World.drew _=wd at *;have hwd:=SS.o.lt;have hwl:=LL.o.lt;refine wTk 0 31 (.agg #[.int .i64 t.kind, .string ⟨t.text.toArray⟩, .int .u64 t.num, .int .i64 t.line, .int .i64 t.col]) ?_ LL.o ?_
      ·intro _ y;have⟨h0,h1,h2,h3,h4,_⟩:=y.a;go_simp
      refine wTk 1 32 (.pointer (some ⟨B,0,none⟩)) ?_ LL.o ?_
      ·intro _ y;go_simp
      refine jA (i:=2) (j:=5) rfl rfl (by kernel_rfl) (by rfl) (by rfl) (fun K hK=>?_) (fun K hK=>?_)
      ·go_simp;refine(vB B t r d _ SS.o.ps hte).mono ?_;rintro e v5 ⟨rfl,hP,hg⟩;have S5x:=Lib.hid (SS.o.call hP hg);have L5x:=Lib.hid (LL.o.grown hg (by simp;omega));have hss5:=S5x.o.lt;have hll5:=L5x.o.lt;unfold vT xA;refine kK hK L5x.o ?_;clear hK K;refine wTk 3 34 (.string ⟨t.text.toArray⟩) ?_ L5x.o ?_
       ·intro _ y;go_simp
       refine jA (i:=4) (j:=5) rfl rfl (by kernel_rfl) (by rfl) (by rfl) (fun K hK=>?_) (fun K hK=>?_)
       ·go_simp;have HN:=jI t ⟨qT.toArray⟩ ⟨(t.text).toArray⟩;unfold vT xA at HN;refine(HN _).mono ?_;rintro e v9 ⟨rfl,hb⟩;have S9x:=Lib.hid (S5x.o.below hb);have L9x:=Lib.hid (L5x.o.below hb);have hss9:=S9x.o.lt;have hll9:=L9x.o.lt;refine kK hK L9x.o ?_;clear hK K;refine wOn 5 fun K hK=>?_
        go_simp;refine kK hK (L9x.o.below ((Below.refl _ _).alloc (Nat.le_refl _) _)) ?_;clear hK K;refine wOn 6 fun K hK=>?_
        go_simp;refine kK hK (L9x.o.below ((Below.refl _ _).alloc (Nat.le_refl _) _)) ?_;clear hK K;refine wDn ?_ _;exact⟨_,by first | rfl | (simp only[Act.put,pZa,pZb,pZc];done),S9x.o.alloc _,Nd.new qT t.text 0 t.line t.col _,S9x.o.lt,L9x.o.below ((Below.refl _ _).alloc (Nat.le_refl _) _)⟩
       ·go_simp;have S11a:=Lib.hid (S5x.o.alloc jY);have L11a:=Lib.hid (L5x.o.below ((Below.refl _ _).alloc (Nat.le_refl _) jY));have N11a:=Lib.hid (zI.new [] [] 0 0 0 (.slice none 0 0) v5);have hNs11:=N11a.o.lt;have hlt11:=S5x.o.lt;unfold jY at *;refine kK hK L11a.o ?_;clear hK K;refine wOn 4 fun K hK=>?_
        go_simp;have HN:=jI t ⟨qT.toArray⟩ ⟨(t.text).toArray⟩;unfold vT xA at HN;refine(HN _).mono ?_;rintro e v13 ⟨rfl,hb⟩;have S13x:=Lib.hid (S11a.o.below hb);have L13x:=Lib.hid (L11a.o.below hb);have N13x:=Lib.hid (N11a.o.below hb);have hNs13:=N13x.o.lt;have hss13:=S13x.o.lt;have hll13:=L13x.o.lt;refine kK hK L13x.o ?_;clear hK K;have⟨a0,a1,a2,a3,a4,a5,_⟩:=N13x.o.a;have⟨b0,b1,b2,b3,b4,b5,_⟩:=N13x.o.b;refine wOn 6 fun K hK=>?_
        go_simp;refine kK hK (L13x.o.grown (vQ _ v5.1.size _ _ _ _ _ _) (by simp;omega)) ?_;clear hK K;refine wDn ?_ _;exact⟨_,by first | rfl | (simp only[Act.put,pZa,pZb,pZc];done),S13x.o.six (by omega) _ _ _ _ _ _,⟨N13x.o.six qT t.text 0 t.line t.col (.slice none 0 0),zC.nil _ _⟩,by omega,L13x.o.grown (vQ _ v5.1.size _ _ _ _ _ _) (by simp;omega)⟩
      ·go_simp;have S15a:=Lib.hid (SS.o.alloc jY);have L15a:=Lib.hid (LL.o.below ((Below.refl _ _).alloc (Nat.le_refl _) jY));have N15a:=Lib.hid (zI.new [] [] 0 0 0 (.slice none 0 0) wd);have hNs15:=N15a.o.lt;have hlt15:=SS.o.lt;unfold jY at *;refine kK hK L15a.o ?_;clear hK K;refine wOn 2 fun K hK=>?_
       go_simp;refine(vB B t r d _ S15a.o.ps hte).mono ?_;rintro e v17 ⟨rfl,hP,hg⟩;have S17x:=Lib.hid (S15a.o.call hP hg);have L17x:=Lib.hid (L15a.o.grown hg (by simp;omega));have N17x:=Lib.hid (N15a.o.grown hg (by simp;omega));have hNs17:=N17x.o.lt;have hss17:=S17x.o.lt;have hll17:=L17x.o.lt;unfold vT xA;refine kK hK L17x.o ?_;clear hK K;refine wTk 3 34 (.string ⟨t.text.toArray⟩) ?_ L17x.o ?_
       ·intro _ y;go_simp
       refine wOn 4 fun K hK=>?_
       go_simp;have HN:=jI t ⟨qT.toArray⟩ ⟨(t.text).toArray⟩;unfold vT xA at HN;refine(HN _).mono ?_;rintro e v20 ⟨rfl,hb⟩;have S20x:=Lib.hid (S17x.o.below hb);have L20x:=Lib.hid (L17x.o.below hb);have N20x:=Lib.hid (N17x.o.below hb);have hNs20:=N20x.o.lt;have hss20:=S20x.o.lt;have hll20:=L20x.o.lt;refine kK hK L20x.o ?_;clear hK K;have⟨a0,a1,a2,a3,a4,a5,_⟩:=N20x.o.a;have⟨b0,b1,b2,b3,b4,b5,_⟩:=N20x.o.b;refine wOn 6 fun K hK=>?_
       go_simp;refine kK hK (L20x.o.grown (vQ _ wd.1.size _ _ _ _ _ _) (by simp;omega)) ?_;clear hK K;refine wDn ?_ _;exact⟨_,by first | rfl | (simp only[Act.put,pZa,pZb,pZc];done),S20x.o.six (by omega) _ _ _ _ _ _,⟨N20x.o.six qT t.text 0 t.line t.col (.slice none 0 0),zC.nil _ _⟩,by omega,L20x.o.grown (vQ _ wd.1.size _ _ _ _ _ _) (by simp;omega)⟩
     intro N w5 ⟨hS5,hN5,hwN,hL5⟩;try simp only[Act.put,pZa,pZb,pZc]
     have S5:=Lib.hid hS5;have N5:=Lib.hid hN5;clear hS5 hN5 hL5 S2 L2;have hnoc:xX d (rec .operand) r≠.out:=fun e=>HNO.o (by simp only[bF,if_false,if_true,reduceIte,bN,bM,bO,bU,bP,bV,bW,bB,bA,bT,lN,lC,lA,jU,jV,hk1,hk2,hk3,hk4,PR.bind,qX,e])
     have HC:=Lib.hid (HOP.o B r _ S5.o.ps hnoc);have HNOC:=Lib.hid hnoc;clear hnoc;go_wp2_with fail
     refine(HC.o).mono ?_;intro e w21 hq;rcases hq.cases HNOC.o with⟨t21,l21,q21,n21,c21,he21,rfl,hb21,hP21,hg21⟩ | ⟨ln,c,code,he21,rfl,hg21⟩;rotate_left
     ·refine⟨rfl,?_⟩;have hbad:(jU rec d) (t :: r)=.bad ln c code:=by simp only[bF,if_false,if_true,reduceIte,bN,bM,bO,bU,bP,bV,bW,bB,bA,bT,lN,lC,lA,jU,jV,hk1,hk2,hk3,hk4,PR.bind,qX,he21]
      rw[hbad];exact S5.o.pan ⟨rfl,hg21⟩
     have SC:=S5.o.call hP21 hg21;have NC:=N5.o.call hg21 (by omega);have hff:=qVb SC NC.nd hwN hb21 (Nat.succ_le_of_lt N5.o.lt) hg21.size;have HFF:=Lib.hid hff;have HE21:=Lib.hid he21;have hs1:=SC.lt;have hs2:=NC.lt;have hf5:=NC.nd.f 5 nL;have hr:=SC.res;have⟨r0,r1',r2,r3,r4,r5,_⟩:=hr.a;have⟨g0,g1,g2,g3,g4,g5,_⟩:=hr.b;clear hr;have hq:=NC.nd;have⟨qn0,qn1,qn2,qn3,qn4,qn5,_⟩:=hq.a;clear hq;clear hff hq hb21 hP21 hg21 he21 HC HNOC S5 N5 SC NC;unfold qZ;unfold qT at qn0;go_wp2
     refine bodyPost_ret (v:=qZ (.mk qT t.text 0 t.line t.col [t21]) (.slice (some ⟨w21.1.size,0,none⟩) 1 1)) (by simp[results,results181,go_sem,qZ,tQ,qY,qG,qC,qO,zB,zD,zX,qE,kIf,zS,qA,qV,qF,qD,qP,qW,qN,zW,zM,qL,qM,qT,zK,zL,qH,zA, *]) rfl ?_;have hgood:(jU rec d) (t :: r)=.ok (.mk qT t.text 0 t.line t.col [t21]) l21:=by simp only[bF,if_false,if_true,reduceIte,bN,bM,bO,bU,bP,bV,bW,bB,bA,bT,lN,lC,lA,jU,jV,hk1,hk2,hk3,hk4,PR.bind,qX,HE21.o]
     rw[hgood];exact HFF.o.1.finA (by simpa using hs1) (HFF.o.2.bd.mono (by omega)) _ _ _ _ _ _
   case true =>
    have hm3:(t.text == [102,97,108,115,101])=true:=hk3;have hte:t.text≠[]:=fun e=>by rw[e]at hm3;exact absurd hm3 (by decide)
    clear l0 l1 l2' l3' l4';go_wp2_with fail
    refine wW (S:=fun w'=>wH w1.1.size t w') (tail:=fun _=>false) (by kernel_rfl) ?_;change vR _ _ _ _ _ _ _ _ _ (World.drew _);have SS:=Lib.hid S2.o.drew;have LL:=Lib.hid (L2.o.below (Below.refl _ _).drew);generalize World.drew _=wd at *;have hwd:=SS.o.lt;have hwl:=LL.o.lt;refine wTk 0 22 (.agg #[.int .i64 t.kind, .string ⟨t.text.toArray⟩, .int .u64 t.num, .int .i64 t.line, .int .i64 t.col]) ?_ LL.o ?_
    ·intro _ y;have⟨h0,h1,h2,h3,h4,_⟩:=y.a;go_simp
    refine wTk 1 23 (.pointer (some ⟨B,0,none⟩)) ?_ LL.o ?_
    ·intro _ y;go_simp
    refine wOn 2 fun K hK=>?_
    go_simp;refine(vB B t r d _ SS.o.ps hte).mono ?_;rintro e v5 ⟨rfl,hP,hg⟩;have S5x:=Lib.hid (SS.o.call hP hg);have L5x:=Lib.hid (LL.o.grown hg (by simp;omega));unfold vT xA;refine kK hK L5x.o ?_;clear hK K;refine wTk 3 25 (.string ⟨t.text.toArray⟩) ?_ L5x.o ?_
    ·intro _ y;go_simp
    refine wOn 4 fun K hK=>?_
    go_simp;have HN:=jI t ⟨t.text.toArray⟩ ⟨#[]⟩;unfold vT xA at HN;refine(HN _).mono ?_;rintro e v6 ⟨rfl,hb⟩;have S6x:=Lib.hid (S5x.o.below hb);have L6x:=Lib.hid (L5x.o.below hb);refine kK hK L6x.o ?_;clear hK K;have hs1:=S6x.o.lt;have hs2:=L6x.o.lt;have hr:=S6x.o.res;have⟨r0,r1',r2,r3,r4,r5,_⟩:=hr.a;have⟨g0,g1,g2,g3,g4,g5,_⟩:=hr.b;clear hr;refine wOn 5 fun K hK=>?_
    go_simp;refine kK hK (L6x.o.grown (vQ _ w.1.size _ _ _ _ _ _) (by simp;omega)) ?_;clear hK K;refine wDn ?_ _;clear hP hg hb HN SS LL S5x L5x;go_wp2
    refine bodyPost_ret (v:=qZ (.mk t.text [] 0 t.line t.col []) (.slice none 0 0)) (by simp[results,results181,go_sem,qZ,tQ, *]) rfl ?_;have hgood:(jU rec d) (t :: r)=.ok (.mk t.text [] 0 t.line t.col []) r:=by simp only[bF,if_false,if_true,reduceIte,bN,bM,bO,bU,bP,bV,bW,bB,bA,bT,lN,lC,lA,jU,jV,hk1,hk2,hk3,PR.bind,qX]
    rw[hgood];exact S6x.o.fin (zC.nil _ _) _ _ _ _ _ _
  case true =>
   have hm2:(t.text == [116,114,117,101])=true:=hk2;have hte:t.text≠[]:=fun e=>by rw[e]at hm2;exact absurd hm2 (by decide)
   clear l0 l1 l2' l3' l4';go_wp2_with fail
   refine wW (S:=fun w'=>wH w1.1.size t w') (tail:=fun _=>false) (by kernel_rfl) ?_;change vR _ _ _ _ _ _ _ _ _ (World.drew _);have SS:=Lib.hid S2.o.drew;have LL:=Lib.hid (L2.o.below (Below.refl _ _).drew);generalize World.drew _=wd at *;have hwd:=SS.o.lt;have hwl:=LL.o.lt;refine wTk 0 22 (.agg #[.int .i64 t.kind, .string ⟨t.text.toArray⟩, .int .u64 t.num, .int .i64 t.line, .int .i64 t.col]) ?_ LL.o ?_
   ·intro _ y;have⟨h0,h1,h2,h3,h4,_⟩:=y.a;go_simp
   refine wTk 1 23 (.pointer (some ⟨B,0,none⟩)) ?_ LL.o ?_
   ·intro _ y;go_simp
   refine wOn 2 fun K hK=>?_
   go_simp;refine(vB B t r d _ SS.o.ps hte).mono ?_;rintro e v5 ⟨rfl,hP,hg⟩;have S5x:=Lib.hid (SS.o.call hP hg);have L5x:=Lib.hid (LL.o.grown hg (by simp;omega));unfold vT xA;refine kK hK L5x.o ?_;clear hK K;refine wTk 3 25 (.string ⟨t.text.toArray⟩) ?_ L5x.o ?_
   ·intro _ y;go_simp
   refine wOn 4 fun K hK=>?_
   go_simp;have HN:=jI t ⟨t.text.toArray⟩ ⟨#[]⟩;unfold vT xA at HN;refine(HN _).mono ?_;rintro e v6 ⟨rfl,hb⟩;have S6x:=Lib.hid (S5x.o.below hb);have L6x:=Lib.hid (L5x.o.below hb);refine kK hK L6x.o ?_;clear hK K;have hs1:=S6x.o.lt;have hs2:=L6x.o.lt;have hr:=S6x.o.res;have⟨r0,r1',r2,r3,r4,r5,_⟩:=hr.a;have⟨g0,g1,g2,g3,g4,g5,_⟩:=hr.b;clear hr;refine wOn 5 fun K hK=>?_
   go_simp;refine kK hK (L6x.o.grown (vQ _ w.1.size _ _ _ _ _ _) (by simp;omega)) ?_;clear hK K;refine wDn ?_ _;clear hP hg hb HN SS LL S5x L5x;go_wp2
   refine bodyPost_ret (v:=qZ (.mk t.text [] 0 t.line t.col []) (.slice none 0 0)) (by simp[results,results181,go_sem,qZ,tQ, *]) rfl ?_;have hgood:(jU rec d) (t :: r)=.ok (.mk t.text [] 0 t.line t.col []) r:=by simp only[bF,if_false,if_true,reduceIte,bN,bM,bO,bU,bP,bV,bW,bB,bA,bT,lN,lC,lA,jU,jV,hk1,hk2,PR.bind,qX]
   rw[hgood];exact S6x.o.fin (zC.nil _ _) _ _ _ _ _ _
 case true =>
  clear l0 l1 l2' l3' l4';have hnoc:wQ (t :: r)≠.out:=fun e=>HNO.o (by simp only[bF,if_false,if_true,reduceIte,bN,bM,bO,bU,bP,bV,bW,bB,bA,bT,lN,lC,lA,jU,jV,hk1,PR.bind,qX,e])
  have HC:=Lib.hid (HNU.o B (t :: r) _ S2.o.ps hnoc);have HNOC:=Lib.hid hnoc;clear hnoc;go_wp2_with fail
  refine(HC.o).mono ?_;intro e w3 hq;rcases hq.cases HNOC.o with⟨t3,l3,q3,n3,c3,he3,rfl,hb3,hP3,hg3⟩ | ⟨ln,c,code,he3,rfl,hg3⟩;rotate_left
  ·refine⟨rfl,?_⟩;have hbad:(jU rec d) (t :: r)=.bad ln c code:=by simp only[bF,if_false,if_true,reduceIte,bN,bM,bO,bU,bP,bV,bW,bB,bA,bT,lN,lC,lA,jU,jV,hk1,PR.bind,qX,he3]
   rw[hbad];exact S2.o.pan ⟨rfl,hg3⟩
  have S9:=S2.o.call hP3 hg3;have HB:=Lib.hid (hb3.mono (lo':=w.1.size+1) S2.o.lt);have HE:=Lib.hid he3;have hs1:=S9.lt;have hr:=S9.res;have⟨r0,r1',r2,r3,r4,r5,_⟩:=hr.a;have⟨g0,g1,g2,g3,g4,g5,_⟩:=hr.b;clear hr;have HS9:=Lib.hid S9;clear S9 hq hb3 hP3 hg3 he3 HC S2 L2;unfold qZ;go_wp2
  refine bodyPost_ret (v:=qZ t3 (.slice q3 n3 c3)) (by simp[results,results181,go_sem,qZ, *]) rfl ?_;have hgood:(jU rec d) (t :: r)=.ok t3 l3:=by simp only[bF,if_false,if_true,reduceIte,bN,bM,bO,bU,bP,bV,bW,bB,bA,bT,lN,lC,lA,jU,jV,hk1,PR.bind,qX,HE.o]
  rw[hgood];exact HS9.o.fin HB.o _ _ _ _ _ _
theorem paren_does(rec:NT->Int->List Tok->PR qQ)(d:Int)(he:yR 181)(he':yR 158)(hop:vM 181 (fun p=>#[p]) (d+1) (rec .operand (d+1)))(hex:vM 158 (fun p=>#[p]) (d+1) (qQh rec (d+1))):vM 185 (fun p=>#[p]) d (yJ rec d):=by
 intro B l w h hno;obtain⟨t,r,rfl⟩:=h.ends.ne;have S0:=St.start h;have hBw:=S0.hB;have HNO:=hI hno;have S0:=hI S0;have hmf:=zT;have hft:=vS;have hfk:=yW;have HOP:=hI (wT 181 d (rec .operand) he hop);have HEX:=hI (wT 158 d (rec (.binary 0)) he' hex);clear he he' hop hex;clear h hno;unfold jY at *;go_enter func185,ntmps185
 cases hf0:(t.text == [40]);case false =>
  have H:=hI (wN B t r d [40] _ S0.o.ps);rw[hf0]at H;go_wp2_with fail
  refine(H.o).mono ?_;rintro e w1 ⟨rfl,hb1⟩;have S1:=hI (S0.o.below hb1);clear S0;clear H hb1;have H:=hI (qQ8 B t r d _ S1.o.ps);go_wp2_with fail
  refine(H.o).mono ?_;rintro e w2 ⟨rfl,hg2⟩;refine⟨rfl,?_⟩;have hbad:(yJ rec d) (t :: r)=.bad t.line t.col 30:=by simp only[bF,if_false,if_true,reduceIte,bN,bM,bO,bU,bP,bV,bW,bB,bA,bT,lN,lC,lA,yJ,jV,hf0,PR.bind,qX,jV]
  rw[hbad];exact S1.o.pan ⟨rfl,hg2⟩
 case true =>
  have H:=hI (wN B t r d [40] _ S0.o.ps);rw[hf0]at H;go_wp2_with fail
  refine(H.o).mono ?_;rintro e w1 ⟨rfl,hb1⟩;have S1:=hI (S0.o.below hb1);clear S0;clear H hb1;have hte:t.text≠[]:=fun e=>by rw[e]at hf0;exact absurd hf0 (by decide)
  have H:=hI (vB B t r d _ S1.o.ps hte);go_wp2_with fail
  refine(H.o).mono ?_;rintro e w2 ⟨rfl,hP2,hg2⟩;have S2:=hI (S1.o.call hP2 hg2);clear S1;clear H hP2 hg2;unfold vT xA at *;have hwT:w.1.size < w2.1.size:=S2.o.lt;have L3:=hI (wH.newO t w2);have S3:=hI (S2.o.alloc (qXT t));clear S2;unfold qXT at *;obtain⟨u,rr,hlu⟩:=S3.o.ps.ends.ne;subst hlu;have H:=hI (kY B u rr d _ S3.o.ps);go_wp2_with fail
  refine(H.o).mono ?_;rintro e w4 ⟨rfl,hb4⟩;have S4:=hI (S3.o.below hb4);have L4:=hI (L3.o.below hb4);clear S3 L3;clear H hb4;cases hf1:(yG u.text);case false =>
   have hT:qWD w4:=by
    obtain⟨lo,T,o,c,h1⟩:=S4.o.ps;exact h1.tab.types
   have H:=hI (qXC ⟨u.text.toArray⟩ _ hT);have hdt:(⟨u.text.toArray⟩:ByteArray).data.toList=u.text:=by simp
   rw[hdt,hf1]at H;unfold vT xA at *;go_wp2_with fail
   refine(H.o).mono ?_;rintro e w5' ⟨rfl,rfl⟩;clear H hT hdt;clear L4;have hnoc:xX d (rec (.binary 0)) (u :: rr)≠.out:=fun e=>HNO.o (by simp only[bF,if_false,if_true,reduceIte,bN,bM,bO,bU,bP,bV,bW,bB,bA,bT,lN,lC,lA,yJ,jV,hf0,hf1,PR.bind,qX,e])
   have HC:=hI (HEX.o B (u :: rr) _ S4.o.ps hnoc);have HNOC:=hI hnoc;clear hnoc;go_wp2_with fail
   refine(HC.o).mono ?_;intro e w6 hq;rcases hq.cases HNOC.o with⟨t6,l6,q6,n6,c6,he6,rfl,hb6,hP6,hg6⟩ | ⟨ln,c,code,he6,rfl,hg6⟩;rotate_left
   ·refine⟨rfl,?_⟩;have hbad:(yJ rec d) (t :: u :: rr)=.bad ln c code:=by simp only[bF,if_false,if_true,reduceIte,bN,bM,bO,bU,bP,bV,bW,bB,bA,bT,lN,lC,lA,yJ,jV,hf0,hf1,PR.bind,qX,he6]
    rw[hbad];exact S4.o.pan ⟨rfl,hg6⟩
   have hwN:w.1.size < w6.1.size:=(S4.o.call hP6 hg6).lt;have N6:=hI (Hd.put t6 (hb6.mono (lo':=w.1.size+1) S4.o.lt));have S6:=hI ((S4.o.call hP6 hg6).alloc (wD t6.kind t6.text t6.num t6.line t6.col (.slice q6 n6 c6)));have HE6:=hI he6;clear hq hb6 hP6 hg6 he6 HC HNOC S4;unfold qZ wD at *;have H:=hI (xV (S:=w6.1.size+1) [[41]] S6.o.ps (by simp) (by simp) (by simp));simp only[List.map,List.length]at H;go_wp2_with fail
   refine(H.o).mono ?_;rintro e w7 (⟨l7,he7,rfl,hP7,hg7⟩ | ⟨ln,c,code,he7,rfl,hg7⟩);rotate_left
   ·refine⟨rfl,?_⟩;have hbad:(yJ rec d) (t :: u :: rr)=.bad ln c code:=by simp only[bF,if_false,if_true,reduceIte,bN,bM,bO,bU,bP,bV,bW,bB,bA,bT,lN,lC,lA,yJ,jV,hf0,hf1,PR.bind,qX,HE6.o,he7]
    rw[hbad];exact S6.o.pan ⟨rfl,hg7⟩
   have S7:=hI (S6.o.call hP7 hg7);have N7:=hI (N6.o.call hg7 (by omega));clear S6 N6;have HE7:=hI he7;clear H he7 hP7 hg7;have S9:=S7.o;have N9:=N7.o;have hs1:=S9.lt;have hs2:=N9.lt;try simp only[World.size_setCell,World.size_alloc]at hs1 hs2
   have hr:=S9.res;have⟨r0,r1',r2,r3,r4,r5,_⟩:=hr.a;have⟨g0,g1,g2,g3,g4,g5,_⟩:=hr.b;clear hr;have hq:=N9.nd;have⟨qn0,qn1,qn2,qn3,qn4,qn5,_⟩:=hq.a;clear hq;have HS9:=hI S9;have HN9:=hI N9;clear S9 N9 S7 N7;skip
   go_wp2
   refine bodyPost_ret (v:=qZ t6 (.slice q6 n6 c6)) (by simp[results,results185,go_sem,qZ,tQ,qY,qG,qC,qO,zB,zD,zX,qE,kIf,zS,qA,qV,qF,qD,qP,qW,qN,zW,zM,qL,qM,qT,zK,zL,qH,zA, *]) rfl ?_;have hgood:(yJ rec d) (t :: u :: rr)=.ok t6 l7:=by simp only[bF,if_false,if_true,reduceIte,bN,bM,bO,bU,bP,bV,bW,bB,bA,bT,lN,lC,lA,yJ,jV,hf0,hf1,PR.bind,qX,HE6.o,HE7.o]
   rw[hgood];exact HS9.o.fin (HN9.o.bd.mono (by omega)) _ _ _ _ _ _
  case true =>
   have hT:qWD w4:=by
    obtain⟨lo,T,o,c,h1⟩:=S4.o.ps;exact h1.tab.types
   have H:=hI (qXC ⟨u.text.toArray⟩ _ hT);have hdt:(⟨u.text.toArray⟩:ByteArray).data.toList=u.text:=by simp
   rw[hdt,hf1]at H;unfold vT xA at *;go_wp2_with fail
   refine(H.o).mono ?_;rintro e w5' ⟨rfl,rfl⟩;clear H hT hdt;have hteu:u.text≠[]:=fun e=>by rw[e]at hf1;exact absurd hf1 (by decide)
   go_wp2_with fail
   refine qXG (fun a N=>((((((a.put (some 14) (.agg #[.int .i64 t.kind, .string ⟨t.text.toArray⟩, .int .u64 t.num, .int .i64 t.line, .int .i64 t.col])).put (some 15) (.pointer (some ⟨B,0,none⟩))).put (some 16) (.agg #[.int .i64 u.kind, .string ⟨u.text.toArray⟩, .int .u64 u.num, .int .i64 u.line, .int .i64 u.col])).put (some 17) (.string ⟨u.text.toArray⟩)).put (some 18) (.agg #[.string ⟨zK.toArray⟩, .string ⟨u.text.toArray⟩, .int .u64 0, .int .i64 t.line, .int .i64 t.col, .slice none 0 0])).put (some 4) (.pointer (some ⟨N,0,none⟩)))) (fun N w'=>St w B rr d w'/\Nd N zK u.text 0 t.line t.col (.slice none 0 0) [] w'/\w.1.size < N/\wH w2.1.size t w') ?_ ?_
   ·refine wW (S:=fun w'=>wH w2.1.size t w') (tail:=fun _=>false) (by kernel_rfl) ?_;change vR _ _ _ _ _ _ _ _ _ (World.drew _);have SS:=hI S4.o.drew;have LL:=hI (L4.o.below (Below.refl _ _).drew);generalize World.drew _=wd at *;have hwd:=SS.o.lt;have hwl:=LL.o.lt;refine wTk 0 14 (.agg #[.int .i64 t.kind, .string ⟨t.text.toArray⟩, .int .u64 t.num, .int .i64 t.line, .int .i64 t.col]) ?_ LL.o ?_
    ·intro _ y;have⟨h0,h1,h2,h3,h4,_⟩:=y.a;go_simp
    refine wTk 1 15 (.pointer (some ⟨B,0,none⟩)) ?_ LL.o ?_
    ·intro _ y;go_simp
    refine jA (i:=2) (j:=5) rfl rfl (by kernel_rfl) (by rfl) (by rfl) (fun K hK=>?_) (fun K hK=>?_)
    ·go_simp;refine(vB B u rr d _ SS.o.ps hteu).mono ?_;rintro e v5 ⟨rfl,hP,hg⟩;have S5x:=hI (SS.o.call hP hg);have L5x:=hI (LL.o.grown hg (by simp;omega));have hss5:=S5x.o.lt;have hll5:=L5x.o.lt;unfold vT xA;refine kK hK L5x.o ?_;clear hK K;refine wTk 3 17 (.string ⟨u.text.toArray⟩) ?_ L5x.o ?_
     ·intro _ y;go_simp
     refine jA (i:=4) (j:=5) rfl rfl (by kernel_rfl) (by rfl) (by rfl) (fun K hK=>?_) (fun K hK=>?_)
     ·go_simp;have HN:=jI t ⟨zK.toArray⟩ ⟨(u.text).toArray⟩;unfold vT xA at HN;refine(HN _).mono ?_;rintro e v9 ⟨rfl,hb⟩;have S9x:=hI (S5x.o.below hb);have L9x:=hI (L5x.o.below hb);have hss9:=S9x.o.lt;have hll9:=L9x.o.lt;refine kK hK L9x.o ?_;clear hK K;refine wOn 5 fun K hK=>?_
      go_simp;refine kK hK (L9x.o.below ((Below.refl _ _).alloc (Nat.le_refl _) _)) ?_;clear hK K;refine wOn 6 fun K hK=>?_
      go_simp;refine kK hK (L9x.o.below ((Below.refl _ _).alloc (Nat.le_refl _) _)) ?_;clear hK K;refine wDn ?_ _;exact⟨_,by first | rfl | (simp only[Act.put,pZa,pZb,pZc];done),S9x.o.alloc _,Nd.new zK u.text 0 t.line t.col _,S9x.o.lt,L9x.o.below ((Below.refl _ _).alloc (Nat.le_refl _) _)⟩
     ·go_simp;have S11a:=hI (S5x.o.alloc jY);have L11a:=hI (L5x.o.below ((Below.refl _ _).alloc (Nat.le_refl _) jY));have N11a:=hI (zI.new [] [] 0 0 0 (.slice none 0 0) v5);have hNs11:=N11a.o.lt;have hlt11:=S5x.o.lt;unfold jY at *;refine kK hK L11a.o ?_;clear hK K;refine wOn 4 fun K hK=>?_
      go_simp;have HN:=jI t ⟨zK.toArray⟩ ⟨(u.text).toArray⟩;unfold vT xA at HN;refine(HN _).mono ?_;rintro e v13 ⟨rfl,hb⟩;have S13x:=hI (S11a.o.below hb);have L13x:=hI (L11a.o.below hb);have N13x:=hI (N11a.o.below hb);have hNs13:=N13x.o.lt;have hss13:=S13x.o.lt;have hll13:=L13x.o.lt;refine kK hK L13x.o ?_;clear hK K;have⟨a0,a1,a2,a3,a4,a5,_⟩:=N13x.o.a;have⟨b0,b1,b2,b3,b4,b5,_⟩:=N13x.o.b;refine wOn 6 fun K hK=>?_
      go_simp;refine kK hK (L13x.o.grown (vQ _ v5.1.size _ _ _ _ _ _) (by simp;omega)) ?_;clear hK K;refine wDn ?_ _;exact⟨_,by first | rfl | (simp only[Act.put,pZa,pZb,pZc];done),S13x.o.six (by omega) _ _ _ _ _ _,⟨N13x.o.six zK u.text 0 t.line t.col (.slice none 0 0),zC.nil _ _⟩,by omega,L13x.o.grown (vQ _ v5.1.size _ _ _ _ _ _) (by simp;omega)⟩
    ·go_simp;have S15a:=hI (SS.o.alloc jY);have L15a:=hI (LL.o.below ((Below.refl _ _).alloc (Nat.le_refl _) jY));have N15a:=hI (zI.new [] [] 0 0 0 (.slice none 0 0) wd);have hNs15:=N15a.o.lt;have hlt15:=SS.o.lt;unfold jY at *;refine kK hK L15a.o ?_;clear hK K;refine wOn 2 fun K hK=>?_
     go_simp;refine(vB B u rr d _ S15a.o.ps hteu).mono ?_;rintro e v17 ⟨rfl,hP,hg⟩;have S17x:=hI (S15a.o.call hP hg);have L17x:=hI (L15a.o.grown hg (by simp;omega));have N17x:=hI (N15a.o.grown hg (by simp;omega));have hNs17:=N17x.o.lt;have hss17:=S17x.o.lt;have hll17:=L17x.o.lt;unfold vT xA;refine kK hK L17x.o ?_;clear hK K;refine wTk 3 17 (.string ⟨u.text.toArray⟩) ?_ L17x.o ?_
     ·intro _ y;go_simp
     refine wOn 4 fun K hK=>?_
     go_simp;have HN:=jI t ⟨zK.toArray⟩ ⟨(u.text).toArray⟩;unfold vT xA at HN;refine(HN _).mono ?_;rintro e v20 ⟨rfl,hb⟩;have S20x:=hI (S17x.o.below hb);have L20x:=hI (L17x.o.below hb);have N20x:=hI (N17x.o.below hb);have hNs20:=N20x.o.lt;have hss20:=S20x.o.lt;have hll20:=L20x.o.lt;refine kK hK L20x.o ?_;clear hK K;have⟨a0,a1,a2,a3,a4,a5,_⟩:=N20x.o.a;have⟨b0,b1,b2,b3,b4,b5,_⟩:=N20x.o.b;refine wOn 6 fun K hK=>?_
     go_simp;refine kK hK (L20x.o.grown (vQ _ wd.1.size _ _ _ _ _ _) (by simp;omega)) ?_;clear hK K;refine wDn ?_ _;exact⟨_,by first | rfl | (simp only[Act.put,pZa,pZb,pZc];done),S20x.o.six (by omega) _ _ _ _ _ _,⟨N20x.o.six zK u.text 0 t.line t.col (.slice none 0 0),zC.nil _ _⟩,by omega,L20x.o.grown (vQ _ wd.1.size _ _ _ _ _ _) (by simp;omega)⟩
   intro N w5 ⟨hS5,hN5,hwN,hL5⟩;try simp only[Act.put,pZa,pZb,pZc]
   have S5:=hI hS5;have N5:=hI hN5;clear hS5 hN5 hL5 S4 L4;have H:=hI (xV (S:=w5.1.size) [[41]] S5.o.ps (by simp) (by simp) (by simp));simp only[List.map,List.length]at H;go_wp2_with fail
   refine(H.o).mono ?_;rintro e w21 (⟨l21,he21,rfl,hP21,hg21⟩ | ⟨ln,c,code,he21,rfl,hg21⟩);rotate_left
   ·refine⟨rfl,?_⟩;have hbad:(yJ rec d) (t :: u :: rr)=.bad ln c code:=by simp only[bF,if_false,if_true,reduceIte,bN,bM,bO,bU,bP,bV,bW,bB,bA,bT,lN,lC,lA,yJ,jV,hf0,hf1,PR.bind,qX,he21]
    rw[hbad];exact S5.o.pan ⟨rfl,hg21⟩
   have S21:=hI (S5.o.call hP21 hg21);have N21:=hI (N5.o.call hg21 (by omega));clear S5 N5;have HE21:=hI he21;clear H he21 hP21 hg21;have hnoc:xX d (rec .operand) l21≠.out:=fun e=>HNO.o (by simp only[bF,if_false,if_true,reduceIte,bN,bM,bO,bU,bP,bV,bW,bB,bA,bT,lN,lC,lA,yJ,jV,hf0,hf1,PR.bind,qX,HE21.o,e])
   have HC:=hI (HOP.o B l21 _ S21.o.ps hnoc);have HNOC:=hI hnoc;clear hnoc;go_wp2_with fail
   refine(HC.o).mono ?_;intro e w22 hq;rcases hq.cases HNOC.o with⟨t22,l22,q22,n22,c22,he22,rfl,hb22,hP22,hg22⟩ | ⟨ln,c,code,he22,rfl,hg22⟩;rotate_left
   ·refine⟨rfl,?_⟩;have hbad:(yJ rec d) (t :: u :: rr)=.bad ln c code:=by simp only[bF,if_false,if_true,reduceIte,bN,bM,bO,bU,bP,bV,bW,bB,bA,bT,lN,lC,lA,yJ,jV,hf0,hf1,PR.bind,qX,HE21.o,he22]
    rw[hbad];exact S21.o.pan ⟨rfl,hg22⟩
   have SC:=S21.o.call hP22 hg22;have NC:=N21.o.call hg22 (by omega);have hff:=qVb SC NC.nd hwN hb22 (Nat.succ_le_of_lt N21.o.lt) hg22.size;have HFF:=hI hff;have HE22:=hI he22;have hs1:=SC.lt;have hs2:=NC.lt;have hf5:=NC.nd.f 5 nL;have hr:=SC.res;have⟨r0,r1',r2,r3,r4,r5,_⟩:=hr.a;have⟨g0,g1,g2,g3,g4,g5,_⟩:=hr.b;clear hr;have hq:=NC.nd;have⟨qn0,qn1,qn2,qn3,qn4,qn5,_⟩:=hq.a;clear hq;clear hff hq hb22 hP22 hg22 he22 HC HNOC S21 N21 SC NC;unfold qZ;unfold zK at qn0;go_wp2
   refine bodyPost_ret (v:=qZ (.mk zK u.text 0 t.line t.col [t22]) (.slice (some ⟨w22.1.size,0,none⟩) 1 1)) (by simp[results,results185,go_sem,qZ,tQ,qY,qG,qC,qO,zB,zD,zX,qE,kIf,zS,qA,qV,qF,qD,qP,qW,qN,zW,zM,qL,qM,qT,zK,zL,qH,zA, *]) rfl ?_;have hgood:(yJ rec d) (t :: u :: rr)=.ok (.mk zK u.text 0 t.line t.col [t22]) l22:=by simp only[bF,if_false,if_true,reduceIte,bN,bM,bO,bU,bP,bV,bW,bB,bA,bT,lN,lC,lA,yJ,jV,hf0,hf1,PR.bind,qX,HE21.o,HE22.o]
   rw[hgood];exact HFF.o.1.finA (by simpa using hs1) (HFF.o.2.bd.mono (by omega)) _ _ _ _ _ _
structure LevAt(G T:Nat)(w:World):Prop where
 row:∀ k,k < 10->w.cell? ⟨T,k,none⟩=some (.slice (some ⟨G+k,0,none⟩) (jG.getD k []).length (jG.getD k []).length)
 str:∀ k,k < 10->∀ j,j < ((jG.getD k []).map fun x=>(⟨x.toArray⟩:ByteArray)).length->w.cell? ⟨G+k,0+j,none⟩=some (.string (((jG.getD k []).map fun x=>(⟨x.toArray⟩:ByteArray)).getD j ByteArray.empty))
def vH(w:World):World:=((((((((((w.alloc (.cells #[.string ⟨#[124,124]⟩] 9)).alloc (.cells #[.string ⟨#[38,38]⟩] 9)).alloc (.cells #[.string ⟨#[124]⟩] 9)).alloc (.cells #[.string ⟨#[94]⟩] 9)).alloc (.cells #[.string ⟨#[38]⟩] 9)).alloc (.cells #[.string ⟨#[61,61]⟩, .string ⟨#[33,61]⟩] 9)).alloc (.cells #[.string ⟨#[60]⟩, .string ⟨#[60,61]⟩, .string ⟨#[62]⟩, .string ⟨#[62,61]⟩] 9)).alloc (.cells #[.string ⟨#[60,60]⟩, .string ⟨#[62,62]⟩] 9)).alloc (.cells #[.string ⟨#[43]⟩, .string ⟨#[45]⟩] 9)).alloc (.cells #[.string ⟨#[42]⟩, .string ⟨#[47]⟩, .string ⟨#[37]⟩] 9)).alloc (.cells #[.slice (some ⟨w.1.size,0,none⟩) 1 1, .slice (some ⟨w.1.size+1,0,none⟩) 1 1, .slice (some ⟨w.1.size+1+1,0,none⟩) 1 1, .slice (some ⟨w.1.size+1+1+1,0,none⟩) 1 1, .slice (some ⟨w.1.size+1+1+1+1,0,none⟩) 1 1, .slice (some ⟨w.1.size+1+1+1+1+1,0,none⟩) 2 2, .slice (some ⟨w.1.size+1+1+1+1+1+1,0,none⟩) 4 4, .slice (some ⟨w.1.size+1+1+1+1+1+1+1,0,none⟩) 2 2, .slice (some ⟨w.1.size+1+1+1+1+1+1+1+1,0,none⟩) 2 2, .slice (some ⟨w.1.size+1+1+1+1+1+1+1+1+1,0,none⟩) 3 3] 113)
theorem lev_row(w:World)(k:Nat)(hk:k < 10):(vH w).cell? ⟨w.1.size+1+1+1+1+1+1+1+1+1+1,k,none⟩=some (.slice (some ⟨w.1.size+k,0,none⟩) (jG.getD k []).length (jG.getD k []).length):=by
 match k,hk with
 | 0,_=>exact(show(vH w).cell? ⟨w.1.size+1+1+1+1+1+1+1+1+1+1,0,none⟩=some (.slice (some ⟨w.1.size+0,0,none⟩) 1 1) by simp[vH,go_sem])
 | 1,_=>exact(show(vH w).cell? ⟨w.1.size+1+1+1+1+1+1+1+1+1+1,1,none⟩=some (.slice (some ⟨w.1.size+1,0,none⟩) 1 1) by simp[vH,go_sem])
 | 2,_=>exact(show(vH w).cell? ⟨w.1.size+1+1+1+1+1+1+1+1+1+1,2,none⟩=some (.slice (some ⟨w.1.size+2,0,none⟩) 1 1) by simp[vH,go_sem])
 | 3,_=>exact(show(vH w).cell? ⟨w.1.size+1+1+1+1+1+1+1+1+1+1,3,none⟩=some (.slice (some ⟨w.1.size+3,0,none⟩) 1 1) by simp[vH,go_sem])
 | 4,_=>exact(show(vH w).cell? ⟨w.1.size+1+1+1+1+1+1+1+1+1+1,4,none⟩=some (.slice (some ⟨w.1.size+4,0,none⟩) 1 1) by simp[vH,go_sem])
 | 5,_=>exact(show(vH w).cell? ⟨w.1.size+1+1+1+1+1+1+1+1+1+1,5,none⟩=some (.slice (some ⟨w.1.size+5,0,none⟩) 2 2) by simp[vH,go_sem])
 | 6,_=>exact(show(vH w).cell? ⟨w.1.size+1+1+1+1+1+1+1+1+1+1,6,none⟩=some (.slice (some ⟨w.1.size+6,0,none⟩) 4 4) by simp[vH,go_sem])
 | 7,_=>exact(show(vH w).cell? ⟨w.1.size+1+1+1+1+1+1+1+1+1+1,7,none⟩=some (.slice (some ⟨w.1.size+7,0,none⟩) 2 2) by simp[vH,go_sem])
 | 8,_=>exact(show(vH w).cell? ⟨w.1.size+1+1+1+1+1+1+1+1+1+1,8,none⟩=some (.slice (some ⟨w.1.size+8,0,none⟩) 2 2) by simp[vH,go_sem])
 | 9,_=>exact(show(vH w).cell? ⟨w.1.size+1+1+1+1+1+1+1+1+1+1,9,none⟩=some (.slice (some ⟨w.1.size+9,0,none⟩) 3 3) by simp[vH,go_sem])
theorem lev_str(w:World)(k:Nat)(hk:k < 10)(j:Nat)(hj:j < ((jG.getD k []).map fun x=>(⟨x.toArray⟩:ByteArray)).length):(vH w).cell? ⟨w.1.size+k,0+j,none⟩=some (.string (((jG.getD k []).map fun x=>(⟨x.toArray⟩:ByteArray)).getD j ByteArray.empty)):=by
 rw[Nat.zero_add];match k,hk with
 | 0,_ =>
  match j,hj with
  | 0,_=>exact(show(vH w).cell? ⟨w.1.size+0,0,none⟩=some (.string ⟨#[124,124]⟩) by simp[vH,go_sem])
  | j+1,hj=>exact absurd hj (by simp[jG])
 | 1,_ =>
  match j,hj with
  | 0,_=>exact(show(vH w).cell? ⟨w.1.size+1,0,none⟩=some (.string ⟨#[38,38]⟩) by simp[vH,go_sem])
  | j+1,hj=>exact absurd hj (by simp[jG])
 | 2,_ =>
  match j,hj with
  | 0,_=>exact(show(vH w).cell? ⟨w.1.size+2,0,none⟩=some (.string ⟨#[124]⟩) by simp[vH,go_sem])
  | j+1,hj=>exact absurd hj (by simp[jG])
 | 3,_ =>
  match j,hj with
  | 0,_=>exact(show(vH w).cell? ⟨w.1.size+3,0,none⟩=some (.string ⟨#[94]⟩) by simp[vH,go_sem])
  | j+1,hj=>exact absurd hj (by simp[jG])
 | 4,_ =>
  match j,hj with
  | 0,_=>exact(show(vH w).cell? ⟨w.1.size+4,0,none⟩=some (.string ⟨#[38]⟩) by simp[vH,go_sem])
  | j+1,hj=>exact absurd hj (by simp[jG])
 | 5,_ =>
  match j,hj with
  | 0,_=>exact(show(vH w).cell? ⟨w.1.size+5,0,none⟩=some (.string ⟨#[61,61]⟩) by simp[vH,go_sem])
  | 1,_=>exact(show(vH w).cell? ⟨w.1.size+5,1,none⟩=some (.string ⟨#[33,61]⟩) by simp[vH,go_sem])
  | j+2,hj=>exact absurd hj (by simp[jG])
 | 6,_ =>
  match j,hj with
  | 0,_=>exact(show(vH w).cell? ⟨w.1.size+6,0,none⟩=some (.string ⟨#[60]⟩) by simp[vH,go_sem])
  | 1,_=>exact(show(vH w).cell? ⟨w.1.size+6,1,none⟩=some (.string ⟨#[60,61]⟩) by simp[vH,go_sem])
  | 2,_=>exact(show(vH w).cell? ⟨w.1.size+6,2,none⟩=some (.string ⟨#[62]⟩) by simp[vH,go_sem])
  | 3,_=>exact(show(vH w).cell? ⟨w.1.size+6,3,none⟩=some (.string ⟨#[62,61]⟩) by simp[vH,go_sem])
  | j+4,hj=>exact absurd hj (by simp[jG])
 | 7,_ =>
  match j,hj with
  | 0,_=>exact(show(vH w).cell? ⟨w.1.size+7,0,none⟩=some (.string ⟨#[60,60]⟩) by simp[vH,go_sem])
  | 1,_=>exact(show(vH w).cell? ⟨w.1.size+7,1,none⟩=some (.string ⟨#[62,62]⟩) by simp[vH,go_sem])
  | j+2,hj=>exact absurd hj (by simp[jG])
 | 8,_ =>
  match j,hj with
  | 0,_=>exact(show(vH w).cell? ⟨w.1.size+8,0,none⟩=some (.string ⟨#[43]⟩) by simp[vH,go_sem])
  | 1,_=>exact(show(vH w).cell? ⟨w.1.size+8,1,none⟩=some (.string ⟨#[45]⟩) by simp[vH,go_sem])
  | j+2,hj=>exact absurd hj (by simp[jG])
 | 9,_ =>
  match j,hj with
  | 0,_=>exact(show(vH w).cell? ⟨w.1.size+9,0,none⟩=some (.string ⟨#[42]⟩) by simp[vH,go_sem])
  | 1,_=>exact(show(vH w).cell? ⟨w.1.size+9,1,none⟩=some (.string ⟨#[47]⟩) by simp[vH,go_sem])
  | 2,_=>exact(show(vH w).cell? ⟨w.1.size+9,2,none⟩=some (.string ⟨#[37]⟩) by simp[vH,go_sem])
  | j+3,hj=>exact absurd hj (by simp[jG])
theorem lev_below(w:World):Below w.1.size w (vH w):=by
 unfold vH;refine Below.alloc ?_ (by simp;try omega) _;refine Below.alloc ?_ (by simp;try omega) _;refine Below.alloc ?_ (by simp;try omega) _;refine Below.alloc ?_ (by simp;try omega) _;refine Below.alloc ?_ (by simp;try omega) _;refine Below.alloc ?_ (by simp;try omega) _;refine Below.alloc ?_ (by simp;try omega) _;refine Below.alloc ?_ (by simp;try omega) _;refine Below.alloc ?_ (by simp;try omega) _;refine Below.alloc ?_ (by simp;try omega) _;refine Below.alloc ?_ (by simp;try omega) _;exact Below.refl _ _
theorem lev_len:∀ k,k < 10->(jG.getD k []).length<=9223372036854775807:=by decide
theorem lev_at(w:World):LevAt w.1.size (w.1.size+1+1+1+1+1+1+1+1+1+1) (vH w):=⟨lev_row w,lev_str w⟩
theorem lev_hit{x:List UInt8}{k:Nat}(h:k < 10)(hp:(jG.getD k []).contains x=true)(hr:xE x k (jG.drop k)=xL x):(k:Int)=xL x:=by
 have hl:k < jG.length:=h;rw[List.drop_eq_getElem_cons hl,xE]at hr;rw[List.getD_eq_getElem?_getD,List.getElem?_eq_getElem hl,Option.getD_some]at hp;rw[if_pos hp]at hr;exact hr
theorem lev_miss{x:List UInt8}{k:Nat}(h:k < 10)(hp:(jG.getD k []).contains x=false)(hr:xE x k (jG.drop k)=xL x):xE x ((k+1:Nat):Int) (jG.drop (k+1))=xL x:=by
 have hl:k < jG.length:=h;rw[List.drop_eq_getElem_cons hl,xE]at hr;rw[List.getD_eq_getElem?_getD,List.getElem?_eq_getElem hl,Option.getD_some]at hp;rw[if_neg (by rw[hp];decide)]at hr;simpa using hr
theorem lev_end{x:List UInt8}{k:Nat}(h:k<=10)(h':¬k < 10)(hr:xE x k (jG.drop k)=xL x):(-1:Int)=xL x:=by
 obtain rfl:k=10:=by omega
 exact hr
theorem qUG(L:List (List UInt8))(x:List UInt8):Lib.containsS ((L.map fun y=>(⟨y.toArray⟩:ByteArray)).take L.length) ⟨x.toArray⟩=L.contains x:=by
 rw[List.take_of_length_le (by simp),Bool.eq_iff_iff,Lib.containsS_iff];simp
theorem qUf(x:List UInt8)(w:World):Calls prog 162 #[.string ⟨x.toArray⟩] w fun e w'=>e=.returned (.int .i64 (xL x))/\Below w.1.size w w':=by
 have HL:=hI (lev_at w);have HB:=hI (lev_below w);go_enter func162,ntmps162
 go_wp2_with fail
 change Code.wp _ _ _ _ (vH w);generalize vH w=W at *;generalize w.1.size+1+1+1+1+1+1+1+1+1+1=T at *;go_loop [18] (fun i=>∃ k:Nat,k<=10/\i=.int .i64 k/\xE x k (jG.drop k)=xL x) (fun i=>10 - (intOf i).toNat)
 case atStart=>exact⟨0,Nat.zero_le _,rfl,rfl⟩
 case round =>
  obtain⟨k,hk,rfl,hr⟩:=hrel;have Hr:=hI hr;clear hr;by_cases hlt:k < 10
  ·have hc:=HL.o.row k hlt;have HC:=hI (Tryz.slices_Contains_string (w.1.size+k) 0 (jG.getD k []).length (jG.getD k []).length ((jG.getD k []).map fun x=>(⟨x.toArray⟩:ByteArray)) ⟨x.toArray⟩ W (by simp) (lev_len k hlt) (HL.o.str k hlt));rw[qUG]at HC;have hlv:=HC;cases hp:(jG.getD k []).contains x
   ·rw[hp]at HC;have HP:=hI hp;clear hp hlv;generalize (jG.getD k []).length=m at *;go_wp2_with fail
    refine(HC.o).mono ?_;rintro e w' ⟨rfl,rfl⟩;go_wp2
    go_round
    case rel=>exact⟨k+1,by omega,by go_num,lev_miss hlt HP.o Hr.o⟩
    case measure=>simp[intOf];omega
   ·rw[hp]at HC;have HP:=hI hp;clear hp hlv;generalize (jG.getD k []).length=m at *;go_wp2_with fail
    refine(HC.o).mono ?_;rintro e w' ⟨rfl,rfl⟩;go_wp2
    go_ret;refine⟨?_,HB.o⟩;rw[<-lev_hit hlt HP.o Hr.o];rfl
  ·go_wp2
   go_ret;refine⟨?_,HB.o⟩;rw[<-lev_end hk hlt Hr.o];rfl
def xH(w:World)(ok:Nat->Prop)(ts:List qQ)(v:Value):Prop :=
 ∃ vs,w.ownsRow 0 57 6 v ts.length (qZK ts vs)/\(∀ g,v.ownBlock=some g->ok g)/\vV w (fun g=>ok g/\some g≠v.ownBlock) ts vs
theorem xH.move{w w':World}{ok ok':Nat->Prop}{ts:List qQ}{v:Value}(h:xH w ok ts v)(hm:∀ g,g < w.1.size->ok g->ok' g/\w'.1[g]? = w.1[g]?):xH w' ok' ts v:=by
 obtain⟨vs,h1,h2,h3⟩:=h;refine⟨vs,⟨h1.1,?_⟩,fun g hg=>(hm g (h1.lt g hg).2 (h2 g hg)).1,vV.move (fun g hg hok=>⟨⟨(hm g hg hok.1).1,hok.2⟩,(hm g hg hok.1).2⟩) ts vs h3⟩;rcases h1.2 with h | ⟨g,cap,cur,rfl,hb,hgg,rest⟩
 ·exact .inl h
 ·exact .inr ⟨g,cap,cur,rfl,hb,((hm g (Array.getElem?_eq_some_iff.1 hgg).1 (h2 g rfl)).2).trans hgg,rest⟩
theorem xH.of{w:World}{lo:Nat}{ts:List qQ}{v:Value}(h:zC w lo ts v):xH w (fun g=>lo<=g) ts v:=by
 obtain⟨vs,h1,h2⟩:=h;exact⟨vs,qKa h1 (Nat.zero_le _),fun g hg=>(h1.lt g hg).1,h2⟩
theorem xH.build{w:World}{ok:Nat->Prop}{lo:Nat}{ts:List qQ}{v:Value}(h:xH w ok ts v)(hl:∀ g,ok g->lo<=g):zC w lo ts v:=by
 obtain⟨vs,h1,h2,h3⟩:=h;exact⟨vs,qW2 h1 (fun g hg=>hl g (h2 g hg)),vV.move (fun g _ hok=>⟨⟨hl g hok.1,hok.2⟩,rfl⟩) ts vs h3⟩
theorem xH.lies{w:World}{ok:Nat->Prop}{t:qQ}{v:Value}(h:xH w ok t.kids v):xZ w ok t v:=by
 obtain⟨vs,h1,h2,h3⟩:=h;cases t with
 | mk k x n l c ks=>exact⟨vs,h2,h1,vV.move (fun g _ hg=>⟨hg.1,rfl⟩) _ vs h3⟩
theorem xH.grown{w w':World}{ok:Nat->Prop}{ts:List qQ}{v:Value}{r:Option Nat}(h:xH w ok ts v)(hg:w.grownBy w' r)(hr:∀ k,r=some k->¬ok k\/w.1.size<=k):xH w' ok ts v :=
 h.move fun g hlt hok=>⟨hok,hg.block g hlt (fun e=>by rcases hr g e.symm with h | h;exact h hok;omega)⟩
theorem xH.below{w w':World}{ok:Nat->Prop}{ts:List qQ}{v:Value}(h:xH w ok ts v)(hb:Below w.1.size w w'):xH w' ok ts v:=h.grown (zV hb none) (fun _ e=>by cases e)
theorem xH.shape{w:World}{ok:Nat->Prop}{ts:List qQ}{v:Value}(h:xH w ok ts v):∃ p n c,v=.slice p n c:=by
 obtain⟨vs,h1,_⟩:=h;rcases h1.2 with⟨rfl,_⟩ | ⟨g,cap,cur,rfl,_⟩
 ·exact⟨_,_,_,rfl⟩
 ·exact⟨_,_,_,rfl⟩
theorem xH.lit2{w:World}{ok:Nat->Prop}{t s:qQ}{u v:Value}(h:xH w ok t.kids u)(h':xH w ok s.kids v)(hn:ok w.1.size) :
 xH (w.alloc (.cells (qS t u++qS s v).toArray 57)) ok [t,s] (.slice (some ⟨w.1.size,0,none⟩) 2 2):=by
 refine⟨[u,v],?_,fun g hg=>by simp[Value.ownBlock]at hg;subst hg;exact hn,?_,?_,trivial⟩
 ·simpa[qZK]using World.ownsRow_lit (base:=0) (e:=57) (size:=6) w (qS t u++qS s v).toArray 2 (by omega) (by decide) (by simp[qS])
 ·exact xZ.move (fun g hg hok=>⟨⟨hok,by simp[Value.ownBlock];omega⟩,heap_alloc_old w _ hg⟩) t u h.lies
 ·exact xZ.move (fun g hg hok=>⟨⟨hok,by simp[Value.ownBlock];omega⟩,heap_alloc_old w _ hg⟩) s v h'.lies
theorem qVc(x:List UInt8):∀ (L:List (List (List UInt8))) (i:Int),0<=i->-1<=xE x i L/\xE x i L<=i+L.length
 | [],i,h=>by simp[xE];omega
 | g :: gs,i,h=>by
  rw[xE];split
  ·simp;omega
  ·have:=qVc x gs (i+1) (by omega);simp at *;omega
theorem levelI_bd(x:List UInt8):-1<=xL x/\xL x<=9:=by
 have h:=qVc x jG 0 (by omega);have hn:∀ (L:List (List (List UInt8))) (i:Int),xE x i L < i+L.length\/xE x i L=-1:=by
  intro L;induction L with
  | nil=>intro i;exact .inr rfl
  | cons g gs ih =>
   intro i;rw[xE];split
   ·left;simp;omega
   ·rcases ih (i+1)with h | h
    ·left;simp at *;omega
    ·right;exact h
 have h2:=hn jG 0;have h3:(jG.length:Int)=10:=rfl;unfold xL;omega
def BinRel(rec:NT->Int->List Tok->PR qQ)(k d:Int)(R:PR qQ)(w:World)(B Lb:Nat)(m:Nat)(wr:World):Prop :=
 ∃ left l v,St w B l d wr/\zI Lb left.kind left.text left.num left.line left.col v wr/\xH wr (fun g=>w.1.size+1<=g/\g≠Lb) left.kids v/\kX rec k d m left l=R
theorem qPi(rec:NT->Int->List Tok->PR qQ)(n:Nat)(k d:Int)(hk0:0<=k)(hk:k<=10)(hop:vM 181 (fun p=>#[p]) d (rec .operand d))(hbi:∀ j,0<=j->j<=10->vM 172 (fun p=>#[p, .int .i64 j]) d (rec (.binary j) d)) :
 vM 172 (fun p=>#[p, .int .i64 k]) d (qQy rec n k d):=by
 intro B l w h hno;have S0:=St.start h;have hBw:=S0.hB;have hno1:rec .operand d l≠.out:=qWG hno;have HC:=hI (hop B l _ S0.ps hno1);have HNO:=hI hno;have HNO1:=hI hno1;have HBI:=hI hbi;have HS:=hI S0;have hft:=vS;clear h S0 hno hno1 hop hbi;unfold jY at *;go_enter func172,ntmps172
 go_wp2_with fail
 refine(HC.o).mono ?_;intro e w1 hq;rcases hq.cases HNO1.o with⟨t1,l1,q1,n1,c1,he1,rfl,hb1,hP1,hg1⟩ | ⟨ln,c,code,he1,rfl,hg1⟩;rotate_left
 ·refine⟨rfl,?_⟩;rw[show qQy rec n k d l=.bad ln c code from qXl he1];exact HS.o.pan ⟨rfl,hg1⟩
 have hres:qQy rec n k d l=kX rec k d n t1 l1:=bind_ok he1;have HR:=hI hres;have S1:=HS.o.call hP1 hg1;have hwL:w.1.size < w1.1.size:=S1.lt;have HS1:=hI (S1.alloc (wD t1.kind t1.text t1.num t1.line t1.col (.slice q1 n1 c1)));have HL1:=hI (zI.new t1.kind t1.text t1.num t1.line t1.col (.slice q1 n1 c1) w1);have hbp:xH (w1.alloc (wD t1.kind t1.text t1.num t1.line t1.col (.slice q1 n1 c1))) (fun g=>w.1.size+1<=g/\g≠w1.1.size) t1.kids (.slice q1 n1 c1) :=
  (xH.of (hb1.mono (lo':=w.1.size+1) HS.o.lt)).move fun g hg hok=>⟨⟨hok,by omega⟩,heap_alloc_old w1 _ hg⟩
 have HB1:=hI hbp;clear hres S1 hP1 hg1 hb1 he1 hq HC HS hbp;unfold wD qZ at *;go_wp2_with fail
 go_loopg [] n (fun m wr=>BinRel rec k d (kX rec k d n t1 l1) w B w1.1.size m wr)
 case atStart=>exact⟨t1,l1,_,HS1.o,HL1.o,HB1.o,rfl⟩
 case round =>
  obtain⟨left,l2,v,S,L,Bp,hm⟩:=hrel;obtain⟨t,r,rfl⟩:=S.ps.ends.ne;obtain⟨q,vn,vc,rfl⟩:=Bp.shape;have HM:=hI hm;cases gk with
  | zero =>
   exact absurd (HR.o.trans HM.o.symm) HNO.o
  | succ m =>
  have H:=hI (kY B t r d _ S.ps);have HS:=hI S;have HL:=hI L;have HB:=hI Bp;clear S L Bp hm HS1 HL1 HB1;go_wp2_with fail
  refine(H.o).mono ?_;rintro e w3 ⟨rfl,hb3⟩;have HV:=hI (qUf t.text);have HS3:=hI (HS.o.below hb3);have HL3:=hI (HL.o.below hb3);have HB3:=hI (HB.o.below hb3);clear H HS HL HB hb3;unfold vT xA;go_wp2_with fail
  refine(HV.o _).mono ?_;rintro e w4 ⟨rfl,hb4⟩;have HS4:=hI (HS3.o.below hb4);have HL4:=hI (HL3.o.below hb4);have HB4:=hI (HB3.o.below hb4);have hbd:=levelI_bd t.text;clear HS3 HL3 HB3 hb4 HV;have hstep:kX rec k d (m+1) left (t :: r)=if xL t.text < k then .ok left (t :: r)else(rec (.binary (xL t.text+1)) d r).bind fun s l'=>kX rec k d m (.mk qM t.text 0 t.line t.col [left,s]) l':=by
   rw[kX,qX];simp only[jV,PR.bind,if_true]
  by_cases hlt:xL t.text < k
  ·rw[if_pos hlt]at hstep;have HST:=hI (HR.o.trans (HM.o.symm.trans hstep));have hlb:decide (xL t.text < k)=true:=by simpa using hlt
   have hs1:=HS4.o.lt;have hs2:=HL4.o.lt;have hr:=HS4.o.res;have⟨r0,r1',r2,r3,r4,r5,_⟩:=hr.a;have⟨g0,g1,g2,g3,g4,g5,_⟩:=hr.b;clear hr;have hq:=HL4.o;have⟨qn0,qn1,qn2,qn3,qn4,qn5,_⟩:=hq.a;clear hq hstep HL4;generalize hA:xL t.text=lv at *;go_wp2
   refine bodyPost_ret (v:=qZ left (.slice q vn vc)) (by simp[results,results172,go_sem,qZ, *]) rfl ?_;rw[HST.o];exact HS4.o.fin (HB4.o.build fun g hg=>hg.1) _ _ _ _ _ _
  ·rw[if_neg hlt]at hstep;have hlb:decide (xL t.text < k)=false:=by simpa using hlt
   have HST:=hI (HM.o.symm.trans hstep);have hte:t.text≠[]:=fun e=>hlt (by rw[e];exact(show xL [] < k from by have:xL []=-1:=rfl;omega))
   have H:=hI (vB B t r d _ HS4.o.ps hte);have HNb:=hI (jI t ⟨qM.toArray⟩ ⟨t.text.toArray⟩);have hno5:rec (.binary (xL t.text+1)) d r≠.out:=fun e=>HNO.o (HR.o.trans (HST.o.trans (by rw[e];rfl)))
   have HNO5:=hI hno5;have HC:=hI (HBI.o (xL t.text+1) (by omega) (by omega));have hwr:IntKind.i64.wrap (xL t.text+1)=xL t.text+1:=by rw[IntKind.wrap_i64];omega
   have hw64:wrap64 (xL t.text+1)=xL t.text+1:=by unfold wrap64;omega
   clear hstep hno5;generalize hA:xL t.text=lv at *;go_wp2_with fail
   refine(H.o).mono ?_;rintro e w5 ⟨rfl,hP5,hg5⟩;have HS5:=hI ((HS4.o.call hP5 hg5).alloc (qXT t));have HL5:=hI ((HL4.o.grown hg5 (by simp;omega)).alloc (qXT t));have HB5:=hI ((HB4.o.grown hg5 (fun j e=>by cases e;exact .inl (fun h=>by omega))).below ((Below.refl _ _).alloc (Nat.le_refl _) (qXT t)));have HT5:=hI (wH.newO t w5);have hw5:w.1.size < w5.1.size:=(HS4.o.call hP5 hg5).lt;have hl5:w1.1.size < w5.1.size:=(HL4.o.grown hg5 (by simp;omega)).lt;clear H HS4 HL4 HB4 hP5 hg5;unfold qXT vT xA at *;have⟨k0,k1,k2,k3,k4,_⟩:=HT5.o.a;go_wp2_with fail
   refine(HNb.o _).mono ?_;rintro e w6 ⟨rfl,hb6⟩;have HS6:=hI ((HS5.o.below hb6).alloc (wD qM t.text 0 t.line t.col (.slice none 0 0)));have HL6:=hI ((HL5.o.below hb6).alloc (wD qM t.text 0 t.line t.col (.slice none 0 0)));have hB6:xH (w6.alloc (wD qM t.text 0 t.line t.col (.slice none 0 0))) (fun g=>(w.1.size+1<=g/\g≠w1.1.size)/\g≠w6.1.size) left.kids (.slice q vn vc):=(HB5.o.below hb6).move fun g hg hok=>⟨⟨hok,by omega⟩,heap_alloc_old w6 _ hg⟩
   have HB6:=hI hB6;clear hB6;have HN6:=hI (zI.new qM t.text 0 t.line t.col (.slice none 0 0) w6);have hw6:w5.1.size < w6.1.size:=by have:=hb6.size;simp at this;omega
   clear HNb HS5 HL5 HB5 HT5 hb6 k0 k1 k2 k3 k4;unfold wD at *;go_wp2_with fail
   refine wRg (S:=fun w'=>zI w1.1.size left.kind left.text left.num left.line left.col (.slice q vn vc) w') 5 ?_;have SS:=hI HS6.o.drew;have LL:=hI (HL6.o.below (Below.refl _ _).drew);have BB:=hI (HB6.o.below (Below.refl _ _).drew);have NN:=hI (HN6.o.below (Below.refl _ _).drew);clear HS6 HL6 HB6 HN6;generalize World.drew _=wd at *;refine wTk 0 25 (.agg #[.string ⟨left.kind.toArray⟩, .string ⟨left.text.toArray⟩, .int .u64 left.num, .int .i64 left.line, .int .i64 left.col, .slice q vn vc]) ?_ LL.o ?_
   ·intro _ y;have⟨h0,h1,h2,h3,h4,h5,_⟩:=y.a;go_simp
   refine wTk 1 26 (.pointer (some ⟨B,0,none⟩)) ?_ LL.o ?_
   ·intro _ y;go_simp
   refine wTk 2 27 (.int .i64 lv) ?_ LL.o ?_
   ·intro _ y;go_simp
   refine wTk 3 28 (.int .i64 (lv+1)) ?_ LL.o ?_
   ·intro _ y;go_simp
   refine wOn 4 fun K hK=>?_
   go_simp;refine(HC.o B r _ SS.o.ps HNO5.o).mono ?_;intro e w7 hq;rcases hq.cases HNO5.o with⟨s7,l7,q7,n7,c7,he7,rfl,hb7,hP7,hg7⟩ | ⟨ln,c,code,he7,rfl,hg7⟩;rotate_left
   ·refine⟨rfl,?_⟩;rw[HR.o,HST.o,he7];exact SS.o.pan ⟨rfl,hg7⟩
   have hsd:=NN.o.lt;have S7:=hI (SS.o.call hP7 hg7);have L7:=hI (LL.o.grown hg7 (by simp;omega));have B7:=hI (BB.o.grown hg7 (fun j e=>by cases e;exact .inl (fun h=>by omega)));have N7:=hI (NN.o.grown hg7 (by simp;omega));have hsr:wd.1.size<=w7.1.size:=hg7.size;have K7:xH w7 (fun g=>(w.1.size+1<=g/\g≠w1.1.size)/\g≠w6.1.size) s7.kids (.slice q7 n7 c7):=(xH.of hb7).move fun g hg hok=>⟨⟨⟨by omega,by omega⟩,by omega⟩,rfl⟩
   have HK7:=hI K7;have HE7:=hI he7;have hfN:=N7.o.f 5 nL;have hdN:=N7.o.c5;have hlN:=N7.o.lt;clear hP7 hg7 hb7 K7 he7 hq SS LL BB NN HC;unfold qZ;refine kK hK L7.o ?_;clear hK K;refine wOn 5 fun K hK=>?_
   go_simp;refine kD hK ?_;clear hK K;refine wOn 6 fun K hK=>?_
   go_simp;refine kD hK ?_;clear hK K;refine wOn 7 fun K hK=>?_
   go_simp;refine kD hK ?_;clear hK K;refine wDn ?_ _;have⟨x0,x1,x2,x3,x4,_⟩:=N7.o.a;have⟨z0,z1,z2,z3,z4,z5,_⟩:=L7.o.a;have⟨y0,y1,y2,y3,y4,y5,_⟩:=L7.o.b;have hlL:=L7.o.lt;unfold qM at x0;go_wp2
   go_roundg m
   case measure=>omega
   case rel =>
    have h1:=(B7.o.grown (jM w7 w6.1.size 5 (.slice (some ⟨w7.1.size,0,none⟩) 2 2)) (fun j e=>by cases e;exact .inl (fun h=>h.2 rfl))).grown (vQ _ w1.1.size (.string ⟨qM.toArray⟩) (.string ⟨t.text.toArray⟩) (.int .u64 0) (.int .i64 t.line) (.int .i64 t.col) (.slice (some ⟨w7.1.size,0,none⟩) 2 2)) (fun j e=>by cases e;exact .inl (fun h=>h.1.2 rfl));have h2:=(HK7.o.grown (jM w7 w6.1.size 5 (.slice (some ⟨w7.1.size,0,none⟩) 2 2)) (fun j e=>by cases e;exact .inl (fun h=>h.2 rfl))).grown (vQ _ w1.1.size (.string ⟨qM.toArray⟩) (.string ⟨t.text.toArray⟩) (.int .u64 0) (.int .i64 t.line) (.int .i64 t.col) (.slice (some ⟨w7.1.size,0,none⟩) 2 2)) (fun j e=>by cases e;exact .inl (fun h=>h.1.2 rfl));have hsz:(six (w7.setCell ⟨w6.1.size,5,none⟩ (.slice (some ⟨w7.1.size,0,none⟩) 2 2)) w1.1.size (.string ⟨qM.toArray⟩) (.string ⟨t.text.toArray⟩) (.int .u64 0) (.int .i64 t.line) (.int .i64 t.col) (.slice (some ⟨w7.1.size,0,none⟩) 2 2)).1.size=w7.1.size:=by simp[six]
    have h3:=(h1.lit2 h2 (by rw[hsz];exact⟨⟨by omega,by omega⟩,by omega⟩)).move (ok':=fun g=>w.1.size+1<=g/\g≠w1.1.size) fun g _ hok=>⟨hok.1,rfl⟩
    rw[hsz]at h3;refine⟨.mk qM t.text 0 t.line t.col [left,s7],l7,_,((S7.o.setN (by omega) _ _).six hwL _ _ _ _ _ _).alloc _,((L7.o.grown (jM _ _ _ _) (by simp;omega)).six qM t.text 0 t.line t.col _).alloc _,h3,?_⟩;rw[HST.o,HE7.o];rfl
end Go.Proofs.YtiajhekdhhhghaaGreatDoor
