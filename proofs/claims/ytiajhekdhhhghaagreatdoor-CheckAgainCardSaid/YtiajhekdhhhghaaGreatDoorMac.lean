/- Walks. -/
import Derived.Test.YtiajhekdhhhghaaGreatDoorMab
set_option linter.all false
set_option maxHeartbeats 8000000
set_option maxRecDepth 100000
namespace Go.Proofs.YtiajhekdhhhghaaGreatDoor
open Tryz
open Go Go.RowKit
def yR(f:Nat):Prop:=∀ (args:Array Value) (w:World),(callFunc f args).run prog w=.ok (.enter f args) w
def BlockRel(p:List Tok->PR qQ)(n:Nat)(R:PR (List qQ))(w:World)(B N:Nat)(d ln c:Int)(k:Nat)(wr:World):Prop :=
 ∃ acc l v,St w B l d wr/\Nd N zX [] 0 ln c v acc wr/\vI (fun u=>u.text == [125]) p k acc l=R/\acc.length+k<=n
theorem qWG{α β:Type}{p:PR α}{f:α->List Tok->PR β}(h:p.bind f≠.out):p≠.out:=fun e=>h (by rw[e];rfl)
theorem bind_ok{α β:Type}{p:PR α}{f:α->List Tok->PR β}{a:α}{l:List Tok}(h:p=.ok a l):p.bind f=f a l:=by rw[h];rfl
theorem qXl{α β:Type}{p:PR α}{f:α->List Tok->PR β}{ln c code:Int}(h:p=.bad ln c code):p.bind f=.bad ln c code:=by rw[h];rfl
theorem qLT(rec:NT->Int->List Tok->PR qQ)(n:Nat)(d:Int)(hn:n<=900000)(hent:∀ x,yR (qXy x))
 (hst:∀ (B:Nat) (l:List Tok) (w:World),vP B l d w->qQA rec n d l≠.out->Calls prog (qXy (hdT l).text) #[.pointer (some ⟨B,0,none⟩)] w (qXV B d w (qQA rec n d l))) :
 vM 107 (fun p=>#[p]) d (qQK rec n d):=by
 intro B l w h hno;obtain⟨t,r,rfl⟩:=h.ends.ne;have S0:=St.start h;have H:=hI (kY B t r d _ S0.ps);have HN:=hI (jI t ⟨#[98,108,111,99,107]⟩ ⟨#[]⟩);have HS:=hI S0;have HNO:=hI hno;have HST:=hI hst;have HENT:=hI hent;clear h S0 hno hst hent;unfold jY at *;go_enter func107,ntmps107
 go_wp2_with fail
 refine(H.o).mono ?_;rintro e w1 ⟨rfl,hb1⟩;have S1:=hI (HS.o.below hb1);clear H HS hb1;go_wp2_with fail
 refine(HN.o _).mono ?_;rintro e w2 ⟨rfl,hb2⟩;have S2:=(S1.o.below hb2).alloc (wD zX [] 0 t.line t.col (.slice none 0 0));have N2:=hI (Nd.new zX [] 0 t.line t.col w2);have HP:=hI (qPZ (S:=w2.1.size+1) [123] S2.ps (by simp) (by simp));have HS2:=hI S2;have hwN:w.1.size < w2.1.size:=(S1.o.below hb2).lt;have hBw:=S2.hB;clear S1 S2 hb2 HN;unfold wD zX at *;go_wp2_with fail
 refine(HP.o).mono ?_;rintro e w3 (⟨l3,he3,rfl,hP3,hg3⟩ | ⟨ln,c,code,he3,rfl,hg3⟩)
 ·have S3:=hI (HS2.o.call hP3 hg3);have N3:=hI (N2.o.call hg3 (by omega));have HE3:=hI he3;have hno3:vI (fun u=>u.text == [125]) (qQA rec n d) n [] l3≠.out:=by
   have:=HNO.o;unfold qQK at this;rw[bind_ok he3]at this;exact qWG this
  have HNO3:=hI hno3;clear HP HS2 N2 hP3 hg3 he3 hno3;go_wp2_with fail
  go_loopg [] n (fun k wr=>BlockRel (qQA rec n d) n (vI (fun u=>u.text == [125]) (qQA rec n d) n [] l3) w B w2.1.size d t.line t.col k wr)
  case atStart=>exact⟨[],l3,_,S3.o,N3.o,rfl,by simp⟩
  case round =>
   obtain⟨acc,l1,v,S,N,hm,hlen⟩:=hrel;obtain⟨t1,r1,rfl⟩:=S.ps.ends.ne;obtain⟨q,vn,vc,rfl⟩:=N.bd.shape;have HA:=hI (wN B t1 r1 d [125] wr S.ps);have HS:=hI S;have HN:=hI N;have HM:=hI hm;clear S N hm S3 N3;have hmf:=zT;cases gk with
   | zero=>exact absurd HM.o.symm HNO3.o
   | succ m =>
   by_cases he:t1.text=[125]
   ·have heb:(t1.text == [125])=true:=by simpa using he
    rw[heb]at HA;have hpm:vI (fun u=>u.text == [125]) (qQA rec n d) (m+1) acc (t1 :: r1)=.ok acc (t1 :: r1):=by
     rw[vI];have:(hdT (t1 :: r1)).text=t1.text:=rfl;rw[this,heb];rfl
    have HPM:=hI hpm;clear hpm he;go_wp2_with fail
    refine(HA.o).mono ?_;rintro e w4 ⟨rfl,hb4⟩;have S4:=HS.o.below hb4;have HP:=hI (qPZ (S:=w4.1.size) [125] S4.ps (by simp) rfl);have HS4:=hI S4;have N4:=hI (HN.o.below hb4);clear S4 hb4 HS HN HA;go_wp2_with fail
    refine(HP.o).mono ?_;rintro e w5 (⟨l5,he5,rfl,hP5,hg5⟩ | ⟨ln,c,code,he5,rfl,hg5⟩)
    ·have S5:=HS4.o.call hP5 hg5;have N5:=N4.o.call hg5 (by omega);have HE5:=hI he5;have hs1:=S5.lt;have hs2:=N5.lt;have hr:=S5.res;have hq:=N5.nd;have⟨r0,r1',r2,r3,r4,r5,_⟩:=hr.a;have⟨g0,g1,g2,g3,g4,g5,_⟩:=hr.b;have⟨q0,q1,q2,q3,q4,q5,_⟩:=hq.a;have HS5:=hI S5;have HN5:=hI N5;clear hr hq S5 N5 hP5 hg5 he5 HP HS4 N4;unfold zX at q0;go_wp2
     refine bodyPost_ret (v:=qZ (.mk zX [] 0 t.line t.col acc) (.slice q vn vc)) (by simp[results,results107,go_sem,qZ,qQ.kind,qQ.text,qQ.num,qQ.line,qQ.col,zX, *]) rfl ?_;have:qQK rec n d (t :: r)=.ok (.mk zX [] 0 t.line t.col acc) l5:=(bind_ok HE3.o).trans ((bind_ok (HM.o.symm.trans HPM.o)).trans (bind_ok HE5.o));rw[this];exact HS5.o.fin (HN5.o.bd.mono (by omega)) _ _ _ _ _ _
    ·refine⟨rfl,?_⟩;have:qQK rec n d (t :: r)=.bad ln c code:=(bind_ok HE3.o).trans ((bind_ok (HM.o.symm.trans HPM.o)).trans (qXl he5));rw[this];exact HS4.o.pan ⟨rfl,hg5⟩
   ·have heb:(t1.text == [125])=false:=by simpa using he
    rw[heb]at HA;go_wp2_with fail
    refine(HA.o).mono ?_;rintro e w4 ⟨rfl,hb4⟩;have HR:=hI (reader_at B t1 r1 d w4 _ rfl (HS.o.below hb4).ps);go_wp2_with fail
    refine(HR.o).mono ?_;rintro e w5 ⟨rfl,hb5⟩;have S5:=hI ((HS.o.below hb4).below hb5).drew;have N5:=hI ((HN.o.below hb4).below hb5).drew;have hpm:vI (fun u=>u.text == [125]) (qQA rec n d) (m+1) acc (t1 :: r1)=(qQA rec n d (t1 :: r1)).bind fun t l=>vI (fun u=>u.text == [125]) (qQA rec n d) m (acc++[t]) l:=by
     rw[vI];have:(hdT (t1 :: r1)).text=t1.text:=rfl;rw[this,heb];rfl
    have hno4:qQA rec n d (t1 :: r1)≠.out:=fun e=>HNO3.o (by rw[<-HM.o,hpm,e];rfl)
    have HPM:=hI hpm;have HNO4:=hI hno4;clear hb4 hb5 HS HN HA HR hpm hno4 he;have hent:=HENT.o t1.text;unfold yR at hent;generalize hF:qXy t1.text=f at *;go_wp2_with fail
    have c5:=N5.o.nd.c5;refine wRg (S:=fun w'=>w'.cell? ⟨w2.1.size,5,none⟩=some (.slice q vn vc)) 5 ?_;refine wTk 0 16 (.pointer (some ⟨w2.1.size,5,none⟩)) ?_ c5 ?_
    ·intro _ y;go_simp
    refine wTk 1 17 (.slice q vn vc) ?_ c5 ?_
    ·intro _ y;go_simp
    refine wTk 2 18 (.func (.func f) #[.pointer (some ⟨B,0,none⟩)] #[]) ?_ c5 ?_
    ·intro _ y;go_simp
    refine wOn 3 fun K hK=>?_
    go_simp;have HC:=HST.o B (t1 :: r1) _ S5.o.ps HNO4.o;rw[show(hdT (t1 :: r1)).text=t1.text from rfl,hF]at HC;refine HC.mono ?_;intro e w6 hq;rcases hq.cases HNO4.o with⟨t6,l6,q6,n6,c6,he6,rfl,hb6,hP6,hg6⟩ | ⟨ln,c,code,he6,rfl,hg6⟩
    ·have S6:=hI (S5.o.call hP6 hg6);have N6:=hI (N5.o.call hg6 (by omega));have HB6:=hI hb6;have hbl:=N5.o.bd.lt;have c6':=N6.o.nd.c5;have f6':=N6.o.nd.f 5 nL;have hs6:=N6.o.lt;have hsz5:=N5.o.lt;have hsz6:w5.drew.1.size<=w6.1.size:=hg6.size;clear hP6 hg6 hb6 HC hq S5 N5;unfold qZ;refine kK hK c6' ?_;clear hK K;refine wOn 4 fun K hK=>?_
     go_simp;refine kK hK (by go_simp) ?_;clear hK K;refine wOn 5 fun K hK=>?_
     refine qQq (dd:=21) (t:=t6) (u:=.slice q6 n6 c6) _ _ rfl rfl N6.o.bd HB6.o (by have:=(hsz5:w2.1.size < w5.drew.1.size);omega) (fun g hg=>(hbl g hg).2) hsz6 rfl rfl rfl (by omega) (fun v7 w7 hb7 hg7=>?_);refine kD hK ?_;clear hK K;obtain⟨q7,n7,c7,rfl⟩:=hb7.shape;have hff:=qZ8 S6.o N6.o hwN hb7 hg7;have hs7:w7.frozen? ⟨w2.1.size,5,none⟩=false:=((N6.o.nd.grown (World.grownBy_alloc w6 _ none) (by simp)).grown hg7 (fun e=>by have:=(hbl _ e.symm).1;omega)).f 5 nL;have hd7:=((N6.o.nd.grown (World.grownBy_alloc w6 _ none) (by simp)).grown hg7 (fun e=>by have:=(hbl _ e.symm).1;omega)).c5;have HFF:=hI hff;clear hff hb7 hg7 S6 N6 HB6 hbl;try simp only[Act.put,pZa,pZb,pZc]
     refine wOn 6 fun K hK=>?_
     go_simp;refine kD hK ?_;clear hK K;refine wOn 7 fun K hK=>?_
     go_simp;refine kD hK ?_;clear hK K;refine wDn ?_ _;go_wp2
     go_roundg m
     case measure=>omega
     case rel=>exact⟨acc++[t6],l6,_,HFF.o.1,HFF.o.2,by rw[<-HM.o,HPM.o,he6];rfl,by simp;omega⟩
    ·refine⟨rfl,?_⟩;have:qQK rec n d (t :: r)=.bad ln c code:=(bind_ok HE3.o).trans (qXl (HM.o.symm.trans (HPM.o.trans (qXl he6))));rw[this];exact S5.o.pan ⟨rfl,hg6⟩
 ·refine⟨rfl,?_⟩;have:qQK rec n d (t :: r)=.bad ln c code:=qXl he3;rw[this];exact HS2.o.pan ⟨rfl,hg3⟩
theorem qWk(rec:NT->Int->List Tok->PR qQ)(d:Int)(hb:vM 172 (fun p=>#[p, .int .i64 0]) d (rec (.binary 0) d)):vM 158 (fun p=>#[p]) d (qQh rec d):=by
 intro B l w h hno;have S0:=St.start h;have HC:=hI (hb B l _ S0.ps hno);have HS:=hI S0;have hmf:=zT;have HNO:=hI hno;clear h S0 hno;unfold jY at *;go_enter func158,ntmps158
 go_wp2_with fail
 refine(HC.o).mono ?_;intro e w1 hq;rcases hq.cases HNO.o with⟨t2,l2,q,n2,c2,he,rfl,hb,hP,hg⟩ | ⟨ln,c,code,he,rfl,hg⟩
 ·have S1:=HS.o.call hP hg;have HB:=hI hb;have HE:=hI he;have hs1:=S1.lt;have hr:=S1.res;have⟨r0,r1',r2,r3,r4,r5,_⟩:=hr.a;have⟨g0,g1,g2,g3,g4,g5,_⟩:=hr.b;clear hr;have HS1:=hI S1;clear S1 hP hg hb he hq HC HS hmf;unfold qZ;go_wp2
  refine bodyPost_ret (v:=qZ t2 (.slice q n2 c2)) (by simp[results,results158,go_sem,qZ, *]) rfl ?_;have hb2:zC w1 (w.1.size+1) t2.kids (.slice q n2 c2):=by simpa using HB.o
  rw[show(qQh rec d) l=_ from HE.o];exact HS1.o.fin hb2 _ _ _ _ _ _
 ·refine⟨rfl,?_⟩;rw[show(qQh rec d) l=_ from he];exact HS.o.pan ⟨rfl,hg⟩
theorem qYD(rec:NT->Int->List Tok->PR qQ)(d:Int)(he:yR 158)(hb:vM 158 (fun p=>#[p]) (d+1) (qQh rec (d+1))):vM 173 (fun p=>#[p]) d (qPf rec d):=by
 intro B l w h hno;have S0:=St.start h;have HC:=hI (wT 158 d (rec (.binary 0)) he hb B l _ S0.ps hno);have HS:=hI S0;have hmf:=zT;have HNO:=hI hno;clear h S0 hno;unfold jY at *;go_enter func173,ntmps173
 go_wp2_with fail
 refine(HC.o).mono ?_;intro e w1 hq;rcases hq.cases HNO.o with⟨t2,l2,q,n2,c2,he,rfl,hb,hP,hg⟩ | ⟨ln,c,code,he,rfl,hg⟩
 ·have S1:=HS.o.call hP hg;have HB:=hI hb;have HE:=hI he;have hs1:=S1.lt;have hr:=S1.res;have⟨r0,r1',r2,r3,r4,r5,_⟩:=hr.a;have⟨g0,g1,g2,g3,g4,g5,_⟩:=hr.b;clear hr;have HS1:=hI S1;clear S1 hP hg hb he hq HC HS hmf;unfold qZ;go_wp2
  refine bodyPost_ret (v:=qZ t2 (.slice q n2 c2)) (by simp[results,results173,go_sem,qZ, *]) rfl ?_;have hb2:zC w1 (w.1.size+1) t2.kids (.slice q n2 c2):=by simpa using HB.o
  rw[show(qPf rec d) l=_ from HE.o];exact HS1.o.fin hb2 _ _ _ _ _ _
 ·refine⟨rfl,?_⟩;rw[show(qPf rec d) l=_ from he];exact HS.o.pan ⟨rfl,hg⟩
theorem loop_does(rec:NT->Int->List Tok->PR qQ)(d:Int)(hb:vM 157 (fun p=>#[p, .string ⟨#[119,104,105,108,101]⟩]) d (jK rec qA d)):vM 142 (fun p=>#[p]) d (jK rec qA d):=by
 intro B l w h hno;have S0:=St.start h;have HC:=hI (hb B l _ S0.ps hno);have HS:=hI S0;have hmf:=zT;have HNO:=hI hno;clear h S0 hno;unfold jY at *;go_enter func142,ntmps142
 go_wp2_with fail
 refine(HC.o).mono ?_;intro e w1 hq;rcases hq.cases HNO.o with⟨t2,l2,q,n2,c2,he,rfl,hb,hP,hg⟩ | ⟨ln,c,code,he,rfl,hg⟩
 ·have S1:=HS.o.call hP hg;have HB:=hI hb;have HE:=hI he;have hs1:=S1.lt;have hr:=S1.res;have⟨r0,r1',r2,r3,r4,r5,_⟩:=hr.a;have⟨g0,g1,g2,g3,g4,g5,_⟩:=hr.b;clear hr;have HS1:=hI S1;clear S1 hP hg hb he hq HC HS hmf;unfold qZ;go_wp2
  refine bodyPost_ret (v:=qZ t2 (.slice q n2 c2)) (by simp[results,results142,go_sem,qZ, *]) rfl ?_;have hb2:zC w1 (w.1.size+1) t2.kids (.slice q n2 c2):=by simpa using HB.o
  rw[show(jK rec qA d) l=_ from HE.o];exact HS1.o.fin hb2 _ _ _ _ _ _
 ·refine⟨rfl,?_⟩;rw[show(jK rec qA d) l=_ from he];exact HS.o.pan ⟨rfl,hg⟩
theorem param_does(d:Int)(hb:vM 103 (fun p=>#[p, .string ⟨#[112,97,114,97,109]⟩, .bool false]) d (zG qO false)):vM 105 (fun p=>#[p]) d (zG qO false):=by
 intro B l w h hno;have S0:=St.start h;have HC:=hI (hb B l _ S0.ps hno);have HS:=hI S0;have hmf:=zT;have HNO:=hI hno;clear h S0 hno;unfold jY at *;go_enter func105,ntmps105
 go_wp2_with fail
 refine(HC.o).mono ?_;intro e w1 hq;rcases hq.cases HNO.o with⟨t2,l2,q,n2,c2,he,rfl,hb,hP,hg⟩ | ⟨ln,c,code,he,rfl,hg⟩
 ·have S1:=HS.o.call hP hg;have HB:=hI hb;have HE:=hI he;have hs1:=S1.lt;have hr:=S1.res;have⟨r0,r1',r2,r3,r4,r5,_⟩:=hr.a;have⟨g0,g1,g2,g3,g4,g5,_⟩:=hr.b;clear hr;have HS1:=hI S1;clear S1 hP hg hb he hq HC HS hmf;unfold qZ;go_wp2
  refine bodyPost_ret (v:=qZ t2 (.slice q n2 c2)) (by simp[results,results105,go_sem,qZ, *]) rfl ?_;have hb2:zC w1 (w.1.size+1) t2.kids (.slice q n2 c2):=by simpa using HB.o
  rw[show(zG qO false) l=_ from HE.o];exact HS1.o.fin hb2 _ _ _ _ _ _
 ·refine⟨rfl,?_⟩;rw[show(zG qO false) l=_ from he];exact HS.o.pan ⟨rfl,hg⟩
theorem qX(t:Tok)(r:List Tok):hdT (t :: r)=t:=rfl
theorem xV{B S:Nat}{l:List Tok}{d:Int}{w:World}(xs:List (List UInt8))(h:vP B l d w)(hx:∀ x∈xs,x≠[])(hn:xs.length<=10)(hS:w.1.size=S) :
 Calls prog 108 #[.pointer (some ⟨B,0,none⟩), .slice (some ⟨S,0,none⟩) xs.length xs.length] (w.alloc (.cells (xs.map fun x=>.string ⟨x.toArray⟩).toArray 9)) fun e w' =>
  (∃ l',jL xs l=.ok () l'/\e=.returned (.tuple #[])/\vP B l' d w'/\w.grownBy w' (some B)) \/
  ∃ ln c code,jL xs l=.bad ln c code/\e=.panicked [{ v:=qXo ln c code,recovered:=false }]/\w.grownBy w' (some B):=by
 subst hS;refine(qPY B w.1.size xs.length xs l d (w.alloc (.cells (xs.map fun x=>.string ⟨x.toArray⟩).toArray 9)) (h.below ((Below.refl _ _).alloc (Nat.le_refl _) _)) h.lt (fun i hi=>?_) hx (Nat.le_refl _) hn).mono fun e w' hq=>?_
 ·have hg:=cell_of_row (w.alloc (.cells (xs.map fun x=>.string ⟨x.toArray⟩).toArray 9)) w.1.size i _ 9 (0,0) (heap_alloc_new w _);rw[hg];simp[hi]
 ·have hga:=World.grownBy_alloc w (.cells (xs.map fun x=>.string ⟨x.toArray⟩).toArray 9) (some B);rcases hq.cases (qVF _ _)with⟨l',h1,h2,h3,h4⟩ | ⟨ln,c,code,h1,h2,h3⟩
  ·exact .inl ⟨l',h1,h2,h3,qR hga h4⟩
  ·exact .inr ⟨ln,c,code,h1,h2,qR hga h3⟩
theorem qK9(rec:NT->Int->List Tok->PR qQ)(word:List UInt8)(d:Int)(hw:word≠[])(he:yR 107)(hex:vM 158 (fun p=>#[p]) d (qQh rec d))(hbl:vM 107 (fun p=>#[p]) (d+1) (rec .block (d+1))):vM 157 (fun p=>#[p, .string ⟨word.toArray⟩]) d (jK rec word d):=by
 intro B l w h hno;obtain⟨t,r,rfl⟩:=h.ends.ne;have S0:=St.start h;have hBw:=S0.hB;have HNO:=hI hno;have S0:=hI S0;have hmf:=zT;have hft:=vS;have hfk:=yW;have HW:=hI hw;have HEX:=hI hex;have HBL:=hI (wT 107 d (rec .block) he hbl);clear hw he hex hbl;clear h hno;unfold jY at *;go_enter func157,ntmps157
 have H:=hI (kY B t r d _ S0.o.ps);go_wp2_with fail
 refine(H.o).mono ?_;rintro e w1 ⟨rfl,hb1⟩;have S1:=hI (S0.o.below hb1);clear S0;clear H hb1;have H:=hI (jI t ⟨word.toArray⟩ ⟨#[]⟩);go_wp2_with fail
 refine(H.o _).mono ?_;rintro e w2 ⟨rfl,hb2⟩;have S2:=hI (S1.o.below hb2);clear S1;clear H hb2;have hwN:w.1.size < w2.1.size:=S2.o.lt;have N3:=hI (Nd.new word [] 0 t.line t.col w2);have S3:=hI (S2.o.alloc (wD word [] 0 t.line t.col (.slice none 0 0)));clear S2;unfold wD at *;have hw:=HW.o;have H:=hI (xV (S:=w2.1.size+1) [word,[40]] S3.o.ps (by simp[*,qY,qG,qC,qO,zB,zD,zX,qE,kIf,zS,qA,qV,qF,qD,qP,qW,qN,zW,zM,qL,qM,qT,zK,zL,qH,zA]) (by simp) (by simp));simp only[List.map,List.length]at H;go_wp2_with fail
 refine(H.o).mono ?_;rintro e w4 (⟨l4,he4,rfl,hP4,hg4⟩ | ⟨ln,c,code,he4,rfl,hg4⟩);rotate_left
 ·refine⟨rfl,?_⟩;have hbad:(jK rec word d) (t :: r)=.bad ln c code:=by simp[jK,PR.bind,qX,he4]
  rw[hbad];exact S3.o.pan ⟨rfl,hg4⟩
 have S4:=hI (S3.o.call hP4 hg4);have N4:=hI (N3.o.call hg4 (by omega));clear S3 N3;have HE4:=hI he4;clear H he4 hP4 hg4;clear hw;have hnoc:qQh rec d l4≠.out:=fun e=>HNO.o (by simp[jK,PR.bind,qX,HE4.o,e])
 have HNOC:=hI hnoc;clear hnoc;have S5d:=hI S4.o.drew;have N5d:=hI N4.o.drew;clear S4 N4;go_wp2_with fail
 have hcl:=N5d.o.nd.c5;refine wRg (S:=fun w'=>w'.cell? ⟨w2.1.size,5,none⟩=some (.slice none 0 0)) 5 ?_;refine wTk 0 14 (.pointer (some ⟨w2.1.size,5,none⟩)) ?_ hcl ?_
 ·intro _ y;go_simp
 refine wTk 1 15 (.slice none 0 0) ?_ hcl ?_
 ·intro _ y;go_simp
 refine wTk 2 16 (.pointer (some ⟨B,0,none⟩)) ?_ hcl ?_
 ·intro _ y;go_simp
 refine wOn 3 fun K hK=>?_
 go_simp;have HC:=HEX.o B l4 _ S5d.o.ps HNOC.o;refine HC.mono ?_;intro e w5a hq;rcases hq.cases HNOC.o with⟨t5,l5,q5,n5,c5,he5,rfl,hb6,hP6,hg6⟩ | ⟨ln,c,code,he5,rfl,hg6⟩;rotate_left
 ·refine⟨rfl,?_⟩;have hbad:(jK rec word d) (t :: r)=.bad ln c code:=by simp[jK,PR.bind,qX,HE4.o,he5]
  rw[hbad];exact S5d.o.pan ⟨rfl,hg6⟩
 have S6:=hI (S5d.o.call hP6 hg6);have N6:=hI (N5d.o.call hg6 (by omega));have HB6:=hI hb6;have hbl:=N5d.o.bd.lt;have c6':=N6.o.nd.c5;have f6':=N6.o.nd.f 5 nL;have hs6:=N6.o.lt;have hsz5:=N5d.o.lt;have hsz6:=hg6.size;clear hP6 hg6 hb6 HC hq S5d N5d;unfold qZ;refine kK hK c6' ?_;clear hK K;refine wOn 4 fun K hK=>?_
 go_simp;refine kK hK (by go_simp) ?_;clear hK K;refine wOn 5 fun K hK=>?_
 refine qQq (dd:=19) (t:=t5) (u:=.slice q5 n5 c5) _ _ rfl rfl N6.o.bd HB6.o (by omega) (fun g hg=>(hbl g hg).2) hsz6 rfl rfl rfl (by simp) (fun v7 w5 hb7 hg7=>?_);refine kD hK ?_;clear hK K;obtain⟨qq5,nn5,cc5,rfl⟩:=hb7.shape;have hff:=qZ8 S6.o N6.o hwN hb7 hg7;have hs7:w5.frozen? ⟨w2.1.size,5,none⟩=false:=((N6.o.nd.grown (World.grownBy_alloc w5a _ none) (by simp)).grown hg7 (fun e=>by have:=(hbl _ e.symm).1;omega)).f 5 nL;have hd7:=((N6.o.nd.grown (World.grownBy_alloc w5a _ none) (by simp)).grown hg7 (fun e=>by have:=(hbl _ e.symm).1;omega)).c5;have HFF:=hI hff;clear hff hb7 hg7 S6 N6 HB6 hbl hcl c6' f6' hsz5 hsz6;try simp only[Act.put,pZa,pZb,pZc]
 refine wOn 6 fun K hK=>?_
 go_simp;refine kD hK ?_;clear hK K;refine wOn 7 fun K hK=>?_
 go_simp;refine kD hK ?_;clear hK K;refine wDn ?_ _;clear hs7 hd7;have S5:=hI HFF.o.1;have N5:=hI HFF.o.2;have HE5:=hI he5;clear HFF he5 HNOC;have hszn:=N5.o.lt;simp only[World.size_setCell]at hszn;have H:=hI (xV (S:=w5.1.size) [[41]] S5.o.ps (by simp) (by simp) (by simp));simp only[List.map,List.length]at H;go_wp2_with fail
 refine(H.o).mono ?_;rintro e w6 (⟨l6,he6,rfl,hP6,hg6⟩ | ⟨ln,c,code,he6,rfl,hg6⟩);rotate_left
 ·refine⟨rfl,?_⟩;have hbad:(jK rec word d) (t :: r)=.bad ln c code:=by simp[jK,PR.bind,qX,HE4.o,HE5.o,he6]
  rw[hbad];exact S5.o.pan ⟨rfl,hg6⟩
 have S6:=hI (S5.o.call hP6 hg6);have N6:=hI (N5.o.call hg6 (by omega));clear S5 N5;have HE6:=hI he6;clear H he6 hP6 hg6;have hnoc:xX d (rec .block) l6≠.out:=fun e=>HNO.o (by simp[jK,PR.bind,qX,HE4.o,HE5.o,HE6.o,e])
 have HNOC:=hI hnoc;clear hnoc;have S7d:=hI S6.o.drew;have N7d:=hI N6.o.drew;clear S6 N6;go_wp2_with fail
 have hcl:=N7d.o.nd.c5;refine wRg (S:=fun w'=>w'.cell? ⟨w2.1.size,5,none⟩=some (.slice qq5 nn5 cc5)) 7 ?_;refine wTk 0 24 (.pointer (some ⟨w2.1.size,5,none⟩)) ?_ hcl ?_
 ·intro _ y;go_simp
 refine wTk 1 25 (.slice qq5 nn5 cc5) ?_ hcl ?_
 ·intro _ y;go_simp
 refine wTk 2 26 (.pointer (some ⟨B,0,none⟩)) ?_ hcl ?_
 ·intro _ y;go_simp
 refine wTk 3 27 (.pointer (some ⟨B,0,none⟩)) ?_ hcl ?_
 ·intro _ y;go_simp
 refine wTk 4 28 (.func (.func 107) #[.pointer (some ⟨B,0,none⟩)] #[]) ?_ hcl ?_
 ·intro _ y;go_simp
 refine wOn 5 fun K hK=>?_
 go_simp;have HC:=HBL.o B l6 _ S7d.o.ps HNOC.o;refine HC.mono ?_;intro e w7a hq;rcases hq.cases HNOC.o with⟨t7,l7,qq7,nn7,cc7,he7,rfl,hb6,hP6,hg6⟩ | ⟨ln,c,code,he7,rfl,hg6⟩;rotate_left
 ·refine⟨rfl,?_⟩;have hbad:(jK rec word d) (t :: r)=.bad ln c code:=by simp[jK,PR.bind,qX,HE4.o,HE5.o,HE6.o,he7]
  rw[hbad];exact S7d.o.pan ⟨rfl,hg6⟩
 have S6:=hI (S7d.o.call hP6 hg6);have N6:=hI (N7d.o.call hg6 (by omega));have HB6:=hI hb6;have hbl:=N7d.o.bd.lt;have c6':=N6.o.nd.c5;have f6':=N6.o.nd.f 5 nL;have hs6:=N6.o.lt;have hsz5:=N7d.o.lt;have hsz6:=hg6.size;clear hP6 hg6 hb6 HC hq S7d N7d;unfold qZ;refine kK hK c6' ?_;clear hK K;refine wOn 6 fun K hK=>?_
 go_simp;refine kK hK (by go_simp) ?_;clear hK K;refine wOn 7 fun K hK=>?_
 refine qQq (dd:=31) (t:=t7) (u:=.slice qq7 nn7 cc7) _ _ rfl rfl N6.o.bd HB6.o (by omega) (fun g hg=>(hbl g hg).2) hsz6 rfl rfl rfl (by simp) (fun v7 w7 hb7 hg7=>?_);refine kD hK ?_;clear hK K;obtain⟨qq7,nn7,cc7,rfl⟩:=hb7.shape;have hff:=qZ8 S6.o N6.o hwN hb7 hg7;have hs7:w7.frozen? ⟨w2.1.size,5,none⟩=false:=((N6.o.nd.grown (World.grownBy_alloc w7a _ none) (by simp)).grown hg7 (fun e=>by have:=(hbl _ e.symm).1;omega)).f 5 nL;have hd7:=((N6.o.nd.grown (World.grownBy_alloc w7a _ none) (by simp)).grown hg7 (fun e=>by have:=(hbl _ e.symm).1;omega)).c5;have HFF:=hI hff;clear hff hb7 hg7 S6 N6 HB6 hbl hcl c6' f6' hsz5 hsz6;try simp only[Act.put,pZa,pZb,pZc]
 refine wOn 8 fun K hK=>?_
 go_simp;refine kD hK ?_;clear hK K;refine wOn 9 fun K hK=>?_
 go_simp;refine kD hK ?_;clear hK K;refine wDn ?_ _;clear hs7 hd7;have S7:=hI HFF.o.1;have N7:=hI HFF.o.2;have HE7:=hI he7;clear HFF he7 HNOC;have hszn:=N7.o.lt;simp only[World.size_setCell]at hszn;have S9:=S7.o;have N9:=N7.o;have hs1:=S9.lt;have hs2:=N9.lt;simp only[World.size_setCell]at hs1 hs2;have hr:=S9.res;have⟨r0,r1',r2,r3,r4,r5,_⟩:=hr.a;have⟨g0,g1,g2,g3,g4,g5,_⟩:=hr.b;clear hr;have hq:=N9.nd;have⟨q0,q1,q2,q3,q4,q5,_⟩:=hq.a;clear hq;have HS9:=hI S9;have HN9:=hI N9;clear S9 N9 S7 N7;skip
 go_wp2
 refine bodyPost_ret (v:=qZ (.mk word [] 0 t.line t.col [t5,t7]) (.slice qq7 nn7 cc7)) (by simp[results,results157,go_sem,qZ,qQ.kind,qQ.text,qQ.num,qQ.line,qQ.col,qQ.kids,qY,qG,qC,qO,zB,zD,zX,qE,kIf,zS,qA,qV,qF,qD,qP,qW,qN,zW,zM,qL,qM,qT,zK,zL,qH,zA, *]) rfl ?_;have hgood:(jK rec word d) (t :: r)=.ok (.mk word [] 0 t.line t.col [t5,t7]) l7:=by simp[jK,PR.bind,qX,HE4.o,HE5.o,HE6.o,HE7.o]
 rw[hgood];exact HS9.o.fin (HN9.o.bd.mono (by omega)) _ _ _ _ _ _
theorem leave_does(rec:NT->Int->List Tok->PR qQ)(d:Int)(hex:vM 158 (fun p=>#[p]) d (qQh rec d)):vM 143 (fun p=>#[p]) d (yC rec d):=by
 intro B l w h hno;obtain⟨t,r,rfl⟩:=h.ends.ne;have S0:=St.start h;have hBw:=S0.hB;have HNO:=hI hno;have S0:=hI S0;have hmf:=zT;have hft:=vS;have hfk:=yW;have HEX:=hI hex;clear hex;clear h hno;unfold jY at *;go_enter func143,ntmps143
 have H:=hI (kY B t r d _ S0.o.ps);go_wp2_with fail
 refine(H.o).mono ?_;rintro e w1 ⟨rfl,hb1⟩;have S1:=hI (S0.o.below hb1);clear S0;clear H hb1;have H:=hI (jI t ⟨#[114,101,116,117,114,110]⟩ ⟨#[]⟩);go_wp2_with fail
 refine(H.o _).mono ?_;rintro e w2 ⟨rfl,hb2⟩;have S2:=hI (S1.o.below hb2);clear S1;clear H hb2;have hwN:w.1.size < w2.1.size:=S2.o.lt;have N3:=hI (Nd.new qV [] 0 t.line t.col w2);have S3:=hI (S2.o.alloc (wD qV [] 0 t.line t.col (.slice none 0 0)));clear S2;unfold wD at *;have H:=hI (xV (S:=w2.1.size+1) [qV] S3.o.ps (by simp[*,qY,qG,qC,qO,zB,zD,zX,qE,kIf,zS,qA,qV,qF,qD,qP,qW,qN,zW,zM,qL,qM,qT,zK,zL,qH,zA]) (by simp) (by simp));simp only[List.map,List.length]at H;go_wp2_with fail
 refine(H.o).mono ?_;rintro e w4 (⟨l4,he4,rfl,hP4,hg4⟩ | ⟨ln,c,code,he4,rfl,hg4⟩);rotate_left
 ·refine⟨rfl,?_⟩;have hbad:(yC rec d) (t :: r)=.bad ln c code:=by simp only[bF,if_false,if_true,reduceIte,bN,bM,bO,bU,bP,bV,bW,bB,bA,bT,lN,lC,lA,yC,PR.bind,qX,he4]
  rw[hbad];exact S3.o.pan ⟨rfl,hg4⟩
 have S4:=hI (S3.o.call hP4 hg4);have N4:=hI (N3.o.call hg4 (by omega));clear S3 N3;have HE4:=hI he4;clear H he4 hP4 hg4;obtain⟨t1,r1,hlt1⟩:=S4.o.ps.ends.ne;subst hlt1;cases hf1:(t1.text == [59]);case false =>
  have H:=hI (wN B t1 r1 d [59] _ S4.o.ps);rw[hf1]at H;go_wp2_with fail
  refine(H.o).mono ?_;rintro e w5 ⟨rfl,hb5⟩;have S5:=hI (S4.o.below hb5);have N5:=hI (N4.o.below hb5);clear S4 N4;clear H hb5;have hnoc:qQh rec d (t1 :: r1)≠.out:=fun e=>HNO.o (by simp only[bF,if_false,if_true,reduceIte,bN,bM,bO,bU,bP,bV,bW,bB,bA,bT,lN,lC,lA,yC,hf1,PR.bind,qX,HE4.o,e])
  have HNOC:=hI hnoc;clear hnoc;have S6d:=hI S5.o.drew;have N6d:=hI N5.o.drew;clear S5 N5;go_wp2_with fail
  have hcl:=N6d.o.nd.c5;refine wRg (S:=fun w'=>w'.cell? ⟨w2.1.size,5,none⟩=some (.slice none 0 0)) 5 ?_;refine wTk 0 13 (.pointer (some ⟨w2.1.size,5,none⟩)) ?_ hcl ?_
  ·intro _ y;go_simp
  refine wTk 1 14 (.slice none 0 0) ?_ hcl ?_
  ·intro _ y;go_simp
  refine wTk 2 15 (.pointer (some ⟨B,0,none⟩)) ?_ hcl ?_
  ·intro _ y;go_simp
  refine wOn 3 fun K hK=>?_
  go_simp;have HC:=HEX.o B (t1 :: r1) _ S6d.o.ps HNOC.o;refine HC.mono ?_;intro e w6a hq;rcases hq.cases HNOC.o with⟨t6,l6,q6,n6,c6,he6,rfl,hb6,hP6,hg6⟩ | ⟨ln,c,code,he6,rfl,hg6⟩;rotate_left
  ·refine⟨rfl,?_⟩;have hbad:(yC rec d) (t :: r)=.bad ln c code:=by simp only[bF,if_false,if_true,reduceIte,bN,bM,bO,bU,bP,bV,bW,bB,bA,bT,lN,lC,lA,yC,hf1,PR.bind,qX,HE4.o,he6]
   rw[hbad];exact S6d.o.pan ⟨rfl,hg6⟩
  have S6:=hI (S6d.o.call hP6 hg6);have N6:=hI (N6d.o.call hg6 (by omega));have HB6:=hI hb6;have hbl:=N6d.o.bd.lt;have c6':=N6.o.nd.c5;have f6':=N6.o.nd.f 5 nL;have hs6:=N6.o.lt;have hsz5:=N6d.o.lt;have hsz6:=hg6.size;clear hP6 hg6 hb6 HC hq S6d N6d;unfold qZ;refine kK hK c6' ?_;clear hK K;refine wOn 4 fun K hK=>?_
  go_simp;refine kK hK (by go_simp) ?_;clear hK K;refine wOn 5 fun K hK=>?_
  refine qQq (dd:=18) (t:=t6) (u:=.slice q6 n6 c6) _ _ rfl rfl N6.o.bd HB6.o (by omega) (fun g hg=>(hbl g hg).2) hsz6 rfl rfl rfl (by simp) (fun v7 w6 hb7 hg7=>?_);refine kD hK ?_;clear hK K;obtain⟨qq6,nn6,cc6,rfl⟩:=hb7.shape;have hff:=qZ8 S6.o N6.o hwN hb7 hg7;have hs7:w6.frozen? ⟨w2.1.size,5,none⟩=false:=((N6.o.nd.grown (World.grownBy_alloc w6a _ none) (by simp)).grown hg7 (fun e=>by have:=(hbl _ e.symm).1;omega)).f 5 nL;have hd7:=((N6.o.nd.grown (World.grownBy_alloc w6a _ none) (by simp)).grown hg7 (fun e=>by have:=(hbl _ e.symm).1;omega)).c5;have HFF:=hI hff;clear hff hb7 hg7 S6 N6 HB6 hbl hcl c6' f6' hsz5 hsz6;try simp only[Act.put,pZa,pZb,pZc]
  refine wOn 6 fun K hK=>?_
  go_simp;refine kD hK ?_;clear hK K;refine wOn 7 fun K hK=>?_
  go_simp;refine kD hK ?_;clear hK K;refine wDn ?_ _;clear hs7 hd7;have S6:=hI HFF.o.1;have N6:=hI HFF.o.2;have HE6:=hI he6;clear HFF he6 HNOC;have hszn:=N6.o.lt;simp only[World.size_setCell]at hszn;have H:=hI (xV (S:=w6.1.size) [[59]] S6.o.ps (by simp) (by simp) (by simp));simp only[List.map,List.length]at H;go_wp2_with fail
  refine(H.o).mono ?_;rintro e w7 (⟨l7,he7,rfl,hP7,hg7⟩ | ⟨ln,c,code,he7,rfl,hg7⟩);rotate_left
  ·refine⟨rfl,?_⟩;have hbad:(yC rec d) (t :: r)=.bad ln c code:=by simp only[bF,if_false,if_true,reduceIte,bN,bM,bO,bU,bP,bV,bW,bB,bA,bT,lN,lC,lA,yC,hf1,PR.bind,qX,HE4.o,HE6.o,he7]
   rw[hbad];exact S6.o.pan ⟨rfl,hg7⟩
  have S7:=hI (S6.o.call hP7 hg7);have N7:=hI (N6.o.call hg7 (by omega));clear S6 N6;have HE7:=hI he7;clear H he7 hP7 hg7;have S9:=S7.o;have N9:=N7.o;have hs1:=S9.lt;have hs2:=N9.lt;try simp only[World.size_setCell,World.size_alloc]at hs1 hs2
  have hr:=S9.res;have⟨r0,r1',r2,r3,r4,r5,_⟩:=hr.a;have⟨g0,g1,g2,g3,g4,g5,_⟩:=hr.b;clear hr;have hq:=N9.nd;have⟨q0,q1,q2,q3,q4,q5,_⟩:=hq.a;clear hq;have HS9:=hI S9;have HN9:=hI N9;clear S9 N9 S7 N7;unfold qV at q0;go_wp2
  refine bodyPost_ret (v:=qZ (.mk qV [] 0 t.line t.col [t6]) (.slice qq6 nn6 cc6)) (by simp[results,results143,go_sem,qZ,qQ.kind,qQ.text,qQ.num,qQ.line,qQ.col,qQ.kids,qY,qG,qC,qO,zB,zD,zX,qE,kIf,zS,qA,qV,qF,qD,qP,qW,qN,zW,zM,qL,qM,qT,zK,zL,qH,zA, *]) rfl ?_;have hgood:(yC rec d) (t :: r)=.ok (.mk qV [] 0 t.line t.col [t6]) l7:=by simp only[bF,if_false,if_true,reduceIte,bN,bM,bO,bU,bP,bV,bW,bB,bA,bT,lN,lC,lA,yC,hf1,PR.bind,qX,HE4.o,HE6.o,HE7.o]
  rw[hgood];exact HS9.o.fin (HN9.o.bd.mono (by omega)) _ _ _ _ _ _
 case true =>
  have H:=hI (wN B t1 r1 d [59] _ S4.o.ps);rw[hf1]at H;go_wp2_with fail
  refine(H.o).mono ?_;rintro e w5 ⟨rfl,hb5⟩;have S5:=hI (S4.o.below hb5);have N5:=hI (N4.o.below hb5);clear S4 N4;clear H hb5;have H:=hI (xV (S:=w5.1.size) [[59]] S5.o.ps (by simp) (by simp) (by simp));simp only[List.map,List.length]at H;go_wp2_with fail
  refine(H.o).mono ?_;rintro e w6 (⟨l6,he6,rfl,hP6,hg6⟩ | ⟨ln,c,code,he6,rfl,hg6⟩);rotate_left
  ·refine⟨rfl,?_⟩;have hbad:(yC rec d) (t :: r)=.bad ln c code:=by simp only[bF,if_false,if_true,reduceIte,bN,bM,bO,bU,bP,bV,bW,bB,bA,bT,lN,lC,lA,yC,hf1,PR.bind,qX,HE4.o,he6]
   rw[hbad];exact S5.o.pan ⟨rfl,hg6⟩
  have S6:=hI (S5.o.call hP6 hg6);have N6:=hI (N5.o.call hg6 (by omega));clear S5 N5;have HE6:=hI he6;clear H he6 hP6 hg6;have S9:=S6.o;have N9:=N6.o;have hs1:=S9.lt;have hs2:=N9.lt;try simp only[World.size_setCell,World.size_alloc]at hs1 hs2
  have hr:=S9.res;have⟨r0,r1',r2,r3,r4,r5,_⟩:=hr.a;have⟨g0,g1,g2,g3,g4,g5,_⟩:=hr.b;clear hr;have hq:=N9.nd;have⟨q0,q1,q2,q3,q4,q5,_⟩:=hq.a;clear hq;have HS9:=hI S9;have HN9:=hI N9;clear S9 N9 S6 N6;unfold qV at q0;go_wp2
  refine bodyPost_ret (v:=qZ (.mk qV [] 0 t.line t.col []) (.slice none 0 0)) (by simp[results,results143,go_sem,qZ,qQ.kind,qQ.text,qQ.num,qQ.line,qQ.col,qQ.kids,qY,qG,qC,qO,zB,zD,zX,qE,kIf,zS,qA,qV,qF,qD,qP,qW,qN,zW,zM,qL,qM,qT,zK,zL,qH,zA, *]) rfl ?_;have hgood:(yC rec d) (t :: r)=.ok (.mk qV [] 0 t.line t.col []) l6:=by simp only[bF,if_false,if_true,reduceIte,bN,bM,bO,bU,bP,bV,bW,bB,bA,bT,lN,lC,lA,yC,hf1,PR.bind,qX,HE4.o,HE6.o]
  rw[hgood];exact HS9.o.fin (HN9.o.bd.mono (by omega)) _ _ _ _ _ _
theorem qLZ(rec:NT->Int->List Tok->PR qQ)(d:Int)(hex:vM 158 (fun p=>#[p]) d (qQh rec d)):∀ (B:Nat) (l:List Tok) (w:World),vP B l d w->(hdT l).text≠[]->(kL rec d) l≠.out->Calls prog 144 ((fun p=>#[p]) (.pointer (some ⟨B,0,none⟩))) w (qXV B d w ((kL rec d) l)):=by
 intro B l w h hcond hno;obtain⟨t,r,rfl⟩:=h.ends.ne;have S0:=St.start h;have hBw:=S0.hB;have HNO:=hI hno;have S0:=hI S0;have hmf:=zT;have hft:=vS;have hfk:=yW;have HEX:=hI hex;have hte:t.text≠[]:=hcond;clear hex hcond;clear h hno;unfold jY at *;go_enter func144,ntmps144
 have H:=hI (vB B t r d _ S0.o.ps hte);go_wp2_with fail
 refine(H.o).mono ?_;rintro e w1 ⟨rfl,hP1,hg1⟩;have S1:=hI (S0.o.call hP1 hg1);clear S0;clear H hP1 hg1;unfold vT xA at *;have hwT:w.1.size < w1.1.size:=S1.o.lt;have L2:=hI (wH.newO t w1);have S2:=hI (S1.o.alloc (qXT t));clear S1;unfold qXT at *;have l1:=L2.o.c1;have l0:=L2.o.c0;have l2':=L2.o.c2;have l3':=L2.o.c3;have l4':=L2.o.c4;have H:=hI (jI t ⟨t.text.toArray⟩ ⟨#[]⟩);unfold vT xA at *;go_wp2_with fail
 refine(H.o _).mono ?_;rintro e w3 ⟨rfl,hb3⟩;have S3:=hI (S2.o.below hb3);have L3:=hI (L2.o.below hb3);clear S2 L2;clear H hb3;have hwN:w.1.size < w3.1.size:=S3.o.lt;have N4:=hI (Nd.new t.text [] 0 t.line t.col w3);have S4:=hI (S3.o.alloc (wD t.text [] 0 t.line t.col (.slice none 0 0)));have L4:=hI (L3.o.below ((Below.refl _ _).alloc (Nat.le_refl _) (wD t.text [] 0 t.line t.col (.slice none 0 0))));clear S3 L3;unfold wD at *;have H:=hI (xV (S:=w3.1.size+1) [[40]] S4.o.ps (by simp) (by simp) (by simp));simp only[List.map,List.length]at H;go_wp2_with fail
 refine(H.o).mono ?_;rintro e w5 (⟨l5,he5,rfl,hP5,hg5⟩ | ⟨ln,c,code,he5,rfl,hg5⟩);rotate_left
 ·refine⟨rfl,?_⟩;have hbad:(kL rec d) (t :: r)=.bad ln c code:=by simp only[bF,if_false,if_true,reduceIte,bN,bM,bO,bU,bP,bV,bW,bB,bA,bT,lN,lC,lA,kL,jV,PR.bind,qX,he5]
  rw[hbad];exact S4.o.pan ⟨rfl,hg5⟩
 have S5:=hI (S4.o.call hP5 hg5);have N5:=hI (N4.o.call hg5 (by omega));have L5:=hI (L4.o.grown hg5 (by simp;omega));clear S4 N4 L4;have HE5:=hI he5;clear H he5 hP5 hg5;have hnoc:qQh rec d l5≠.out:=fun e=>HNO.o (by simp only[bF,if_false,if_true,reduceIte,bN,bM,bO,bU,bP,bV,bW,bB,bA,bT,lN,lC,lA,kL,jV,PR.bind,qX,HE5.o,e])
 have HNOC:=hI hnoc;clear hnoc;have S6d:=hI S5.o.drew;have N6d:=hI N5.o.drew;clear S5 N5;clear L5;go_wp2_with fail
 have hcl:=N6d.o.nd.c5;refine wRg (S:=fun w'=>w'.cell? ⟨w3.1.size,5,none⟩=some (.slice none 0 0)) 5 ?_;refine wTk 0 14 (.pointer (some ⟨w3.1.size,5,none⟩)) ?_ hcl ?_
 ·intro _ y;go_simp
 refine wTk 1 15 (.slice none 0 0) ?_ hcl ?_
 ·intro _ y;go_simp
 refine wTk 2 16 (.pointer (some ⟨B,0,none⟩)) ?_ hcl ?_
 ·intro _ y;go_simp
 refine wOn 3 fun K hK=>?_
 go_simp;have HC:=HEX.o B l5 _ S6d.o.ps HNOC.o;refine HC.mono ?_;intro e w6a hq;rcases hq.cases HNOC.o with⟨t6,l6,q6,n6,c6,he6,rfl,hb6,hP6,hg6⟩ | ⟨ln,c,code,he6,rfl,hg6⟩;rotate_left
 ·refine⟨rfl,?_⟩;have hbad:(kL rec d) (t :: r)=.bad ln c code:=by simp only[bF,if_false,if_true,reduceIte,bN,bM,bO,bU,bP,bV,bW,bB,bA,bT,lN,lC,lA,kL,jV,PR.bind,qX,HE5.o,he6]
  rw[hbad];exact S6d.o.pan ⟨rfl,hg6⟩
 have S6:=hI (S6d.o.call hP6 hg6);have N6:=hI (N6d.o.call hg6 (by omega));have HB6:=hI hb6;have hbl:=N6d.o.bd.lt;have c6':=N6.o.nd.c5;have f6':=N6.o.nd.f 5 nL;have hs6:=N6.o.lt;have hsz5:=N6d.o.lt;have hsz6:=hg6.size;clear hP6 hg6 hb6 HC hq S6d N6d;unfold qZ;refine kK hK c6' ?_;clear hK K;refine wOn 4 fun K hK=>?_
 go_simp;refine kK hK (by go_simp) ?_;clear hK K;refine wOn 5 fun K hK=>?_
 refine qQq (dd:=19) (t:=t6) (u:=.slice q6 n6 c6) _ _ rfl rfl N6.o.bd HB6.o (by omega) (fun g hg=>(hbl g hg).2) hsz6 rfl rfl rfl (by simp) (fun v7 w6 hb7 hg7=>?_);refine kD hK ?_;clear hK K;obtain⟨qq6,nn6,cc6,rfl⟩:=hb7.shape;have hff:=qZ8 S6.o N6.o hwN hb7 hg7;have hs7:w6.frozen? ⟨w3.1.size,5,none⟩=false:=((N6.o.nd.grown (World.grownBy_alloc w6a _ none) (by simp)).grown hg7 (fun e=>by have:=(hbl _ e.symm).1;omega)).f 5 nL;have hd7:=((N6.o.nd.grown (World.grownBy_alloc w6a _ none) (by simp)).grown hg7 (fun e=>by have:=(hbl _ e.symm).1;omega)).c5;have HFF:=hI hff;clear hff hb7 hg7 S6 N6 HB6 hbl hcl c6' f6' hsz5 hsz6;try simp only[Act.put,pZa,pZb,pZc]
 refine wOn 6 fun K hK=>?_
 go_simp;refine kD hK ?_;clear hK K;refine wOn 7 fun K hK=>?_
 go_simp;refine kD hK ?_;clear hK K;refine wDn ?_ _;clear hs7 hd7;have S6:=hI HFF.o.1;have N6:=hI HFF.o.2;have HE6:=hI he6;clear HFF he6 HNOC;have hszn:=N6.o.lt;simp only[World.size_setCell]at hszn;have H:=hI (xV (S:=w6.1.size) [[41],[59]] S6.o.ps (by simp) (by simp) (by simp));simp only[List.map,List.length]at H;go_wp2_with fail
 refine(H.o).mono ?_;rintro e w7 (⟨l7,he7,rfl,hP7,hg7⟩ | ⟨ln,c,code,he7,rfl,hg7⟩);rotate_left
 ·refine⟨rfl,?_⟩;have hbad:(kL rec d) (t :: r)=.bad ln c code:=by simp only[bF,if_false,if_true,reduceIte,bN,bM,bO,bU,bP,bV,bW,bB,bA,bT,lN,lC,lA,kL,jV,PR.bind,qX,HE5.o,HE6.o,he7]
  rw[hbad];exact S6.o.pan ⟨rfl,hg7⟩
 have S7:=hI (S6.o.call hP7 hg7);have N7:=hI (N6.o.call hg7 (by omega));clear S6 N6;have HE7:=hI he7;clear H he7 hP7 hg7;have S9:=S7.o;have N9:=N7.o;have hs1:=S9.lt;have hs2:=N9.lt;try simp only[World.size_setCell,World.size_alloc]at hs1 hs2
 have hr:=S9.res;have⟨r0,r1',r2,r3,r4,r5,_⟩:=hr.a;have⟨g0,g1,g2,g3,g4,g5,_⟩:=hr.b;clear hr;have hq:=N9.nd;have⟨q0,q1,q2,q3,q4,q5,_⟩:=hq.a;clear hq;have HS9:=hI S9;have HN9:=hI N9;clear S9 N9 S7 N7;skip
 go_wp2
 refine bodyPost_ret (v:=qZ (.mk t.text [] 0 t.line t.col [t6]) (.slice qq6 nn6 cc6)) (by simp[results,results144,go_sem,qZ,qQ.kind,qQ.text,qQ.num,qQ.line,qQ.col,qQ.kids,qY,qG,qC,qO,zB,zD,zX,qE,kIf,zS,qA,qV,qF,qD,qP,qW,qN,zW,zM,qL,qM,qT,zK,zL,qH,zA, *]) rfl ?_;have hgood:(kL rec d) (t :: r)=.ok (.mk t.text [] 0 t.line t.col [t6]) l7:=by simp only[bF,if_false,if_true,reduceIte,bN,bM,bO,bU,bP,bV,bW,bB,bA,bT,lN,lC,lA,kL,jV,PR.bind,qX,HE5.o,HE6.o,HE7.o]
 rw[hgood];exact HS9.o.fin (HN9.o.bd.mono (by omega)) _ _ _ _ _ _
theorem Nd.setK{N:Nat}{k x:List UInt8}{n ln c:Int}{v:Value}{ts:List qQ}{w:World}(h:Nd N k x n ln c v ts w)(k':List UInt8):Nd N k' x n ln c v ts (w.setCell ⟨N,0,none⟩ (.string ⟨k'.toArray⟩)):=by
 have⟨h0,h1,h2,h3,h4,h5,_⟩:=h.nd.a;have hf:=h.nd.f;refine⟨?_,h.bd.grown (jM _ _ _ _) (fun j e=>by cases e;exact .inl (Nat.lt_succ_self _))⟩;constructor
 case f=>intro k hk;have:=hf k hk;simp[go_sem, *]
 all_goals simp[go_sem, *]
theorem zC.lit1{w:World}{lo lo1:Nat}{t:qQ}{u:Value}(h:zC w lo1 t.kids u)(hl:lo<=lo1)(hw:lo1<=w.1.size):zC (w.alloc (.cells (qS t u).toArray 57)) lo [t] (.slice (some ⟨w.1.size,0,none⟩) 1 1):=by
 refine⟨[u],?_,?_,trivial⟩
 ·simpa[qZK]using World.ownsRow_lit (base:=lo) (e:=57) (size:=6) w (qS t u).toArray 1 (by omega) (by decide) (by simp[qS])
 ·exact xZ.move (fun g hg hok=>⟨⟨Nat.le_trans hl hok,by simp[Value.ownBlock];omega⟩,heap_alloc_old w _ hg⟩) t u h.lies
theorem zI.alloc{b:Nat}{k x:List UInt8}{n ln c:Int}{v:Value}{w:World}(h:zI b k x n ln c v w)(o:Obj):zI b k x n ln c v (w.alloc o):=h.below ((Below.refl _ _).alloc (Nat.le_refl _) o)
theorem qVb{w0 w1:World}{B N lo1:Nat}{l:List Tok}{d:Int}{k x:List UInt8}{n ln c:Int}{v u:Value}{t:qQ}(S:St w0 B l d w1)(Nn:zI N k x n ln c v w1)(hw:w0.1.size < N)(hb:zC w1 lo1 t.kids u)(hl:N+1<=lo1)(hs:lo1<=w1.1.size) :
 St w0 B l d ((w1.setCell ⟨N,5,none⟩ (.slice (some ⟨w1.1.size,0,none⟩) 1 1)).alloc (.cells (qS t u).toArray 57)) /\
  Nd N k x n ln c (.slice (some ⟨w1.1.size,0,none⟩) 1 1) [t] ((w1.setCell ⟨N,5,none⟩ (.slice (some ⟨w1.1.size,0,none⟩) 1 1)).alloc (.cells (qS t u).toArray 57)):=by
 refine⟨(S.setN hw _ _).alloc _,(Nn.set5 _).alloc _,?_⟩;have h:=(hb.grown (jM w1 N 5 (.slice (some ⟨w1.1.size,0,none⟩) 1 1)) (fun j e=>by cases e;exact .inl (by omega))).lit1 hl (by simpa using hs);simpa using h
theorem qLf(rec:NT->Int->List Tok->PR qQ)(d:Int)(he:yR 158)(hex:vM 158 (fun p=>#[p]) (d+1) (qQh rec (d+1))):vM 161 (fun p=>#[p]) d (xF rec d):=by
 intro B l w h hno;obtain⟨t,r,rfl⟩:=h.ends.ne;have S0:=St.start h;have hBw:=S0.hB;have HNO:=hI hno;have S0:=hI S0;have hmf:=zT;have hft:=vS;have hfk:=yW;have HEX:=hI (wT 158 d (rec (.binary 0)) he hex);clear he hex;clear h hno;unfold jY at *;go_enter func161,ntmps161
 cases hf0:(kR t);case false =>
  have H:=hI (kT B t r d _ S0.o.ps);rw[hf0]at H;go_wp2_with fail
  refine(H.o).mono ?_;rintro e w1 ⟨rfl,hb1⟩;have S1:=hI (S0.o.below hb1);clear S0;clear H hb1;have H:=hI (qQ8 B t r d _ S1.o.ps);go_wp2_with fail
  refine(H.o).mono ?_;rintro e w2 ⟨rfl,hg2⟩;refine⟨rfl,?_⟩;have hbad:(xF rec d) (t :: r)=.bad t.line t.col 30:=by simp only[bF,if_false,if_true,reduceIte,bN,bM,bO,bU,bP,bV,bW,bB,bA,bT,lN,lC,lA,xF,jV,hf0,PR.bind,qX,jV]
  rw[hbad];exact S1.o.pan ⟨rfl,hg2⟩
 case true =>
  have H:=hI (kT B t r d _ S0.o.ps);rw[hf0]at H;go_wp2_with fail
  refine(H.o).mono ?_;rintro e w1 ⟨rfl,hb1⟩;have S1:=hI (S0.o.below hb1);clear S0;clear H hb1;have hte:t.text≠[]:=qXe S1.o.ps.ends (by simp[kR]at hf0;omega);have H:=hI (vB B t r d _ S1.o.ps hte);go_wp2_with fail
  refine(H.o).mono ?_;rintro e w2 ⟨rfl,hP2,hg2⟩;have S2:=hI (S1.o.call hP2 hg2);clear S1;clear H hP2 hg2;unfold vT xA at *;have hwT:w.1.size < w2.1.size:=S2.o.lt;have L3:=hI (wH.newO t w2);have S3:=hI (S2.o.alloc (qXT t));clear S2;unfold qXT at *;have l1:=L3.o.c1;have l0:=L3.o.c0;have l2':=L3.o.c2;have l3':=L3.o.c3;have l4':=L3.o.c4;have H:=hI (jI t ⟨#[110,97,109,101]⟩ ⟨t.text.toArray⟩);unfold vT xA at *;go_wp2_with fail
  refine(H.o _).mono ?_;rintro e w4 ⟨rfl,hb4⟩;have S4:=hI (S3.o.below hb4);have L4:=hI (L3.o.below hb4);clear S3 L3;clear H hb4;have hwN:w.1.size < w4.1.size:=S4.o.lt;have N5:=hI (Nd.new zM t.text 0 t.line t.col w4);have S5:=hI (S4.o.alloc (wD zM t.text 0 t.line t.col (.slice none 0 0)));have L5:=hI (L4.o.below ((Below.refl _ _).alloc (Nat.le_refl _) (wD zM t.text 0 t.line t.col (.slice none 0 0))));clear S4 L4;unfold wD at *;clear l0 l1 l2' l3' l4';obtain⟨t1,r1,hlt1⟩:=S5.o.ps.ends.ne;subst hlt1;cases hf1:(t1.text == [91]);case false =>
   have H:=hI (wN B t1 r1 d [91] _ S5.o.ps);rw[hf1]at H;go_wp2_with fail
   refine(H.o).mono ?_;rintro e w6 ⟨rfl,hb6⟩;have S6:=hI (S5.o.below hb6);have N6:=hI (N5.o.below hb6);have L6:=hI (L5.o.below hb6);clear S5 N5 L5;clear H hb6;have S9:=S6.o;have N9:=N6.o;have hs1:=S9.lt;have hs2:=N9.lt;try simp only[World.size_setCell,World.size_alloc]at hs1 hs2
   have hr:=S9.res;have⟨r0,r1',r2,r3,r4,r5,_⟩:=hr.a;have⟨g0,g1,g2,g3,g4,g5,_⟩:=hr.b;clear hr;have hq:=N9.nd;have⟨q0,q1,q2,q3,q4,q5,_⟩:=hq.a;clear hq;have HS9:=hI S9;have HN9:=hI N9;clear S9 N9 S6 N6;unfold zM at q0;go_wp2
   refine bodyPost_ret (v:=qZ (.mk zM t.text 0 t.line t.col []) (.slice none 0 0)) (by simp[results,results161,go_sem,qZ,qQ.kind,qQ.text,qQ.num,qQ.line,qQ.col,qQ.kids,qY,qG,qC,qO,zB,zD,zX,qE,kIf,zS,qA,qV,qF,qD,qP,qW,qN,zW,zM,qL,qM,qT,zK,zL,qH,zA, *]) rfl ?_;have hgood:(xF rec d) (t :: t1 :: r1)=.ok (.mk zM t.text 0 t.line t.col []) (t1 :: r1):=by simp only[bF,if_false,if_true,reduceIte,bN,bM,bO,bU,bP,bV,bW,bB,bA,bT,lN,lC,lA,xF,jV,hf0,hf1,PR.bind,qX]
   rw[hgood];exact HS9.o.fin (HN9.o.bd.mono (by omega)) _ _ _ _ _ _
  case true =>
   have H:=hI (wN B t1 r1 d [91] _ S5.o.ps);rw[hf1]at H;go_wp2_with fail
   refine(H.o).mono ?_;rintro e w6 ⟨rfl,hb6⟩;have S6:=hI (S5.o.below hb6);have N6:=hI (N5.o.below hb6);have L6:=hI (L5.o.below hb6);clear S5 N5 L5;clear H hb6;have H:=hI (xV (S:=w6.1.size) [[91]] S6.o.ps (by simp) (by simp) (by simp));simp only[List.map,List.length]at H;go_wp2_with fail
   refine(H.o).mono ?_;rintro e w7 (⟨l7,he7,rfl,hP7,hg7⟩ | ⟨ln,c,code,he7,rfl,hg7⟩);rotate_left
   ·refine⟨rfl,?_⟩;have hbad:(xF rec d) (t :: t1 :: r1)=.bad ln c code:=by simp only[bF,if_false,if_true,reduceIte,bN,bM,bO,bU,bP,bV,bW,bB,bA,bT,lN,lC,lA,xF,jV,hf0,hf1,PR.bind,qX,he7]
    rw[hbad];exact S6.o.pan ⟨rfl,hg7⟩
   have S7:=hI (S6.o.call hP7 hg7);have N7:=hI (N6.o.call hg7 (by omega));have L7:=hI (L6.o.grown hg7 (by simp;omega));clear S6 N6 L6;have HE7:=hI he7;clear H he7 hP7 hg7;have hk0:=N7.o.nd.c0;have hkf:=N7.o.nd.f 0 nL;have S8:=hI (S7.o.setN hwN 0 (.string ⟨qL.toArray⟩));have N8:=hI (N7.o.setK qL);clear S7 N7;clear L7;have hnoc:xX d (rec (.binary 0)) l7≠.out:=fun e=>HNO.o (by simp only[bF,if_false,if_true,reduceIte,bN,bM,bO,bU,bP,bV,bW,bB,bA,bT,lN,lC,lA,xF,jV,hf0,hf1,PR.bind,qX,HE7.o,e])
   have HC:=hI (HEX.o B l7 _ S8.o.ps hnoc);have HNOC:=hI hnoc;clear hnoc;go_wp2_with fail
   refine(HC.o).mono ?_;intro e w9 hq;rcases hq.cases HNOC.o with⟨t9,l9,q9,n9,c9,he9,rfl,hb9,hP9,hg9⟩ | ⟨ln,c,code,he9,rfl,hg9⟩;rotate_left
   ·refine⟨rfl,?_⟩;have hbad:(xF rec d) (t :: t1 :: r1)=.bad ln c code:=by simp only[bF,if_false,if_true,reduceIte,bN,bM,bO,bU,bP,bV,bW,bB,bA,bT,lN,lC,lA,xF,jV,hf0,hf1,PR.bind,qX,HE7.o,he9]
    rw[hbad];exact S8.o.pan ⟨rfl,hg9⟩
   have hff:=qVb (S8.o.call hP9 hg9) (N8.o.call hg9 (by omega)).nd hwN hb9 (Nat.succ_le_of_lt N8.o.lt) hg9.size;have hNn:=(N8.o.call hg9 (by omega)).nd;have hf5:=hNn.f 5 nL;have hd5:=hNn.c5;have hsN:=hNn.lt;have HFF:=hI hff;have HE9:=hI he9;clear hff hNn hq hb9 hP9 hg9 he9 HC HNOC S8 N8;unfold qZ;have S9:=hI HFF.o.1;have N9:=hI HFF.o.2;clear HFF;have H:=hI (xV (S:=w9.1.size+1) [[93]] S9.o.ps (by simp) (by simp) (by simp));simp only[List.map,List.length]at H;go_wp2_with fail
   refine(H.o).mono ?_;rintro e w10 (⟨l10,he10,rfl,hP10,hg10⟩ | ⟨ln,c,code,he10,rfl,hg10⟩);rotate_left
   ·refine⟨rfl,?_⟩;have hbad:(xF rec d) (t :: t1 :: r1)=.bad ln c code:=by simp only[bF,if_false,if_true,reduceIte,bN,bM,bO,bU,bP,bV,bW,bB,bA,bT,lN,lC,lA,xF,jV,hf0,hf1,PR.bind,qX,HE7.o,HE9.o,he10]
    rw[hbad];exact S9.o.pan ⟨rfl,hg10⟩
   have S10:=hI (S9.o.call hP10 hg10);have N10:=hI (N9.o.call hg10 (by omega));clear S9 N9;have HE10:=hI he10;clear H he10 hP10 hg10;have S9:=S10.o;have N9:=N10.o;have hs1:=S9.lt;have hs2:=N9.lt;try simp only[World.size_setCell,World.size_alloc]at hs1 hs2
   have hr:=S9.res;have⟨r0,r1',r2,r3,r4,r5,_⟩:=hr.a;have⟨g0,g1,g2,g3,g4,g5,_⟩:=hr.b;clear hr;have hq:=N9.nd;have⟨q0,q1,q2,q3,q4,q5,_⟩:=hq.a;clear hq;have HS9:=hI S9;have HN9:=hI N9;clear S9 N9 S10 N10;unfold qL at q0;go_wp2
   refine bodyPost_ret (v:=qZ (.mk qL t.text 0 t.line t.col [t9]) (.slice (some ⟨w9.1.size,0,none⟩) 1 1)) (by simp[results,results161,go_sem,qZ,qQ.kind,qQ.text,qQ.num,qQ.line,qQ.col,qQ.kids,qY,qG,qC,qO,zB,zD,zX,qE,kIf,zS,qA,qV,qF,qD,qP,qW,qN,zW,zM,qL,qM,qT,zK,zL,qH,zA, *]) rfl ?_;have hgood:(xF rec d) (t :: t1 :: r1)=.ok (.mk qL t.text 0 t.line t.col [t9]) l10:=by simp only[bF,if_false,if_true,reduceIte,bN,bM,bO,bU,bP,bV,bW,bB,bA,bT,lN,lC,lA,xF,jV,hf0,hf1,PR.bind,qX,HE7.o,HE9.o,HE10.o]
   rw[hgood];exact HS9.o.fin (HN9.o.bd.mono (by omega)) _ _ _ _ _ _
def CPost(B:Nat)(d:Int)(w:World)(p:PR (List qQ))(e:Ending)(w':World):Prop :=
 match p with
 | .ok ts l=>∃ v,e=.returned v/\zC w' w.1.size ts v/\vP B l d w'/\w.grownBy w' (some B)/\ts.length<=900001/\(ts=[]->v=.slice none 0 0)
 | .bad ln c code=>Pan B ln c code w e w'
 | .out=>True
theorem CPost.cases{B:Nat}{d:Int}{w:World}{p:PR (List qQ)}{e:Ending}{w':World}(h:CPost B d w p e w')(ho:p≠.out) :
 (∃ ts l q n c,p=.ok ts l/\e=.returned (.slice q n c)/\zC w' w.1.size ts (.slice q n c)/\vP B l d w'/\w.grownBy w' (some B)/\ts.length<=900001/\(ts=[]->Value.slice q n c=.slice none 0 0)) \/
 ∃ ln c code,p=.bad ln c code/\e=.panicked [{ v:=qXo ln c code,recovered:=false }]/\w.grownBy w' (some B):=by
 cases p with
 | ok ts l =>
  obtain⟨v,rfl,hb,hP,hg,hn,hz⟩:=h;obtain⟨q,n,c,rfl⟩:=hb.shape;exact .inl ⟨ts,l,q,n,c,rfl,rfl,hb,hP,hg,hn,hz⟩
 | bad ln c code=>exact .inr ⟨ln,c,code,rfl,h.1,h.2⟩
 | out=>exact absurd rfl ho
theorem qXF{ops:Array Oper}{rest:List Oper}{o:Oper}{a:Act}{Q:Exit->Act->World->Prop}{w:World}{lo lo1 S dd:Nat}{acc:List qQ}{t:qQ}{v u:Value}(hgd:o.guard=none)(s x:Operand)
 (ho:o.op=.call { callee:=.builtin .append,args:=#[s,x],argTypes:=#[55,55] }) (hd:o.dst=some dd) (hB:zC w lo acc v) (hK:zC w lo1 t.kids u) (hlo:lo<=lo1) (hv:∀ g,v.ownBlock=some g->g < lo1) (hl1:lo1<=w.1.size)
 (hs:a.eval s=v) (hS:w.1.size=S) (hx:a.eval x=.slice (some ⟨S,0,none⟩) 1 1) (hn:acc.length < 1000000)
 (h:∀ v' w',zC w' lo (acc++[t]) v'->(w.alloc (.cells (qS t u).toArray 57)).grownBy w' v.ownBlock->wpList prog ops Q rest (a.put (some dd) v') w') :
 wpList prog ops Q (o :: rest) a (w.alloc (.cells (qS t u).toArray 57)) :=
 wpList_plain hgd fun _ hK'=>qQq s x ho hd hB hK hlo hv hl1 hs hS hx hn fun v' w' h1 h2=>hK' _ _ (h v' w' h1 h2)
theorem app_own{w0 w6 w7:World}{B:Nat}{l:List Tok}{d:Int}{v:Value}{acc:List qQ}{o:Obj}(hP:vP B l d w6)(hg:w0.grownBy w6 (some B))(hB:B < w0.1.size)(hb:zC w6 w0.1.size acc v)(hg7:(w6.alloc o).grownBy w7 v.ownBlock) :
 vP B l d w7/\w0.grownBy w7 (some B):=by
 have hlt:=hb.lt;have h1:=hg.size;refine⟨(hP.below ((Below.refl _ _).alloc (Nat.le_refl _) o)).grown hg7 (fun j e=>by have:=(hlt j e).1;omega),?_⟩;have hga:=zY hg o;exact⟨hg7.os.trans hga.os,hg7.tape.trans hga.tape,hg7.output.trans hga.output,Nat.le_trans hga.size hg7.size,fun j hj hne=>(hg7.block j (by simp;omega) (fun e=>by have:=(hlt j e.symm).1;omega)).trans (hga.block j hj hne)⟩
def CommaRel(p:List Tok->PR qQ)(n:Nat)(R:PR (List qQ))(w:World)(B:Nat)(d:Int)(k:Nat)(v:Value)(wr:World):Prop :=
 ∃ acc l,vP B l d wr/\w.grownBy wr (some B)/\zC wr w.1.size acc v/\acc≠[]/\vI (fun u=>!(u.text == [44])) (fun l=>(jL [[44]] l).bind fun _ l=>p l) k acc l=R/\acc.length+k<=n+1
theorem qVY(f:Nat)(n:Nat)(d:Int)(p:List Tok->PR qQ)(hn:n<=900000)(he:yR f)(hp:vM f (fun p=>#[p]) d p) :
 ∀ (B:Nat) (l:List Tok) (w:World),vP B l d w->xT n p l≠.out->Calls prog 104 #[.pointer (some ⟨B,0,none⟩), .func (.func f) #[.pointer (some ⟨B,0,none⟩)] #[]] w (CPost B d w (xT n p l)):=by
 intro B l w h hno;have H:=hI (xV (S:=w.1.size) [[40]] h (by simp) (by simp) rfl);simp only[List.map,List.length]at H;have HP:=hI hp;have HNO:=hI hno;have hBw:=h.lt;unfold yR at he;clear h hno hp;go_enter func104,ntmps104
 go_wp2_with fail
 refine(H.o).mono ?_;rintro e w1 (⟨l1,he1,rfl,hP1,hg1⟩ | ⟨ln,c,code,he1,rfl,hg1⟩);rotate_left
 ·refine⟨rfl,?_⟩;have hbad:xT n p l=.bad ln c code:=by simp only[xT,PR.bind,he1]
  rw[hbad];exact⟨rfl,hg1⟩
 have HE1:=hI he1;obtain⟨t1,r1,rfl⟩:=hP1.ends.ne;have HA:=hI (wN B t1 r1 d [41] w1 hP1);have HP1:=hI hP1;clear he1 H hP1;cases hf:(t1.text == [41]);case true =>
  rw[hf]at HA;go_wp2_with fail
  refine(HA.o).mono ?_;rintro e w2 ⟨rfl,hb2⟩;have H:=hI (xV (S:=w2.1.size) [[41]] (HP1.o.below hb2) (by simp) (by simp) rfl);simp only[List.map,List.length]at H;have hg2:=qR hg1 (zV hb2 (some B));clear HA hb2 HP1 hg1;go_wp2_with fail
  refine(H.o).mono ?_;rintro e w3 (⟨l3,he3,rfl,hP3,hg3⟩ | ⟨ln,c,code,he3,rfl,hg3⟩);rotate_left
  ·refine⟨rfl,?_⟩;have hbad:xT n p l=.bad ln c code:=by simp only[xT,PR.bind,HE1.o,qX,hf,if_true,he3]
   rw[hbad];exact⟨rfl,qR hg2 hg3⟩
  have HE3:=hI he3;have HP3:=hI hP3;clear he3 hP3 H;go_wp2
  go_ret;have hgood:xT n p l=.ok [] l3:=by simp only[xT,PR.bind,HE1.o,qX,hf,if_true,HE3.o]
  rw[hgood];exact⟨_,rfl,zC.nil _ _,HP3.o,qR hg2 hg3,by simp,fun _=>rfl⟩
 case false =>
  rw[hf]at HA;have hno1:p (t1 :: r1)≠.out:=fun e=>HNO.o (by simp only[xT,PR.bind,HE1.o,qX,hf,if_false,bF,e])
  have HNO1:=hI hno1;clear hno1;go_wp2_with fail
  refine(HA.o).mono ?_;rintro e w2 ⟨rfl,hb2⟩;have HC:=hI (HP.o B (t1 :: r1) w2 (HP1.o.below hb2) HNO1.o);have hg2:=qR hg1 (zV hb2 (some B));clear HA hb2 HP1 hg1;go_wp2_with fail
  refine(HC.o).mono ?_;intro e w3 hq;rcases hq.cases HNO1.o with⟨t3,l3,q3,n3,c3,he3,rfl,hb3,hP3,hg3⟩ | ⟨ln,c,code,he3,rfl,hg3⟩;rotate_left
  ·refine⟨rfl,?_⟩;have hbad:xT n p l=.bad ln c code:=by simp only[xT,PR.bind,HE1.o,qX,hf,if_false,bF,he3]
   rw[hbad];exact⟨rfl,qR hg2 hg3⟩
  have HE3:=hI he3;have HB3:=hI hb3;have HP3:=hI hP3;have hg4:=qR hg2 hg3;have hs2:=hg2.size;have hs3:=hg3.size;clear he3 hb3 hP3 hq HC hg2 hg3;unfold qZ;go_wp2_with (at_builtin;refine qXF (dd:=16) (t:=t3) (u:=.slice q3 n3 c3) (acc:=[]) (lo:=w.1.size) rfl _ _ rfl rfl (zC.nil _ _) HB3.o (by omega) (fun g hg=>by cases hg) (by omega) rfl rfl rfl (by simp) ?_)
  intro v4 w4 hb4 hg5;obtain⟨hP4,hg6⟩:=app_own HP3.o hg4 hBw (zC.nil _ _) hg5;have HP4:=hI hP4;have HB4:=hI hb4;have hcm:∀ x,vI (fun u=>!(u.text == [44])) (fun l=>(jL [[44]] l).bind fun _ l=>p l) n [t3] l3=x->xT n p l=x.bind fun ts l=>(jL [[41]] l).bind fun _ l=>.ok ts l:=fun x hx=>by
   unfold xT;rw[bind_ok HE1.o];simp only[qX,hf,if_false,bF];rw[bind_ok HE3.o,hx]
  have hno4:vI (fun u=>!(u.text == [44])) (fun l=>(jL [[44]] l).bind fun _ l=>p l) n [t3] l3≠.out:=fun e=>HNO.o (hcm _ e)
  have HNO4:=hI hno4;have HCM:=hI hcm;obtain⟨q4,n4,c4,rfl⟩:=hb4.shape;clear hP4 hb4 hno4 hcm HB3 HP3 hg4 hg5;go_wp2_with fail
  go_loopg [5] n (fun k v wr=>CommaRel p n (vI (fun u=>!(u.text == [44])) (fun l=>(jL [[44]] l).bind fun _ l=>p l) n [t3] l3) w B d k v wr)
  case atStart=>exact⟨[t3],l3,HP4.o,hg6,by simpa using HB4.o,by simp,rfl,by simp;omega⟩
  case round =>
   obtain⟨acc,l5,hP,hg,hb,hne,hm,hlen⟩:=hrel;obtain⟨t5,r5,rfl⟩:=hP.ends.ne;obtain⟨q5,n5,c5,rfl⟩:=hb.shape;have HA:=hI (wN B t5 r5 d [44] wr hP);have HPP:=hI hP;have HB:=hI hb;have HM:=hI hm;clear hP hb hm HP4 HB4 hg6;cases gk with
   | zero=>exact absurd HM.o.symm HNO4.o
   | succ m =>
   cases hf5:(t5.text == [44]);case false =>
    rw[hf5]at HA;have hpm:vI (fun u=>!(u.text == [44])) (fun l=>(jL [[44]] l).bind fun _ l=>p l) (m+1) acc (t5 :: r5)=.ok acc (t5 :: r5):=by
     rw[vI];simp only[qX,hf5,bN,if_true]
    have HPM:=hI hpm;clear hpm;go_wp2_with fail
    refine(HA.o).mono ?_;rintro e w6 ⟨rfl,hb6⟩;have H:=hI (xV (S:=w6.1.size) [[41]] (HPP.o.below hb6) (by simp) (by simp) rfl);simp only[List.map,List.length]at H;have hgg:=qR hg (zV hb6 (some B));have HB6:=hI (HB.o.below hb6);clear HA hb6 HPP hg HB;go_wp2_with fail
    refine(H.o).mono ?_;rintro e w7 (⟨l7,he7,rfl,hP7,hg7⟩ | ⟨ln,c,code,he7,rfl,hg7⟩);rotate_left
    ·refine⟨rfl,?_⟩;rw[HCM.o _ (HM.o.symm.trans HPM.o)];simp only[PR.bind,he7];exact⟨rfl,qR hgg hg7⟩
    have HE7:=hI he7;have HP7:=hI hP7;clear he7 hP7 H;go_wp2
    go_ret;rw[HCM.o _ (HM.o.symm.trans HPM.o)];simp only[PR.bind,HE7.o];exact⟨_,rfl,HB6.o.grown hg7 (fun j e=>by cases e;exact .inl hBw),HP7.o,qR hgg hg7,by omega,fun e=>absurd e hne⟩
   case true =>
    rw[hf5]at HA;have hpm:vI (fun u=>!(u.text == [44])) (fun l=>(jL [[44]] l).bind fun _ l=>p l) (m+1) acc (t5 :: r5)=((jL [[44]] (t5 :: r5)).bind fun _ l=>p l).bind fun t l=>vI (fun u=>!(u.text == [44])) (fun l=>(jL [[44]] l).bind fun _ l=>p l) m (acc++[t]) l:=by
     rw[vI];simp only[qX,hf5,bM,bF,if_false]
    have HPM:=hI (HM.o.symm.trans hpm);clear hpm;go_wp2_with fail
    refine(HA.o).mono ?_;rintro e w6 ⟨rfl,hb6⟩;have H:=hI (xV (S:=w6.1.size) [[44]] (HPP.o.below hb6) (by simp) (by simp) rfl);simp only[List.map,List.length]at H;have hgg:=qR hg (zV hb6 (some B));have HB6:=hI (HB.o.below hb6);clear HA hb6 HPP hg HB;go_wp2_with fail
    refine(H.o).mono ?_;rintro e w7 (⟨l7,he7,rfl,hP7,hg7⟩ | ⟨ln,c,code,he7,rfl,hg7⟩);rotate_left
    ·refine⟨rfl,?_⟩;rw[HCM.o _ HPM.o];simp only[PR.bind,he7];exact⟨rfl,qR hgg hg7⟩
    have HE7:=hI he7;have hno7:p l7≠.out:=fun e=>HNO4.o (by rw[HPM.o];simp only[PR.bind,HE7.o,e])
    have HC:=hI (HP.o B l7 w7 hP7 hno7);have HNO7:=hI hno7;have hg8:=qR hgg hg7;have HB7:=hI (HB6.o.grown hg7 (fun j e=>by cases e;exact .inl hBw));clear he7 hP7 H hno7 hgg hg7 HB6;go_wp2_with fail
    refine(HC.o).mono ?_;intro e w8 hq;rcases hq.cases HNO7.o with⟨t8,l8,q8,n8,c8,he8,rfl,hb8,hP8,hg9⟩ | ⟨ln,c,code,he8,rfl,hg9⟩;rotate_left
    ·refine⟨rfl,?_⟩;rw[HCM.o _ HPM.o];simp only[PR.bind,HE7.o,he8];exact⟨rfl,qR hg8 hg9⟩
    have HE8:=hI he8;have HB8:=hI hb8;have HP8:=hI hP8;have HBA:=hI (HB7.o.grown hg9 (fun j e=>by cases e;exact .inl hBw));have hga:=qR hg8 hg9;have hs8:=hg8.size;have hs9:=hg9.size;have hbl:=HB7.o.lt;clear he8 hb8 hP8 hq HC hg8 hg9 HB7;unfold qZ;go_wp2_with (at_builtin;refine qXF (dd:=26) (t:=t8) (u:=.slice q8 n8 c8) (acc:=acc) (lo:=w.1.size) rfl _ _ rfl rfl HBA.o HB8.o (by omega) (fun g hg=>(hbl g hg).2) (by omega) rfl rfl rfl (by omega) ?_)
    intro v9 w9 hb9 hg10;obtain⟨hP9,hg11⟩:=app_own HP8.o hga hBw HBA.o hg10;have HP9:=hI hP9;have HB9:=hI hb9;obtain⟨q9,n9,c9,rfl⟩:=hb9.shape;clear hP9 hb9 hg10 HBA HB8 HP8 hga hbl;go_wp2
    go_roundg m
    case measure=>omega
    case rel=>exact⟨acc++[t8],l8,HP9.o,hg11,HB9.o,by simp,by rw[HPM.o];simp only[PR.bind,HE7.o,HE8.o],by simp;omega⟩
theorem vP.row{B:Nat}{l:List Tok}{d:Int}{w:World}(h:vP B l d w):∃ T o c,w.cell? ⟨B,0,none⟩=some (.slice (some ⟨T,o * 5,none⟩) l.length c)/\(∀ k (h:k < l.length),qKU T (o+k) l[k] w)/\T < B/\l.length<=c:=by
 obtain⟨lo,T,o,c,h⟩:=h;exact⟨T,o,c,h.c0,h.row,h.hT,h.hc⟩
theorem qX8(B:Nat)(l:List Tok)(d:Int)(w:World)(h:vP B l d w) :
 Calls prog 159 #[.pointer (some ⟨B,0,none⟩)] w fun e w'=>e=.returned (.bool (qQR l))/\Below w.1.size w w':=by
 obtain⟨t,r,rfl⟩:=h.ends.ne;have H:=hI (kT B t r d w h);cases hn:kR t;case false =>
  have hb:qQR (t :: r)=false:=by cases r <;> simp[qQR,hn]
  rw[hn]at H;rw[hb];go_enter func159,ntmps159
  go_wp2_with fail
  refine(H.o).mono ?_;rintro e w1 ⟨rfl,hb1⟩;go_wp2
  go_ret;exact⟨rfl,hb1⟩
 case true =>
  have hte:t.text≠[]:=qXe h.ends (by simp[kR]at hn;omega);obtain⟨u,r',rfl⟩:=(h.ends.tail hte).ne;have hb:qQR (t :: u :: r')=(u.text == [40]):=by simp[qQR,hn]
  rw[hn]at H;rw[hb];have HP:=hI h;clear h;go_enter func159,ntmps159
  go_wp2_with fail
  refine(H.o).mono ?_;rintro e w1 ⟨rfl,hb1⟩;obtain⟨T,o,c,h0,hrow,hT,hc⟩:=(HP.o.below hb1).row;have hlt:=(HP.o.below hb1).lt;have hTl:T < w1.1.size:=by omega
  have h1:=(hrow 1 (by simp)).ft;simp only[lO,List.getElem_cons_succ,List.getElem_cons_zero]at h0 h1 hc;have e5:(o+1) * 5+1=o * 5+6:=by omega
  rw[e5]at h1;clear hrow HP H;go_wp2
  go_ret;exact⟨rfl,hb1⟩
structure Hd(N lo:Nat)(k x:List UInt8)(n ln c:Int)(v:Value)(ts:List qQ)(w:World):Prop where
 nd:zI N k x n ln c v w
 bd:zC w lo ts v
theorem Hd.lt{N lo:Nat}{k x:List UInt8}{n ln c:Int}{v:Value}{ts:List qQ}{w:World}(h:Hd N lo k x n ln c v ts w):N < w.1.size:=h.nd.lt
theorem Hd.call{N lo B:Nat}{k x:List UInt8}{n ln c:Int}{v:Value}{ts:List qQ}{w w':World}(h:Hd N lo k x n ln c v ts w)(hg:w.grownBy w' (some B))(hB:B < N/\B < lo):Hd N lo k x n ln c v ts w' :=
 ⟨h.nd.grown hg (by simp;omega),h.bd.grown hg (fun j e=>by cases e;exact .inl hB.2)⟩
theorem Hd.put(t:qQ){lo:Nat}{v:Value}{w:World}(h:zC w lo t.kids v):Hd w.1.size lo t.kind t.text t.num t.line t.col v t.kids (w.alloc (wD t.kind t.text t.num t.line t.col v)):=⟨zI.new _ _ _ _ _ _ w,h.alloc _⟩
theorem Nd.setV{N:Nat}{k x:List UInt8}{n ln c:Int}{v u:Value}{ts:List qQ}{w:World}(h:zI N k x n ln c v w)(hb:zC w (N+1) ts u):Nd N k x n ln c u ts (w.setCell ⟨N,5,none⟩ u) :=
 ⟨h.set5 u,hb.grown (jM _ _ _ _) (fun j e=>by cases e;exact .inl (Nat.lt_succ_self _))⟩
theorem call_does(rec:NT->Int->List Tok->PR qQ)(n:Nat)(d:Int)(hn:n<=900000)(he:yR 173)(hex:vM 173 (fun p=>#[p]) d (qPf rec d)):vM 160 (fun p=>#[p]) d (qQz rec n d):=by
 intro B l w h hno;obtain⟨t,r,rfl⟩:=h.ends.ne;have S0:=St.start h;have hBw:=S0.hB;have HNO:=hI hno;have S0:=hI S0;have hmf:=zT;have hft:=vS;have hfk:=yW;have HEX:=hI (qVY 173 n d (qPf rec d) hn he hex);clear he hex hn;clear h hno;unfold jY at *;go_enter func160,ntmps160
 cases hf0:(kR t);case false =>
  have H:=hI (kT B t r d _ S0.o.ps);rw[hf0]at H;go_wp2_with fail
  refine(H.o).mono ?_;rintro e w1 ⟨rfl,hb1⟩;have S1:=hI (S0.o.below hb1);clear S0;clear H hb1;have H:=hI (qQ8 B t r d _ S1.o.ps);go_wp2_with fail
  refine(H.o).mono ?_;rintro e w2 ⟨rfl,hg2⟩;refine⟨rfl,?_⟩;have hbad:(qQz rec n d) (t :: r)=.bad t.line t.col 30:=by simp only[bF,if_false,if_true,reduceIte,bN,bM,bO,bU,bP,bV,bW,bB,bA,bT,lN,lC,lA,qQz,jV,hf0,PR.bind,qX,jV]
  rw[hbad];exact S1.o.pan ⟨rfl,hg2⟩
 case true =>
  have H:=hI (kT B t r d _ S0.o.ps);rw[hf0]at H;go_wp2_with fail
  refine(H.o).mono ?_;rintro e w1 ⟨rfl,hb1⟩;have S1:=hI (S0.o.below hb1);clear S0;clear H hb1;have hte:t.text≠[]:=qXe S1.o.ps.ends (by simp[kR]at hf0;omega);have H:=hI (vB B t r d _ S1.o.ps hte);go_wp2_with fail
  refine(H.o).mono ?_;rintro e w2 ⟨rfl,hP2,hg2⟩;have S2:=hI (S1.o.call hP2 hg2);clear S1;clear H hP2 hg2;unfold vT xA at *;have hwT:w.1.size < w2.1.size:=S2.o.lt;have L3:=hI (wH.newO t w2);have S3:=hI (S2.o.alloc (qXT t));clear S2;unfold qXT at *;have l1:=L3.o.c1;have l0:=L3.o.c0;have l2':=L3.o.c2;have l3':=L3.o.c3;have l4':=L3.o.c4;have H:=hI (jI t ⟨#[99,97,108,108]⟩ ⟨t.text.toArray⟩);unfold vT xA at *;go_wp2_with fail
  refine(H.o _).mono ?_;rintro e w4 ⟨rfl,hb4⟩;have S4:=hI (S3.o.below hb4);have L4:=hI (L3.o.below hb4);clear S3 L3;clear H hb4;have hwN:w.1.size < w4.1.size:=S4.o.lt;have N5:=hI (Nd.new zW t.text 0 t.line t.col w4);have S5:=hI (S4.o.alloc (wD zW t.text 0 t.line t.col (.slice none 0 0)));have L5:=hI (L4.o.below ((Below.refl _ _).alloc (Nat.le_refl _) (wD zW t.text 0 t.line t.col (.slice none 0 0))));clear S4 L4;unfold wD at *;clear l0 l1 l2' l3' l4';have hnoc:xT n (qPf rec d) r≠.out:=fun e=>HNO.o (by simp only[bF,if_false,if_true,reduceIte,bN,bM,bO,bU,bP,bV,bW,bB,bA,bT,lN,lC,lA,qQz,jV,hf0,PR.bind,qX,e])
  have HC:=hI (HEX.o B r _ S5.o.ps hnoc);have HNOC:=hI hnoc;clear hnoc;go_wp2_with fail
  refine(HC.o).mono ?_;intro e w6 hq;rcases hq.cases HNOC.o with⟨ts6,l6,q6,n6,c6,he6,rfl,hb6,hP6,hg6,_,_⟩ | ⟨ln,c,code,he6,rfl,hg6⟩;rotate_left
  ·refine⟨rfl,?_⟩;have hbad:(qQz rec n d) (t :: r)=.bad ln c code:=by simp only[bF,if_false,if_true,reduceIte,bN,bM,bO,bU,bP,bV,bW,bB,bA,bT,lN,lC,lA,qQz,jV,hf0,PR.bind,qX,he6]
   rw[hbad];exact S5.o.pan ⟨rfl,hg6⟩
  have hNn:=(N5.o.call hg6 (by omega)).nd;have hf5:=hNn.f 5 nL;have hd5:=hNn.c5;have hsN:=hNn.lt;have S6:=hI ((S5.o.call hP6 hg6).setN hwN 5 (.slice q6 n6 c6));have N6:=hI (Nd.setV hNn (hb6.mono (Nat.succ_le_of_lt N5.o.lt)));have HE6:=hI he6;clear hNn hq hb6 hP6 hg6 he6 HC HNOC S5 N5;clear L5;have S9:=S6.o;have N9:=N6.o;have hs1:=S9.lt;have hs2:=N9.lt;try simp only[World.size_setCell,World.size_alloc]at hs1 hs2
  have hr:=S9.res;have⟨r0,r1',r2,r3,r4,r5,_⟩:=hr.a;have⟨g0,g1,g2,g3,g4,g5,_⟩:=hr.b;clear hr;have hq:=N9.nd;have⟨qn0,qn1,qn2,qn3,qn4,qn5,_⟩:=hq.a;clear hq;have HS9:=hI S9;have HN9:=hI N9;clear S9 N9 S6 N6;unfold zW at qn0;go_wp2
  refine bodyPost_ret (v:=qZ (.mk zW t.text 0 t.line t.col ts6) (.slice q6 n6 c6)) (by simp[results,results160,go_sem,qZ,qQ.kind,qQ.text,qQ.num,qQ.line,qQ.col,qQ.kids,qY,qG,qC,qO,zB,zD,zX,qE,kIf,zS,qA,qV,qF,qD,qP,qW,qN,zW,zM,qL,qM,qT,zK,zL,qH,zA, *]) rfl ?_;have hgood:(qQz rec n d) (t :: r)=.ok (.mk zW t.text 0 t.line t.col ts6) l6:=by simp only[bF,if_false,if_true,reduceIte,bN,bM,bO,bU,bP,bV,bW,bB,bA,bT,lN,lC,lA,qQz,jV,hf0,PR.bind,qX,HE6.o]
  rw[hgood];exact HS9.o.fin (HN9.o.bd.mono (by omega)) _ _ _ _ _ _
theorem local_does(d:Int)(hex:vM 103 (fun p=>#[p, .string ⟨#[108,111,99,97,108]⟩, .bool false]) d (zG qE false)):vM 145 (fun p=>#[p]) d (qQM):=by
 intro B l w h hno;obtain⟨t,r,rfl⟩:=h.ends.ne;have S0:=St.start h;have hBw:=S0.hB;have HNO:=hI hno;have S0:=hI S0;have hmf:=zT;have hft:=vS;have hfk:=yW;have HEX:=hI hex;clear hex;clear h hno;unfold jY at *;go_enter func145,ntmps145
 have hnoc:zG qE false (t :: r)≠.out:=fun e=>HNO.o (by simp only[bF,if_false,if_true,reduceIte,bN,bM,bO,bU,bP,bV,bW,bB,bA,bT,lN,lC,lA,qQM,PR.bind,qX,e])
 have HC:=hI (HEX.o B (t :: r) _ S0.o.ps hnoc);have HNOC:=hI hnoc;clear hnoc;go_wp2_with fail
 refine(HC.o).mono ?_;intro e w1 hq;rcases hq.cases HNOC.o with⟨t1,l1,q1,n1,c1,he1,rfl,hb1,hP1,hg1⟩ | ⟨ln,c,code,he1,rfl,hg1⟩;rotate_left
 ·refine⟨rfl,?_⟩;have hbad:(qQM) (t :: r)=.bad ln c code:=by simp only[bF,if_false,if_true,reduceIte,bN,bM,bO,bU,bP,bV,bW,bB,bA,bT,lN,lC,lA,qQM,PR.bind,qX,he1]
  rw[hbad];exact S0.o.pan ⟨rfl,hg1⟩
 have hwN:w.1.size < w1.1.size:=(S0.o.call hP1 hg1).lt;have N1:=hI (Hd.put t1 (hb1.mono (lo':=w.1.size+1) S0.o.lt));have S1:=hI ((S0.o.call hP1 hg1).alloc (wD t1.kind t1.text t1.num t1.line t1.col (.slice q1 n1 c1)));have HE1:=hI he1;clear hq hb1 hP1 hg1 he1 HC HNOC S0;unfold qZ wD at *;have H:=hI (xV (S:=w1.1.size+1) [[59]] S1.o.ps (by simp) (by simp) (by simp));simp only[List.map,List.length]at H;go_wp2_with fail
 refine(H.o).mono ?_;rintro e w2 (⟨l2,he2,rfl,hP2,hg2⟩ | ⟨ln,c,code,he2,rfl,hg2⟩);rotate_left
 ·refine⟨rfl,?_⟩;have hbad:(qQM) (t :: r)=.bad ln c code:=by simp only[bF,if_false,if_true,reduceIte,bN,bM,bO,bU,bP,bV,bW,bB,bA,bT,lN,lC,lA,qQM,PR.bind,qX,HE1.o,he2]
  rw[hbad];exact S1.o.pan ⟨rfl,hg2⟩
 have S2:=hI (S1.o.call hP2 hg2);have N2:=hI (N1.o.call hg2 (by omega));clear S1 N1;have HE2:=hI he2;clear H he2 hP2 hg2;have S9:=S2.o;have N9:=N2.o;have hs1:=S9.lt;have hs2:=N9.lt;try simp only[World.size_setCell,World.size_alloc]at hs1 hs2
 have hr:=S9.res;have⟨r0,r1',r2,r3,r4,r5,_⟩:=hr.a;have⟨g0,g1,g2,g3,g4,g5,_⟩:=hr.b;clear hr;have hq:=N9.nd;have⟨qn0,qn1,qn2,qn3,qn4,qn5,_⟩:=hq.a;clear hq;have HS9:=hI S9;have HN9:=hI N9;clear S9 N9 S2 N2;skip
 go_wp2
 refine bodyPost_ret (v:=qZ t1 (.slice q1 n1 c1)) (by simp[results,results145,go_sem,qZ,qQ.kind,qQ.text,qQ.num,qQ.line,qQ.col,qQ.kids,qY,qG,qC,qO,zB,zD,zX,qE,kIf,zS,qA,qV,qF,qD,qP,qW,qN,zW,zM,qL,qM,qT,zK,zL,qH,zA, *]) rfl ?_;have hgood:(qQM) (t :: r)=.ok t1 l2:=by simp only[bF,if_false,if_true,reduceIte,bN,bM,bO,bU,bP,bV,bW,bB,bA,bT,lN,lC,lA,qQM,PR.bind,qX,HE1.o,HE2.o]
 rw[hgood];exact HS9.o.fin (HN9.o.bd.mono (by omega)) _ _ _ _ _ _
theorem qPd(rec:NT->Int->List Tok->PR qQ)(n:Nat)(d:Int)(hcall:vM 160 (fun p=>#[p]) d (qQz rec n d))(htar:vM 161 (fun p=>#[p]) d (xF rec d))(hex:vM 158 (fun p=>#[p]) d (qQh rec d)):vM 146 (fun p=>#[p]) d (jJ rec n d):=by
 intro B l w h hno;obtain⟨t,r,rfl⟩:=h.ends.ne;have S0:=St.start h;have hBw:=S0.hB;have HNO:=hI hno;have S0:=hI S0;have hmf:=zT;have hft:=vS;have hfk:=yW;have HCL:=hI hcall;have HTR:=hI htar;have HEX:=hI hex;clear hcall htar hex;clear h hno;unfold jY at *;go_enter func146,ntmps146
 cases hf0:(qQR (t :: r));case false =>
  have H:=hI (qX8 B (t :: r) d _ S0.o.ps);rw[hf0]at H;go_wp2_with fail
  refine(H.o).mono ?_;rintro e w1 ⟨rfl,hb1⟩;have S1:=hI (S0.o.below hb1);clear S0;clear H hb1;have H:=hI (kY B t r d _ S1.o.ps);go_wp2_with fail
  refine(H.o).mono ?_;rintro e w2 ⟨rfl,hb2⟩;have S2:=hI (S1.o.below hb2);clear S1;clear H hb2;have H:=hI (jI t ⟨#[97,115,115,105,103,110]⟩ ⟨#[]⟩);go_wp2_with fail
  refine(H.o _).mono ?_;rintro e w3 ⟨rfl,hb3⟩;have S3:=hI (S2.o.below hb3);clear S2;clear H hb3;have hwN:w.1.size < w3.1.size:=S3.o.lt;have N4:=hI (Nd.new qP [] 0 t.line t.col w3);have S4:=hI (S3.o.alloc (wD qP [] 0 t.line t.col (.slice none 0 0)));clear S3;unfold wD at *;have hnoc:xF rec d (t :: r)≠.out:=fun e=>HNO.o (by simp only[bF,if_false,if_true,reduceIte,bN,bM,bO,bU,bP,bV,bW,bB,bA,bT,lN,lC,lA,jJ,hf0,PR.bind,qX,e])
  have HNOC:=hI hnoc;clear hnoc;have S5d:=hI S4.o.drew;have N5d:=hI N4.o.drew;clear S4 N4;go_wp2_with fail
  have hcl:=N5d.o.nd.c5;refine wRg (S:=fun w'=>w'.cell? ⟨w3.1.size,5,none⟩=some (.slice none 0 0)) 5 ?_;refine wTk 0 16 (.pointer (some ⟨w3.1.size,5,none⟩)) ?_ hcl ?_
  ·intro _ y;go_simp
  refine wTk 1 17 (.slice none 0 0) ?_ hcl ?_
  ·intro _ y;go_simp
  refine wTk 2 18 (.pointer (some ⟨B,0,none⟩)) ?_ hcl ?_
  ·intro _ y;go_simp
  refine wOn 3 fun K hK=>?_
  go_simp;have HC:=HTR.o B (t :: r) _ S5d.o.ps HNOC.o;refine HC.mono ?_;intro e w5a hq;rcases hq.cases HNOC.o with⟨t5,l5,q5,n5,c5,he5,rfl,hb6,hP6,hg6⟩ | ⟨ln,c,code,he5,rfl,hg6⟩;rotate_left
  ·refine⟨rfl,?_⟩;have hbad:(jJ rec n d) (t :: r)=.bad ln c code:=by simp only[bF,if_false,if_true,reduceIte,bN,bM,bO,bU,bP,bV,bW,bB,bA,bT,lN,lC,lA,jJ,hf0,PR.bind,qX,he5]
   rw[hbad];exact S5d.o.pan ⟨rfl,hg6⟩
  have S6:=hI (S5d.o.call hP6 hg6);have N6:=hI (N5d.o.call hg6 (by omega));have HB6:=hI hb6;have hbl:=N5d.o.bd.lt;have c6':=N6.o.nd.c5;have f6':=N6.o.nd.f 5 nL;have hs6:=N6.o.lt;have hsz5:=N5d.o.lt;have hsz6:=hg6.size;clear hP6 hg6 hb6 HC hq S5d N5d;unfold qZ;refine kK hK c6' ?_;clear hK K;refine wOn 4 fun K hK=>?_
  go_simp;refine kK hK (by go_simp) ?_;clear hK K;refine wOn 5 fun K hK=>?_
  refine qQq (dd:=21) (t:=t5) (u:=.slice q5 n5 c5) _ _ rfl rfl N6.o.bd HB6.o (by omega) (fun g hg=>(hbl g hg).2) hsz6 rfl rfl rfl (by simp) (fun v7 w5 hb7 hg7=>?_);refine kD hK ?_;clear hK K;obtain⟨qq5,nn5,cc5,rfl⟩:=hb7.shape;have hff:=qZ8 S6.o N6.o hwN hb7 hg7;have hs7:w5.frozen? ⟨w3.1.size,5,none⟩=false:=((N6.o.nd.grown (World.grownBy_alloc w5a _ none) (by simp)).grown hg7 (fun e=>by have:=(hbl _ e.symm).1;omega)).f 5 nL;have hd7:=((N6.o.nd.grown (World.grownBy_alloc w5a _ none) (by simp)).grown hg7 (fun e=>by have:=(hbl _ e.symm).1;omega)).c5;have HFF:=hI hff;clear hff hb7 hg7 S6 N6 HB6 hbl hcl c6' f6' hsz5 hsz6;try simp only[Act.put,pZa,pZb,pZc]
  refine wOn 6 fun K hK=>?_
  go_simp;refine kD hK ?_;clear hK K;refine wOn 7 fun K hK=>?_
  go_simp;refine kD hK ?_;clear hK K;refine wDn ?_ _;clear hs7 hd7;have S5:=hI HFF.o.1;have N5:=hI HFF.o.2;have HE5:=hI he5;clear HFF he5 HNOC;have hszn:=N5.o.lt;simp only[World.size_setCell]at hszn;have H:=hI (xV (S:=w5.1.size) [[61]] S5.o.ps (by simp) (by simp) (by simp));simp only[List.map,List.length]at H;go_wp2_with fail
  refine(H.o).mono ?_;rintro e w6 (⟨l6,he6,rfl,hP6,hg6⟩ | ⟨ln,c,code,he6,rfl,hg6⟩);rotate_left
  ·refine⟨rfl,?_⟩;have hbad:(jJ rec n d) (t :: r)=.bad ln c code:=by simp only[bF,if_false,if_true,reduceIte,bN,bM,bO,bU,bP,bV,bW,bB,bA,bT,lN,lC,lA,jJ,hf0,PR.bind,qX,HE5.o,he6]
   rw[hbad];exact S5.o.pan ⟨rfl,hg6⟩
  have S6:=hI (S5.o.call hP6 hg6);have N6:=hI (N5.o.call hg6 (by omega));clear S5 N5;have HE6:=hI he6;clear H he6 hP6 hg6;obtain⟨t1,r1,hlt1⟩:=S6.o.ps.ends.ne;subst hlt1;cases hf1:(t1.text == qW);case false =>
   have H:=hI (wN B t1 r1 d qW _ S6.o.ps);rw[hf1]at H;go_wp2_with fail
   refine(H.o).mono ?_;rintro e w7 ⟨rfl,hb7⟩;have S7:=hI (S6.o.below hb7);have N7:=hI (N6.o.below hb7);clear S6 N6;clear H hb7;cases hf2:(qQR (t1 :: r1));case false =>
    have H:=hI (qX8 B (t1 :: r1) d _ S7.o.ps);rw[hf2]at H;go_wp2_with fail
    refine(H.o).mono ?_;rintro e w8 ⟨rfl,hb8⟩;have S8:=hI (S7.o.below hb8);have N8:=hI (N7.o.below hb8);clear S7 N7;clear H hb8;have hnoc:qQh rec d (t1 :: r1)≠.out:=fun e=>HNO.o (by simp only[bF,if_false,if_true,reduceIte,bN,bM,bO,bU,bP,bV,bW,bB,bA,bT,lN,lC,lA,jJ,hf0,hf1,hf2,PR.bind,qX,HE5.o,HE6.o,e])
    have HNOC:=hI hnoc;clear hnoc;have S9d:=hI S8.o.drew;have N9d:=hI N8.o.drew;clear S8 N8;go_wp2_with fail
    have hcl:=N9d.o.nd.c5;refine wRg (S:=fun w'=>w'.cell? ⟨w3.1.size,5,none⟩=some (.slice qq5 nn5 cc5)) 5 ?_;refine wTk 0 26 (.pointer (some ⟨w3.1.size,5,none⟩)) ?_ hcl ?_
    ·intro _ y;go_simp
    refine wTk 1 27 (.slice qq5 nn5 cc5) ?_ hcl ?_
    ·intro _ y;go_simp
    refine wTk 2 28 (.pointer (some ⟨B,0,none⟩)) ?_ hcl ?_
    ·intro _ y;go_simp
    refine wOn 3 fun K hK=>?_
    go_simp;have HC:=HEX.o B (t1 :: r1) _ S9d.o.ps HNOC.o;refine HC.mono ?_;intro e w9a hq;rcases hq.cases HNOC.o with⟨t9,l9,q9,n9,c9,he9,rfl,hb6,hP6,hg6⟩ | ⟨ln,c,code,he9,rfl,hg6⟩;rotate_left
    ·refine⟨rfl,?_⟩;have hbad:(jJ rec n d) (t :: r)=.bad ln c code:=by simp only[bF,if_false,if_true,reduceIte,bN,bM,bO,bU,bP,bV,bW,bB,bA,bT,lN,lC,lA,jJ,hf0,hf1,hf2,PR.bind,qX,HE5.o,HE6.o,he9]
     rw[hbad];exact S9d.o.pan ⟨rfl,hg6⟩
    have S6:=hI (S9d.o.call hP6 hg6);have N6:=hI (N9d.o.call hg6 (by omega));have HB6:=hI hb6;have hbl:=N9d.o.bd.lt;have c6':=N6.o.nd.c5;have f6':=N6.o.nd.f 5 nL;have hs6:=N6.o.lt;have hsz5:=N9d.o.lt;have hsz6:=hg6.size;clear hP6 hg6 hb6 HC hq S9d N9d;unfold qZ;refine kK hK c6' ?_;clear hK K;refine wOn 4 fun K hK=>?_
    go_simp;refine kK hK (by go_simp) ?_;clear hK K;refine wOn 5 fun K hK=>?_
    refine qQq (dd:=31) (t:=t9) (u:=.slice q9 n9 c9) _ _ rfl rfl N6.o.bd HB6.o (by omega) (fun g hg=>(hbl g hg).2) hsz6 rfl rfl rfl (by simp) (fun v7 w9 hb7 hg7=>?_);refine kD hK ?_;clear hK K;obtain⟨qq9,nn9,cc9,rfl⟩:=hb7.shape;have hff:=qZ8 S6.o N6.o hwN hb7 hg7;have hs7:w9.frozen? ⟨w3.1.size,5,none⟩=false:=((N6.o.nd.grown (World.grownBy_alloc w9a _ none) (by simp)).grown hg7 (fun e=>by have:=(hbl _ e.symm).1;omega)).f 5 nL;have hd7:=((N6.o.nd.grown (World.grownBy_alloc w9a _ none) (by simp)).grown hg7 (fun e=>by have:=(hbl _ e.symm).1;omega)).c5;have HFF:=hI hff;clear hff hb7 hg7 S6 N6 HB6 hbl hcl c6' f6' hsz5 hsz6;try simp only[Act.put,pZa,pZb,pZc]
    refine wOn 6 fun K hK=>?_
    go_simp;refine kD hK ?_;clear hK K;refine wOn 7 fun K hK=>?_
    go_simp;refine kD hK ?_;clear hK K;refine wDn ?_ _;clear hs7 hd7;have S9:=hI HFF.o.1;have N9:=hI HFF.o.2;have HE9:=hI he9;clear HFF he9 HNOC;have hszn:=N9.o.lt;simp only[World.size_setCell]at hszn;have H:=hI (xV (S:=w9.1.size) [[59]] S9.o.ps (by simp) (by simp) (by simp));simp only[List.map,List.length]at H;go_wp2_with fail
    refine(H.o).mono ?_;rintro e w10 (⟨l10,he10,rfl,hP10,hg10⟩ | ⟨ln,c,code,he10,rfl,hg10⟩);rotate_left
    ·refine⟨rfl,?_⟩;have hbad:(jJ rec n d) (t :: r)=.bad ln c code:=by simp only[bF,if_false,if_true,reduceIte,bN,bM,bO,bU,bP,bV,bW,bB,bA,bT,lN,lC,lA,jJ,hf0,hf1,hf2,PR.bind,qX,HE5.o,HE6.o,HE9.o,he10]
     rw[hbad];exact S9.o.pan ⟨rfl,hg10⟩
    have S10:=hI (S9.o.call hP10 hg10);have N10:=hI (N9.o.call hg10 (by omega));clear S9 N9;have HE10:=hI he10;clear H he10 hP10 hg10;have S9:=S10.o;have N9:=N10.o;have hs1:=S9.lt;have hs2:=N9.lt;try simp only[World.size_setCell,World.size_alloc]at hs1 hs2
    have hr:=S9.res;have⟨r0,r1',r2,r3,r4,r5,_⟩:=hr.a;have⟨g0,g1,g2,g3,g4,g5,_⟩:=hr.b;clear hr;have hq:=N9.nd;have⟨qn0,qn1,qn2,qn3,qn4,qn5,_⟩:=hq.a;clear hq;have HS9:=hI S9;have HN9:=hI N9;clear S9 N9 S10 N10;unfold qP at qn0;go_wp2
    refine bodyPost_ret (v:=qZ (.mk qP [] 0 t.line t.col [t5,t9]) (.slice qq9 nn9 cc9)) (by simp[results,results146,go_sem,qZ,qQ.kind,qQ.text,qQ.num,qQ.line,qQ.col,qQ.kids,qY,qG,qC,qO,zB,zD,zX,qE,kIf,zS,qA,qV,qF,qD,qP,qW,qN,zW,zM,qL,qM,qT,zK,zL,qH,zA, *]) rfl ?_;have hgood:(jJ rec n d) (t :: r)=.ok (.mk qP [] 0 t.line t.col [t5,t9]) l10:=by simp only[bF,if_false,if_true,reduceIte,bN,bM,bO,bU,bP,bV,bW,bB,bA,bT,lN,lC,lA,jJ,hf0,hf1,hf2,PR.bind,qX,HE5.o,HE6.o,HE9.o,HE10.o]
    rw[hgood];exact HS9.o.fin (HN9.o.bd.mono (by omega)) _ _ _ _ _ _
   case true =>
    have H:=hI (qX8 B (t1 :: r1) d _ S7.o.ps);rw[hf2]at H;go_wp2_with fail
    refine(H.o).mono ?_;rintro e w8 ⟨rfl,hb8⟩;have S8:=hI (S7.o.below hb8);have N8:=hI (N7.o.below hb8);clear S7 N7;clear H hb8;have hk0:=N8.o.nd.c0;have hkf:=N8.o.nd.f 0 nL;have S9:=hI (S8.o.setN hwN 0 (.string ⟨qN.toArray⟩));have N9:=hI (N8.o.setK qN);clear S8 N8;have hnoc:qQz rec n d (t1 :: r1)≠.out:=fun e=>HNO.o (by simp only[bF,if_false,if_true,reduceIte,bN,bM,bO,bU,bP,bV,bW,bB,bA,bT,lN,lC,lA,jJ,hf0,hf1,hf2,PR.bind,qX,HE5.o,HE6.o,e])
    have HNOC:=hI hnoc;clear hnoc;have S10d:=hI S9.o.drew;have N10d:=hI N9.o.drew;clear S9 N9;go_wp2_with fail
    have hcl:=N10d.o.nd.c5;refine wRg (S:=fun w'=>w'.cell? ⟨w3.1.size,5,none⟩=some (.slice qq5 nn5 cc5)) 5 ?_;refine wTk 0 44 (.pointer (some ⟨w3.1.size,5,none⟩)) ?_ hcl ?_
    ·intro _ y;go_simp
    refine wTk 1 45 (.slice qq5 nn5 cc5) ?_ hcl ?_
    ·intro _ y;go_simp
    refine wTk 2 46 (.pointer (some ⟨B,0,none⟩)) ?_ hcl ?_
    ·intro _ y;go_simp
    refine wOn 3 fun K hK=>?_
    go_simp;have HC:=HCL.o B (t1 :: r1) _ S10d.o.ps HNOC.o;refine HC.mono ?_;intro e w10a hq;rcases hq.cases HNOC.o with⟨t10,l10,q10,n10,c10,he10,rfl,hb6,hP6,hg6⟩ | ⟨ln,c,code,he10,rfl,hg6⟩;rotate_left
    ·refine⟨rfl,?_⟩;have hbad:(jJ rec n d) (t :: r)=.bad ln c code:=by simp only[bF,if_false,if_true,reduceIte,bN,bM,bO,bU,bP,bV,bW,bB,bA,bT,lN,lC,lA,jJ,hf0,hf1,hf2,PR.bind,qX,HE5.o,HE6.o,he10]
     rw[hbad];exact S10d.o.pan ⟨rfl,hg6⟩
    have S6:=hI (S10d.o.call hP6 hg6);have N6:=hI (N10d.o.call hg6 (by omega));have HB6:=hI hb6;have hbl:=N10d.o.bd.lt;have c6':=N6.o.nd.c5;have f6':=N6.o.nd.f 5 nL;have hs6:=N6.o.lt;have hsz5:=N10d.o.lt;have hsz6:=hg6.size;clear hP6 hg6 hb6 HC hq S10d N10d;unfold qZ;refine kK hK c6' ?_;clear hK K;refine wOn 4 fun K hK=>?_
    go_simp;refine kK hK (by go_simp) ?_;clear hK K;refine wOn 5 fun K hK=>?_
    refine qQq (dd:=49) (t:=t10) (u:=.slice q10 n10 c10) _ _ rfl rfl N6.o.bd HB6.o (by omega) (fun g hg=>(hbl g hg).2) hsz6 rfl rfl rfl (by simp) (fun v7 w10 hb7 hg7=>?_);refine kD hK ?_;clear hK K;obtain⟨qq10,nn10,cc10,rfl⟩:=hb7.shape;have hff:=qZ8 S6.o N6.o hwN hb7 hg7;have hs7:w10.frozen? ⟨w3.1.size,5,none⟩=false:=((N6.o.nd.grown (World.grownBy_alloc w10a _ none) (by simp)).grown hg7 (fun e=>by have:=(hbl _ e.symm).1;omega)).f 5 nL;have hd7:=((N6.o.nd.grown (World.grownBy_alloc w10a _ none) (by simp)).grown hg7 (fun e=>by have:=(hbl _ e.symm).1;omega)).c5;have HFF:=hI hff;clear hff hb7 hg7 S6 N6 HB6 hbl hcl c6' f6' hsz5 hsz6;try simp only[Act.put,pZa,pZb,pZc]
    refine wOn 6 fun K hK=>?_
    go_simp;refine kD hK ?_;clear hK K;refine wOn 7 fun K hK=>?_
    go_simp;refine kD hK ?_;clear hK K;refine wDn ?_ _;clear hs7 hd7;have S10:=hI HFF.o.1;have N10:=hI HFF.o.2;have HE10:=hI he10;clear HFF he10 HNOC;have hszn:=N10.o.lt;simp only[World.size_setCell]at hszn;have H:=hI (xV (S:=w10.1.size) [[59]] S10.o.ps (by simp) (by simp) (by simp));simp only[List.map,List.length]at H;go_wp2_with fail
    refine(H.o).mono ?_;rintro e w11 (⟨l11,he11,rfl,hP11,hg11⟩ | ⟨ln,c,code,he11,rfl,hg11⟩);rotate_left
    ·refine⟨rfl,?_⟩;have hbad:(jJ rec n d) (t :: r)=.bad ln c code:=by simp only[bF,if_false,if_true,reduceIte,bN,bM,bO,bU,bP,bV,bW,bB,bA,bT,lN,lC,lA,jJ,hf0,hf1,hf2,PR.bind,qX,HE5.o,HE6.o,HE10.o,he11]
     rw[hbad];exact S10.o.pan ⟨rfl,hg11⟩
    have S11:=hI (S10.o.call hP11 hg11);have N11:=hI (N10.o.call hg11 (by omega));clear S10 N10;have HE11:=hI he11;clear H he11 hP11 hg11;have S9:=S11.o;have N9:=N11.o;have hs1:=S9.lt;have hs2:=N9.lt;try simp only[World.size_setCell,World.size_alloc]at hs1 hs2
    have hr:=S9.res;have⟨r0,r1',r2,r3,r4,r5,_⟩:=hr.a;have⟨g0,g1,g2,g3,g4,g5,_⟩:=hr.b;clear hr;have hq:=N9.nd;have⟨qn0,qn1,qn2,qn3,qn4,qn5,_⟩:=hq.a;clear hq;have HS9:=hI S9;have HN9:=hI N9;clear S9 N9 S11 N11;unfold qN at qn0;go_wp2
    refine bodyPost_ret (v:=qZ (.mk qN [] 0 t.line t.col [t5,t10]) (.slice qq10 nn10 cc10)) (by simp[results,results146,go_sem,qZ,qQ.kind,qQ.text,qQ.num,qQ.line,qQ.col,qQ.kids,qY,qG,qC,qO,zB,zD,zX,qE,kIf,zS,qA,qV,qF,qD,qP,qW,qN,zW,zM,qL,qM,qT,zK,zL,qH,zA, *]) rfl ?_;have hgood:(jJ rec n d) (t :: r)=.ok (.mk qN [] 0 t.line t.col [t5,t10]) l11:=by simp only[bF,if_false,if_true,reduceIte,bN,bM,bO,bU,bP,bV,bW,bB,bA,bT,lN,lC,lA,jJ,hf0,hf1,hf2,PR.bind,qX,HE5.o,HE6.o,HE10.o,HE11.o]
    rw[hgood];exact HS9.o.fin (HN9.o.bd.mono (by omega)) _ _ _ _ _ _
  case true =>
   have H:=hI (wN B t1 r1 d qW _ S6.o.ps);rw[hf1]at H;go_wp2_with fail
   refine(H.o).mono ?_;rintro e w7 ⟨rfl,hb7⟩;have S7:=hI (S6.o.below hb7);have N7:=hI (N6.o.below hb7);clear S6 N6;clear H hb7;have H:=hI (xV (S:=w7.1.size) [qW,[40],[41]] S7.o.ps (by simp[*,qY,qG,qC,qO,zB,zD,zX,qE,kIf,zS,qA,qV,qF,qD,qP,qW,qN,zW,zM,qL,qM,qT,zK,zL,qH,zA]) (by simp) (by simp));simp only[List.map,List.length]at H;go_wp2_with fail
   refine(H.o).mono ?_;rintro e w8 (⟨l8,he8,rfl,hP8,hg8⟩ | ⟨ln,c,code,he8,rfl,hg8⟩);rotate_left
   ·refine⟨rfl,?_⟩;have hbad:(jJ rec n d) (t :: r)=.bad ln c code:=by simp only[bF,if_false,if_true,reduceIte,bN,bM,bO,bU,bP,bV,bW,bB,bA,bT,lN,lC,lA,jJ,hf0,hf1,PR.bind,qX,HE5.o,HE6.o,he8]
    rw[hbad];exact S7.o.pan ⟨rfl,hg8⟩
   have S8:=hI (S7.o.call hP8 hg8);have N8:=hI (N7.o.call hg8 (by omega));clear S7 N7;have HE8:=hI he8;clear H he8 hP8 hg8;have hk0:=N8.o.nd.c0;have hkf:=N8.o.nd.f 0 nL;have S9:=hI (S8.o.setN hwN 0 (.string ⟨qW.toArray⟩));have N9:=hI (N8.o.setK qW);clear S8 N8;have H:=hI (xV (S:=w8.1.size) [[59]] S9.o.ps (by simp) (by simp) (by simp));simp only[List.map,List.length]at H;go_wp2_with fail
   refine(H.o).mono ?_;rintro e w10 (⟨l10,he10,rfl,hP10,hg10⟩ | ⟨ln,c,code,he10,rfl,hg10⟩);rotate_left
   ·refine⟨rfl,?_⟩;have hbad:(jJ rec n d) (t :: r)=.bad ln c code:=by simp only[bF,if_false,if_true,reduceIte,bN,bM,bO,bU,bP,bV,bW,bB,bA,bT,lN,lC,lA,jJ,hf0,hf1,PR.bind,qX,HE5.o,HE6.o,HE8.o,he10]
    rw[hbad];exact S9.o.pan ⟨rfl,hg10⟩
   have S10:=hI (S9.o.call hP10 hg10);have N10:=hI (N9.o.call hg10 (by omega));clear S9 N9;have HE10:=hI he10;clear H he10 hP10 hg10;have S9:=S10.o;have N9:=N10.o;have hs1:=S9.lt;have hs2:=N9.lt;try simp only[World.size_setCell,World.size_alloc]at hs1 hs2
   have hr:=S9.res;have⟨r0,r1',r2,r3,r4,r5,_⟩:=hr.a;have⟨g0,g1,g2,g3,g4,g5,_⟩:=hr.b;clear hr;have hq:=N9.nd;have⟨qn0,qn1,qn2,qn3,qn4,qn5,_⟩:=hq.a;clear hq;have HS9:=hI S9;have HN9:=hI N9;clear S9 N9 S10 N10;unfold qW at qn0;go_wp2
   refine bodyPost_ret (v:=qZ (.mk qW [] 0 t.line t.col [t5]) (.slice qq5 nn5 cc5)) (by simp[results,results146,go_sem,qZ,qQ.kind,qQ.text,qQ.num,qQ.line,qQ.col,qQ.kids,qY,qG,qC,qO,zB,zD,zX,qE,kIf,zS,qA,qV,qF,qD,qP,qW,qN,zW,zM,qL,qM,qT,zK,zL,qH,zA, *]) rfl ?_;have hgood:(jJ rec n d) (t :: r)=.ok (.mk qW [] 0 t.line t.col [t5]) l10:=by simp only[bF,if_false,if_true,reduceIte,bN,bM,bO,bU,bP,bV,bW,bB,bA,bT,lN,lC,lA,jJ,hf0,hf1,PR.bind,qX,HE5.o,HE6.o,HE8.o,HE10.o]
   rw[hgood];exact HS9.o.fin (HN9.o.bd.mono (by omega)) _ _ _ _ _ _
 case true =>
  have H:=hI (qX8 B (t :: r) d _ S0.o.ps);rw[hf0]at H;go_wp2_with fail
  refine(H.o).mono ?_;rintro e w1 ⟨rfl,hb1⟩;have S1:=hI (S0.o.below hb1);clear S0;clear H hb1;have hnoc:qQz rec n d (t :: r)≠.out:=fun e=>HNO.o (by simp only[bF,if_false,if_true,reduceIte,bN,bM,bO,bU,bP,bV,bW,bB,bA,bT,lN,lC,lA,jJ,hf0,PR.bind,qX,e])
  have HC:=hI (HCL.o B (t :: r) _ S1.o.ps hnoc);have HNOC:=hI hnoc;clear hnoc;go_wp2_with fail
  refine(HC.o).mono ?_;intro e w2 hq;rcases hq.cases HNOC.o with⟨t2,l2,q2,n2,c2,he2,rfl,hb2,hP2,hg2⟩ | ⟨ln,c,code,he2,rfl,hg2⟩;rotate_left
  ·refine⟨rfl,?_⟩;have hbad:(jJ rec n d) (t :: r)=.bad ln c code:=by simp only[bF,if_false,if_true,reduceIte,bN,bM,bO,bU,bP,bV,bW,bB,bA,bT,lN,lC,lA,jJ,hf0,PR.bind,qX,he2]
   rw[hbad];exact S1.o.pan ⟨rfl,hg2⟩
  have hwN:w.1.size < w2.1.size:=(S1.o.call hP2 hg2).lt;have N2:=hI (Hd.put t2 (hb2.mono (lo':=w.1.size+1) S1.o.lt));have S2:=hI ((S1.o.call hP2 hg2).alloc (wD t2.kind t2.text t2.num t2.line t2.col (.slice q2 n2 c2)));have HE2:=hI he2;clear hq hb2 hP2 hg2 he2 HC HNOC S1;unfold qZ wD at *;have H:=hI (xV (S:=w2.1.size+1) [[59]] S2.o.ps (by simp) (by simp) (by simp));simp only[List.map,List.length]at H;go_wp2_with fail
  refine(H.o).mono ?_;rintro e w3 (⟨l3,he3,rfl,hP3,hg3⟩ | ⟨ln,c,code,he3,rfl,hg3⟩);rotate_left
  ·refine⟨rfl,?_⟩;have hbad:(jJ rec n d) (t :: r)=.bad ln c code:=by simp only[bF,if_false,if_true,reduceIte,bN,bM,bO,bU,bP,bV,bW,bB,bA,bT,lN,lC,lA,jJ,hf0,PR.bind,qX,HE2.o,he3]
   rw[hbad];exact S2.o.pan ⟨rfl,hg3⟩
  have S3:=hI (S2.o.call hP3 hg3);have N3:=hI (N2.o.call hg3 (by omega));clear S2 N2;have HE3:=hI he3;clear H he3 hP3 hg3;have S9:=S3.o;have N9:=N3.o;have hs1:=S9.lt;have hs2:=N9.lt;try simp only[World.size_setCell,World.size_alloc]at hs1 hs2
  have hr:=S9.res;have⟨r0,r1',r2,r3,r4,r5,_⟩:=hr.a;have⟨g0,g1,g2,g3,g4,g5,_⟩:=hr.b;clear hr;have hq:=N9.nd;have⟨qn0,qn1,qn2,qn3,qn4,qn5,_⟩:=hq.a;clear hq;have HS9:=hI S9;have HN9:=hI N9;clear S9 N9 S3 N3;skip
  go_wp2
  refine bodyPost_ret (v:=qZ t2 (.slice q2 n2 c2)) (by simp[results,results146,go_sem,qZ,qQ.kind,qQ.text,qQ.num,qQ.line,qQ.col,qQ.kids,qY,qG,qC,qO,zB,zD,zX,qE,kIf,zS,qA,qV,qF,qD,qP,qW,qN,zW,zM,qL,qM,qT,zK,zL,qH,zA, *]) rfl ?_;have hgood:(jJ rec n d) (t :: r)=.ok t2 l3:=by simp only[bF,if_false,if_true,reduceIte,bN,bM,bO,bU,bP,bV,bW,bB,bA,bT,lN,lC,lA,jJ,hf0,PR.bind,qX,HE2.o,HE3.o]
  rw[hgood];exact HS9.o.fin (HN9.o.bd.mono (by omega)) _ _ _ _ _ _
theorem jA{P:Program}{ops:Array Oper}{Q:Exit->Act->World->Prop}{md:Region.Mode}{S:World->Prop}{tail:Nat->Bool}{i j:Nat}{o o':Oper}{fuel:Nat}{listed:Array Bool}{a:Act}{w:World}(hi:ops[i]? = some o)(hj:ops[j]? = some o')(hr:Region.ready md ops listed=[i,j])(hw:Region.wanted o (yielded ops a.tmps)=true)(hw':Region.wanted o' (yielded ops a.tmps)=true)
 (h:∀ K:Act->World->Prop,Shut (∀ a' w',(tail i=false->S w')->vR P md ops Q S tail fuel (listed.setIfInBounds i true) a' w'->K a' w')->o.wp P a w K Q)
 (h':∀ K:Act->World->Prop,Shut (∀ a' w',(tail j=false->S w')->vR P md ops Q S tail fuel (listed.setIfInBounds j true) a' w'->K a' w')->o'.wp P a w K Q):vR P md ops Q S tail (fuel+1) listed a w:=by
 refine⟨fun h0=>(by rw[hr]at h0;cases h0),fun k hk=>?_⟩;rw[hr]at hk;have hk':k=i\/k=j:=by simpa using hk
 rcases hk' with rfl | rfl
 ·unfold wpOp;simp only[hi,hw,if_true];exact .inl (h _ (fun a' w' h1 h2=>⟨h1,h2⟩))
 ·unfold wpOp;simp only[hj,hw',if_true];exact .inl (h' _ (fun a' w' h1 h2=>⟨h1,h2⟩))
def CutPost(F:Act->Nat->Act)(a:Act)(I:Nat->World->Prop)(e:Exit)(a':Act)(w':World):Prop :=
 match e with
 | .normal=>∃ N,a'=F a N/\I N w'
 | _=>False
theorem qXG{P:Program}{c:Code}{Q:Exit->Act->World->Prop}{a:Act}{w:World}(F:Act->Nat->Act)(I:Nat->World->Prop)(h:c.wp P (CutPost F a I) a w)(k:∀ N w',I N w'->Q .normal (F a N) w'):c.wp P Q a w:=by
 refine wp_mono h ?_;intro e a' w' hq;cases e with
 | normal =>
  obtain⟨N,rfl,hI⟩:=hq;exact k N w' hI
 | exit id=>exact hq.elim
 | goto l=>exact hq.elim
 | ret=>exact hq.elim
 | panic ch=>exact hq.elim
 | outgrown=>exact hq.elim
def PanPost(ch:List PanicEntry)(I:World->Prop)(e:Exit)(a':Act)(w':World):Prop :=
 match e with
 | .panic c=>a'.defers=[]/\c=ch/\I w'
 | _=>False
theorem wp_pan{P:Program}{c:Code}{Q:Exit->Act->World->Prop}{a:Act}{w:World}(ch:List PanicEntry)(I:World->Prop)(h:c.wp P (PanPost ch I) a w)(k:∀ a' w',a'.defers=[]->I w'->Q (.panic ch) a' w'):c.wp P Q a w:=by
 refine wp_mono h ?_;intro e a' w' hq;cases e with
 | normal=>exact hq.elim
 | exit id=>exact hq.elim
 | goto l=>exact hq.elim
 | ret=>exact hq.elim
 | panic ch =>
  obtain⟨h1,rfl,h2⟩:=hq;exact k _ _ h1 h2
 | outgrown=>exact hq.elim
theorem zI.six{b:Nat}{k x:List UInt8}{n ln c:Int}{v:Value}{w:World}(h:zI b k x n ln c v w)(k' x':List UInt8)(n' ln' c':Int)(v':Value) :
 zI b k' x' n' ln' c' v' (six w b (.string ⟨k'.toArray⟩) (.string ⟨x'.toArray⟩) (.int .u64 n') (.int .i64 ln') (.int .i64 c') v'):=by
 have⟨h0,h1,h2,h3,h4,h5,_⟩:=h.a;have hf:=h.f;unfold Go.Proofs.YtiajhekdhhhghaaGreatDoor.six;constructor
 case f=>intro k hk;have:=hf k hk;simp[go_sem, *]
 all_goals simp[go_sem, *]
theorem St.six{w0:World}{B:Nat}{l:List Tok}{d:Int}{w:World}(h:St w0 B l d w){k:Nat}(hk:w0.1.size < k)(a b c d' e f:Value):St w0 B l d (six w k a b c d' e f):=h.local (vQ w k a b c d' e f) (fun j e=>by cases e;exact hk)
theorem qUS(rec:NT->Int->List Tok->PR qQ)(d:Int)(he:yR 181)(hop:vM 181 (fun p=>#[p]) (d+1) (rec .operand (d+1)))(hpar:vM 185 (fun p=>#[p]) d (yJ rec d))(htar:vM 161 (fun p=>#[p]) d (xF rec d)):vM 181 (fun p=>#[p]) d (jU rec d):=by
 intro B l w h hno;obtain⟨t,r,rfl⟩:=h.ends.ne;have S0:=St.start h;have hBw:=S0.hB;have HNO:=Lib.hid hno;have S0:=Lib.hid S0;have hmf:=zT;have hft:=vS;have hfk:=yW;have HOP:=Lib.hid (wT 181 d (rec .operand) he hop);have HPA:=Lib.hid hpar;have HTR:=Lib.hid htar;have HNU:=Lib.hid (qV7 d);clear he hop hpar htar;clear h hno;unfold jY at *;go_enter func181,ntmps181
 have H:=Lib.hid (kY B t r d _ S0.o.ps);go_wp2_with fail
 refine(H.o).mono ?_;rintro e w1 ⟨rfl,hb1⟩;have S1:=Lib.hid (S0.o.below hb1);clear S0;clear H hb1;unfold vT xA at *;have hwT:w.1.size < w1.1.size:=S1.o.lt;have L2:=Lib.hid (wH.newO t w1);have S2:=Lib.hid (S1.o.alloc (qXT t));clear S1;unfold qXT at *;have l0:=L2.o.c0;have l1:=L2.o.c1;have l2':=L2.o.c2;have l3':=L2.o.c3;have l4':=L2.o.c4;cases hk1:(t.kind == 1);case false =>
  cases hk2:(t.text == zL);case false =>
   have hm2:(t.text == [116,114,117,101])=false:=hk2;cases hk3:(t.text == qH);case false =>
    have hm3:(t.text == [102,97,108,115,101])=false:=hk3;cases hk4:(qXD t.text);case false =>
     have H:=Lib.hid (qVR t.text);rw[hk4]at H;go_wp2_with fail
     refine(H.o _).mono ?_;rintro e w3 ⟨rfl,rfl⟩;clear H;cases hk5:(t.text == [40]);case false =>
      clear l0 l1 l2' l3' l4';have hnoc:xF rec d (t :: r)≠.out:=fun e=>HNO.o (by simp only[bF,if_false,if_true,reduceIte,bN,bM,bO,bU,bP,bV,bW,bB,bA,bT,lN,lC,lA,jU,jV,hk1,hk2,hk3,hk4,hk5,PR.bind,qX,e])
      have HC:=Lib.hid (HTR.o B (t :: r) _ S2.o.ps hnoc);have HNOC:=Lib.hid hnoc;clear hnoc;go_wp2_with fail
      refine(HC.o).mono ?_;intro e w5 hq;rcases hq.cases HNOC.o with⟨t5,l5,q5,n5,c5,he5,rfl,hb5,hP5,hg5⟩ | ⟨ln,c,code,he5,rfl,hg5⟩;rotate_left
      ·refine⟨rfl,?_⟩;have hbad:(jU rec d) (t :: r)=.bad ln c code:=by simp only[bF,if_false,if_true,reduceIte,bN,bM,bO,bU,bP,bV,bW,bB,bA,bT,lN,lC,lA,jU,jV,hk1,hk2,hk3,hk4,hk5,PR.bind,qX,he5]
       rw[hbad];exact S2.o.pan ⟨rfl,hg5⟩
      have S9:=S2.o.call hP5 hg5;have HB:=Lib.hid (hb5.mono (lo':=w.1.size+1) S2.o.lt);have HE:=Lib.hid he5;have hs1:=S9.lt;have hr:=S9.res;have⟨r0,r1',r2,r3,r4,r5,_⟩:=hr.a;have⟨g0,g1,g2,g3,g4,g5,_⟩:=hr.b;clear hr;have HS9:=Lib.hid S9;clear S9 hq hb5 hP5 hg5 he5 HC S2 L2;unfold qZ;go_wp2
      refine bodyPost_ret (v:=qZ t5 (.slice q5 n5 c5)) (by simp[results,results181,go_sem,qZ, *]) rfl ?_;have hgood:(jU rec d) (t :: r)=.ok t5 l5:=by simp only[bF,if_false,if_true,reduceIte,bN,bM,bO,bU,bP,bV,bW,bB,bA,bT,lN,lC,lA,jU,jV,hk1,hk2,hk3,hk4,hk5,PR.bind,qX,HE.o]
      rw[hgood];exact HS9.o.fin HB.o _ _ _ _ _ _
     case true =>
      clear l0 l1 l2' l3' l4';have hnoc:yJ rec d (t :: r)≠.out:=fun e=>HNO.o (by simp only[bF,if_false,if_true,reduceIte,bN,bM,bO,bU,bP,bV,bW,bB,bA,bT,lN,lC,lA,jU,jV,hk1,hk2,hk3,hk4,hk5,PR.bind,qX,e])
      have HC:=Lib.hid (HPA.o B (t :: r) _ S2.o.ps hnoc);have HNOC:=Lib.hid hnoc;clear hnoc;go_wp2_with fail
      refine(HC.o).mono ?_;intro e w5 hq;rcases hq.cases HNOC.o with⟨t5,l5,q5,n5,c5,he5,rfl,hb5,hP5,hg5⟩ | ⟨ln,c,code,he5,rfl,hg5⟩;rotate_left
      ·refine⟨rfl,?_⟩;have hbad:(jU rec d) (t :: r)=.bad ln c code:=by simp only[bF,if_false,if_true,reduceIte,bN,bM,bO,bU,bP,bV,bW,bB,bA,bT,lN,lC,lA,jU,jV,hk1,hk2,hk3,hk4,hk5,PR.bind,qX,he5]
       rw[hbad];exact S2.o.pan ⟨rfl,hg5⟩
      have S9:=S2.o.call hP5 hg5;have HB:=Lib.hid (hb5.mono (lo':=w.1.size+1) S2.o.lt);have HE:=Lib.hid he5;have hs1:=S9.lt;have hr:=S9.res;have⟨r0,r1',r2,r3,r4,r5,_⟩:=hr.a;have⟨g0,g1,g2,g3,g4,g5,_⟩:=hr.b;clear hr;have HS9:=Lib.hid S9;clear S9 hq hb5 hP5 hg5 he5 HC S2 L2;unfold qZ;go_wp2
      refine bodyPost_ret (v:=qZ t5 (.slice q5 n5 c5)) (by simp[results,results181,go_sem,qZ, *]) rfl ?_;have hgood:(jU rec d) (t :: r)=.ok t5 l5:=by simp only[bF,if_false,if_true,reduceIte,bN,bM,bO,bU,bP,bV,bW,bB,bA,bT,lN,lC,lA,jU,jV,hk1,hk2,hk3,hk4,hk5,PR.bind,qX,HE.o]
      rw[hgood];exact HS9.o.fin HB.o _ _ _ _ _ _
    case true =>
     have H:=Lib.hid (qVR t.text);rw[hk4]at H;go_wp2_with fail
     refine(H.o _).mono ?_;rintro e w3 ⟨rfl,rfl⟩;clear H;have hte:t.text≠[]:=fun e=>by rw[e]at hk4;exact absurd hk4 (by decide)
     clear l0 l1 l2' l3' l4';go_wp2_with fail
     refine qXG (fun a N=>((((((a.put (some 31) (.agg #[.int .i64 t.kind, .string ⟨t.text.toArray⟩, .int .u64 t.num, .int .i64 t.line, .int .i64 t.col])).put (some 32) (.pointer (some ⟨B,0,none⟩))).put (some 33) (.agg #[.int .i64 t.kind, .string ⟨t.text.toArray⟩, .int .u64 t.num, .int .i64 t.line, .int .i64 t.col])).put (some 34) (.string ⟨t.text.toArray⟩)).put (some 35) (.agg #[.string ⟨qT.toArray⟩, .string ⟨t.text.toArray⟩, .int .u64 0, .int .i64 t.line, .int .i64 t.col, .slice none 0 0])).put (some 4) (.pointer (some ⟨N,0,none⟩)))) (fun N w'=>St w B r d w'/\Nd N qT t.text 0 t.line t.col (.slice none 0 0) [] w'/\w.1.size < N/\wH w1.1.size t w') ?_ ?_
     ·refine wW (S:=fun w'=>wH w1.1.size t w') (tail:=fun _=>false) (by kernel_rfl) ?_;change vR _ _ _ _ _ _ _ _ _ (World.drew _);have SS:=Lib.hid S2.o.drew;have LL:=Lib.hid (L2.o.below (Below.refl _ _).drew);generalize World.drew _=wd at *;have hwd:=SS.o.lt;have hwl:=LL.o.lt;refine wTk 0 31 (.agg #[.int .i64 t.kind, .string ⟨t.text.toArray⟩, .int .u64 t.num, .int .i64 t.line, .int .i64 t.col]) ?_ LL.o ?_
      ·intro _ y;have⟨h0,h1,h2,h3,h4,_⟩:=y.a;go_simp
      refine wTk 1 32 (.pointer (some ⟨B,0,none⟩)) ?_ LL.o ?_
      ·intro _ y;go_simp
      refine jA (i:=2) (j:=5) rfl rfl (by kernel_rfl) (by rfl) (by rfl) (fun K hK=>?_) (fun K hK=>?_)
      ·go_simp;refine(vB B t r d _ SS.o.ps hte).mono ?_;rintro e v5 ⟨rfl,hP,hg⟩;have S5x:=Lib.hid (SS.o.call hP hg);have L5x:=Lib.hid (LL.o.grown hg (by simp;omega));have hss5:=S5x.o.lt;have hll5:=L5x.o.lt;unfold vT xA;refine kK hK L5x.o ?_;clear hK K;refine wTk 3 34 (.string ⟨t.text.toArray⟩) ?_ L5x.o ?_
       ·intro _ y;go_simp
       refine jA (i:=4) (j:=5) rfl rfl (by kernel_rfl) (by rfl) (by rfl) (fun K hK=>?_) (fun K hK=>?_)
       ·go_simp;have HN:=jI t ⟨qT.toArray⟩ ⟨(t.text).toArray⟩;unfold vT xA at HN;refine(HN _).mono ?_;rintro e v9 ⟨rfl,hb⟩;have S9x:=Lib.hid (S5x.o.below hb);have L9x:=Lib.hid (L5x.o.below hb);have hss9:=S9x.o.lt;have hll9:=L9x.o.lt;refine kK hK L9x.o ?_;clear hK K;refine wOn 5 fun K hK=>?_
        go_simp;refine kK hK (L9x.o.below ((Below.refl _ _).alloc (Nat.le_refl _) _)) ?_;clear hK K;refine wOn 6 fun K hK=>?_
        go_simp;refine kK hK (L9x.o.below ((Below.refl _ _).alloc (Nat.le_refl _) _)) ?_;clear hK K;refine wDn ?_ _;exact⟨_,by first | rfl | (simp only[Act.put,pZa,pZb,pZc];done),S9x.o.alloc _,Nd.new qT t.text 0 t.line t.col _,S9x.o.lt,L9x.o.below ((Below.refl _ _).alloc (Nat.le_refl _) _)⟩
       ·go_simp;have S11a:=Lib.hid (S5x.o.alloc jY);have L11a:=Lib.hid (L5x.o.below ((Below.refl _ _).alloc (Nat.le_refl _) jY));have N11a:=Lib.hid (zI.new [] [] 0 0 0 (.slice none 0 0) v5);have hNs11:=N11a.o.lt;have hlt11:=S5x.o.lt;unfold jY at *;refine kK hK L11a.o ?_;clear hK K;refine wOn 4 fun K hK=>?_
        go_simp;have HN:=jI t ⟨qT.toArray⟩ ⟨(t.text).toArray⟩;unfold vT xA at HN;refine(HN _).mono ?_;rintro e v13 ⟨rfl,hb⟩;have S13x:=Lib.hid (S11a.o.below hb);have L13x:=Lib.hid (L11a.o.below hb);have N13x:=Lib.hid (N11a.o.below hb);have hNs13:=N13x.o.lt;have hss13:=S13x.o.lt;have hll13:=L13x.o.lt;refine kK hK L13x.o ?_;clear hK K;have⟨a0,a1,a2,a3,a4,a5,_⟩:=N13x.o.a;have⟨b0,b1,b2,b3,b4,b5,_⟩:=N13x.o.b;refine wOn 6 fun K hK=>?_
        go_simp;refine kK hK (L13x.o.grown (vQ _ v5.1.size _ _ _ _ _ _) (by simp;omega)) ?_;clear hK K;refine wDn ?_ _;exact⟨_,by first | rfl | (simp only[Act.put,pZa,pZb,pZc];done),S13x.o.six (by omega) _ _ _ _ _ _,⟨N13x.o.six qT t.text 0 t.line t.col (.slice none 0 0),zC.nil _ _⟩,by omega,L13x.o.grown (vQ _ v5.1.size _ _ _ _ _ _) (by simp;omega)⟩
      ·go_simp;have S15a:=Lib.hid (SS.o.alloc jY);have L15a:=Lib.hid (LL.o.below ((Below.refl _ _).alloc (Nat.le_refl _) jY));have N15a:=Lib.hid (zI.new [] [] 0 0 0 (.slice none 0 0) wd);have hNs15:=N15a.o.lt;have hlt15:=SS.o.lt;unfold jY at *;refine kK hK L15a.o ?_;clear hK K;refine wOn 2 fun K hK=>?_
       go_simp;refine(vB B t r d _ S15a.o.ps hte).mono ?_;rintro e v17 ⟨rfl,hP,hg⟩;have S17x:=Lib.hid (S15a.o.call hP hg);have L17x:=Lib.hid (L15a.o.grown hg (by simp;omega));have N17x:=Lib.hid (N15a.o.grown hg (by simp;omega));have hNs17:=N17x.o.lt;have hss17:=S17x.o.lt;have hll17:=L17x.o.lt;unfold vT xA;refine kK hK L17x.o ?_;clear hK K;refine wTk 3 34 (.string ⟨t.text.toArray⟩) ?_ L17x.o ?_
       ·intro _ y;go_simp
       refine wOn 4 fun K hK=>?_
       go_simp;have HN:=jI t ⟨qT.toArray⟩ ⟨(t.text).toArray⟩;unfold vT xA at HN;refine(HN _).mono ?_;rintro e v20 ⟨rfl,hb⟩;have S20x:=Lib.hid (S17x.o.below hb);have L20x:=Lib.hid (L17x.o.below hb);have N20x:=Lib.hid (N17x.o.below hb);have hNs20:=N20x.o.lt;have hss20:=S20x.o.lt;have hll20:=L20x.o.lt;refine kK hK L20x.o ?_;clear hK K;have⟨a0,a1,a2,a3,a4,a5,_⟩:=N20x.o.a;have⟨b0,b1,b2,b3,b4,b5,_⟩:=N20x.o.b;refine wOn 6 fun K hK=>?_
       go_simp;refine kK hK (L20x.o.grown (vQ _ wd.1.size _ _ _ _ _ _) (by simp;omega)) ?_;clear hK K;refine wDn ?_ _;exact⟨_,by first | rfl | (simp only[Act.put,pZa,pZb,pZc];done),S20x.o.six (by omega) _ _ _ _ _ _,⟨N20x.o.six qT t.text 0 t.line t.col (.slice none 0 0),zC.nil _ _⟩,by omega,L20x.o.grown (vQ _ wd.1.size _ _ _ _ _ _) (by simp;omega)⟩
     intro N w5 ⟨hS5,hN5,hwN,hL5⟩;try simp only[Act.put,pZa,pZb,pZc]
     have S5:=Lib.hid hS5;have N5:=Lib.hid hN5;clear hS5 hN5 hL5 S2 L2;have hnoc:xX d (rec .operand) r≠.out:=fun e=>HNO.o (by simp only[bF,if_false,if_true,reduceIte,bN,bM,bO,bU,bP,bV,bW,bB,bA,bT,lN,lC,lA,jU,jV,hk1,hk2,hk3,hk4,PR.bind,qX,e])
     have HC:=Lib.hid (HOP.o B r _ S5.o.ps hnoc);have HNOC:=Lib.hid hnoc;clear hnoc;go_wp2_with fail
     refine(HC.o).mono ?_;intro e w21 hq;rcases hq.cases HNOC.o with⟨t21,l21,q21,n21,c21,he21,rfl,hb21,hP21,hg21⟩ | ⟨ln,c,code,he21,rfl,hg21⟩;rotate_left
     ·refine⟨rfl,?_⟩;have hbad:(jU rec d) (t :: r)=.bad ln c code:=by simp only[bF,if_false,if_true,reduceIte,bN,bM,bO,bU,bP,bV,bW,bB,bA,bT,lN,lC,lA,jU,jV,hk1,hk2,hk3,hk4,PR.bind,qX,he21]
      rw[hbad];exact S5.o.pan ⟨rfl,hg21⟩
     have SC:=S5.o.call hP21 hg21;have NC:=N5.o.call hg21 (by omega);have hff:=qVb SC NC.nd hwN hb21 (Nat.succ_le_of_lt N5.o.lt) hg21.size;have HFF:=Lib.hid hff;have HE21:=Lib.hid he21;have hs1:=SC.lt;have hs2:=NC.lt;have hf5:=NC.nd.f 5 nL;have hr:=SC.res;have⟨r0,r1',r2,r3,r4,r5,_⟩:=hr.a;have⟨g0,g1,g2,g3,g4,g5,_⟩:=hr.b;clear hr;have hq:=NC.nd;have⟨qn0,qn1,qn2,qn3,qn4,qn5,_⟩:=hq.a;clear hq;clear hff hq hb21 hP21 hg21 he21 HC HNOC S5 N5 SC NC;unfold qZ;unfold qT at qn0;go_wp2
     refine bodyPost_ret (v:=qZ (.mk qT t.text 0 t.line t.col [t21]) (.slice (some ⟨w21.1.size,0,none⟩) 1 1)) (by simp[results,results181,go_sem,qZ,qQ.kind,qQ.text,qQ.num,qQ.line,qQ.col,qQ.kids,qY,qG,qC,qO,zB,zD,zX,qE,kIf,zS,qA,qV,qF,qD,qP,qW,qN,zW,zM,qL,qM,qT,zK,zL,qH,zA, *]) rfl ?_;have hgood:(jU rec d) (t :: r)=.ok (.mk qT t.text 0 t.line t.col [t21]) l21:=by simp only[bF,if_false,if_true,reduceIte,bN,bM,bO,bU,bP,bV,bW,bB,bA,bT,lN,lC,lA,jU,jV,hk1,hk2,hk3,hk4,PR.bind,qX,HE21.o]
     rw[hgood];exact HFF.o.1.finA (by simpa using hs1) (HFF.o.2.bd.mono (by omega)) _ _ _ _ _ _
   case true =>
    have hm3:(t.text == [102,97,108,115,101])=true:=hk3;have hte:t.text≠[]:=fun e=>by rw[e]at hm3;exact absurd hm3 (by decide)
    clear l0 l1 l2' l3' l4';go_wp2_with fail
    refine wW (S:=fun w'=>wH w1.1.size t w') (tail:=fun _=>false) (by kernel_rfl) ?_;change vR _ _ _ _ _ _ _ _ _ (World.drew _);have SS:=Lib.hid S2.o.drew;have LL:=Lib.hid (L2.o.below (Below.refl _ _).drew);generalize World.drew _=wd at *;have hwd:=SS.o.lt;have hwl:=LL.o.lt;refine wTk 0 22 (.agg #[.int .i64 t.kind, .string ⟨t.text.toArray⟩, .int .u64 t.num, .int .i64 t.line, .int .i64 t.col]) ?_ LL.o ?_
    ·intro _ y;have⟨h0,h1,h2,h3,h4,_⟩:=y.a;go_simp
    refine wTk 1 23 (.pointer (some ⟨B,0,none⟩)) ?_ LL.o ?_
    ·intro _ y;go_simp
    refine wOn 2 fun K hK=>?_
    go_simp;refine(vB B t r d _ SS.o.ps hte).mono ?_;rintro e v5 ⟨rfl,hP,hg⟩;have S5x:=Lib.hid (SS.o.call hP hg);have L5x:=Lib.hid (LL.o.grown hg (by simp;omega));unfold vT xA;refine kK hK L5x.o ?_;clear hK K;refine wTk 3 25 (.string ⟨t.text.toArray⟩) ?_ L5x.o ?_
    ·intro _ y;go_simp
    refine wOn 4 fun K hK=>?_
    go_simp;have HN:=jI t ⟨t.text.toArray⟩ ⟨#[]⟩;unfold vT xA at HN;refine(HN _).mono ?_;rintro e v6 ⟨rfl,hb⟩;have S6x:=Lib.hid (S5x.o.below hb);have L6x:=Lib.hid (L5x.o.below hb);refine kK hK L6x.o ?_;clear hK K;have hs1:=S6x.o.lt;have hs2:=L6x.o.lt;have hr:=S6x.o.res;have⟨r0,r1',r2,r3,r4,r5,_⟩:=hr.a;have⟨g0,g1,g2,g3,g4,g5,_⟩:=hr.b;clear hr;refine wOn 5 fun K hK=>?_
    go_simp;refine kK hK (L6x.o.grown (vQ _ w.1.size _ _ _ _ _ _) (by simp;omega)) ?_;clear hK K;refine wDn ?_ _;clear hP hg hb HN SS LL S5x L5x;go_wp2
    refine bodyPost_ret (v:=qZ (.mk t.text [] 0 t.line t.col []) (.slice none 0 0)) (by simp[results,results181,go_sem,qZ,qQ.kind,qQ.text,qQ.num,qQ.line,qQ.col,qQ.kids, *]) rfl ?_;have hgood:(jU rec d) (t :: r)=.ok (.mk t.text [] 0 t.line t.col []) r:=by simp only[bF,if_false,if_true,reduceIte,bN,bM,bO,bU,bP,bV,bW,bB,bA,bT,lN,lC,lA,jU,jV,hk1,hk2,hk3,PR.bind,qX]
    rw[hgood];exact S6x.o.fin (zC.nil _ _) _ _ _ _ _ _
  case true =>
   have hm2:(t.text == [116,114,117,101])=true:=hk2;have hte:t.text≠[]:=fun e=>by rw[e]at hm2;exact absurd hm2 (by decide)
   clear l0 l1 l2' l3' l4';go_wp2_with fail
   refine wW (S:=fun w'=>wH w1.1.size t w') (tail:=fun _=>false) (by kernel_rfl) ?_;change vR _ _ _ _ _ _ _ _ _ (World.drew _);have SS:=Lib.hid S2.o.drew;have LL:=Lib.hid (L2.o.below (Below.refl _ _).drew);generalize World.drew _=wd at *;have hwd:=SS.o.lt;have hwl:=LL.o.lt;refine wTk 0 22 (.agg #[.int .i64 t.kind, .string ⟨t.text.toArray⟩, .int .u64 t.num, .int .i64 t.line, .int .i64 t.col]) ?_ LL.o ?_
   ·intro _ y;have⟨h0,h1,h2,h3,h4,_⟩:=y.a;go_simp
   refine wTk 1 23 (.pointer (some ⟨B,0,none⟩)) ?_ LL.o ?_
   ·intro _ y;go_simp
   refine wOn 2 fun K hK=>?_
   go_simp;refine(vB B t r d _ SS.o.ps hte).mono ?_;rintro e v5 ⟨rfl,hP,hg⟩;have S5x:=Lib.hid (SS.o.call hP hg);have L5x:=Lib.hid (LL.o.grown hg (by simp;omega));unfold vT xA;refine kK hK L5x.o ?_;clear hK K;refine wTk 3 25 (.string ⟨t.text.toArray⟩) ?_ L5x.o ?_
   ·intro _ y;go_simp
   refine wOn 4 fun K hK=>?_
   go_simp;have HN:=jI t ⟨t.text.toArray⟩ ⟨#[]⟩;unfold vT xA at HN;refine(HN _).mono ?_;rintro e v6 ⟨rfl,hb⟩;have S6x:=Lib.hid (S5x.o.below hb);have L6x:=Lib.hid (L5x.o.below hb);refine kK hK L6x.o ?_;clear hK K;have hs1:=S6x.o.lt;have hs2:=L6x.o.lt;have hr:=S6x.o.res;have⟨r0,r1',r2,r3,r4,r5,_⟩:=hr.a;have⟨g0,g1,g2,g3,g4,g5,_⟩:=hr.b;clear hr;refine wOn 5 fun K hK=>?_
   go_simp;refine kK hK (L6x.o.grown (vQ _ w.1.size _ _ _ _ _ _) (by simp;omega)) ?_;clear hK K;refine wDn ?_ _;clear hP hg hb HN SS LL S5x L5x;go_wp2
   refine bodyPost_ret (v:=qZ (.mk t.text [] 0 t.line t.col []) (.slice none 0 0)) (by simp[results,results181,go_sem,qZ,qQ.kind,qQ.text,qQ.num,qQ.line,qQ.col,qQ.kids, *]) rfl ?_;have hgood:(jU rec d) (t :: r)=.ok (.mk t.text [] 0 t.line t.col []) r:=by simp only[bF,if_false,if_true,reduceIte,bN,bM,bO,bU,bP,bV,bW,bB,bA,bT,lN,lC,lA,jU,jV,hk1,hk2,PR.bind,qX]
   rw[hgood];exact S6x.o.fin (zC.nil _ _) _ _ _ _ _ _
 case true =>
  clear l0 l1 l2' l3' l4';have hnoc:wQ (t :: r)≠.out:=fun e=>HNO.o (by simp only[bF,if_false,if_true,reduceIte,bN,bM,bO,bU,bP,bV,bW,bB,bA,bT,lN,lC,lA,jU,jV,hk1,PR.bind,qX,e])
  have HC:=Lib.hid (HNU.o B (t :: r) _ S2.o.ps hnoc);have HNOC:=Lib.hid hnoc;clear hnoc;go_wp2_with fail
  refine(HC.o).mono ?_;intro e w3 hq;rcases hq.cases HNOC.o with⟨t3,l3,q3,n3,c3,he3,rfl,hb3,hP3,hg3⟩ | ⟨ln,c,code,he3,rfl,hg3⟩;rotate_left
  ·refine⟨rfl,?_⟩;have hbad:(jU rec d) (t :: r)=.bad ln c code:=by simp only[bF,if_false,if_true,reduceIte,bN,bM,bO,bU,bP,bV,bW,bB,bA,bT,lN,lC,lA,jU,jV,hk1,PR.bind,qX,he3]
   rw[hbad];exact S2.o.pan ⟨rfl,hg3⟩
  have S9:=S2.o.call hP3 hg3;have HB:=Lib.hid (hb3.mono (lo':=w.1.size+1) S2.o.lt);have HE:=Lib.hid he3;have hs1:=S9.lt;have hr:=S9.res;have⟨r0,r1',r2,r3,r4,r5,_⟩:=hr.a;have⟨g0,g1,g2,g3,g4,g5,_⟩:=hr.b;clear hr;have HS9:=Lib.hid S9;clear S9 hq hb3 hP3 hg3 he3 HC S2 L2;unfold qZ;go_wp2
  refine bodyPost_ret (v:=qZ t3 (.slice q3 n3 c3)) (by simp[results,results181,go_sem,qZ, *]) rfl ?_;have hgood:(jU rec d) (t :: r)=.ok t3 l3:=by simp only[bF,if_false,if_true,reduceIte,bN,bM,bO,bU,bP,bV,bW,bB,bA,bT,lN,lC,lA,jU,jV,hk1,PR.bind,qX,HE.o]
  rw[hgood];exact HS9.o.fin HB.o _ _ _ _ _ _
theorem paren_does(rec:NT->Int->List Tok->PR qQ)(d:Int)(he:yR 181)(he':yR 158)(hop:vM 181 (fun p=>#[p]) (d+1) (rec .operand (d+1)))(hex:vM 158 (fun p=>#[p]) (d+1) (qQh rec (d+1))):vM 185 (fun p=>#[p]) d (yJ rec d):=by
 intro B l w h hno;obtain⟨t,r,rfl⟩:=h.ends.ne;have S0:=St.start h;have hBw:=S0.hB;have HNO:=hI hno;have S0:=hI S0;have hmf:=zT;have hft:=vS;have hfk:=yW;have HOP:=hI (wT 181 d (rec .operand) he hop);have HEX:=hI (wT 158 d (rec (.binary 0)) he' hex);clear he he' hop hex;clear h hno;unfold jY at *;go_enter func185,ntmps185
 cases hf0:(t.text == [40]);case false =>
  have H:=hI (wN B t r d [40] _ S0.o.ps);rw[hf0]at H;go_wp2_with fail
  refine(H.o).mono ?_;rintro e w1 ⟨rfl,hb1⟩;have S1:=hI (S0.o.below hb1);clear S0;clear H hb1;have H:=hI (qQ8 B t r d _ S1.o.ps);go_wp2_with fail
  refine(H.o).mono ?_;rintro e w2 ⟨rfl,hg2⟩;refine⟨rfl,?_⟩;have hbad:(yJ rec d) (t :: r)=.bad t.line t.col 30:=by simp only[bF,if_false,if_true,reduceIte,bN,bM,bO,bU,bP,bV,bW,bB,bA,bT,lN,lC,lA,yJ,jV,hf0,PR.bind,qX,jV]
  rw[hbad];exact S1.o.pan ⟨rfl,hg2⟩
 case true =>
  have H:=hI (wN B t r d [40] _ S0.o.ps);rw[hf0]at H;go_wp2_with fail
  refine(H.o).mono ?_;rintro e w1 ⟨rfl,hb1⟩;have S1:=hI (S0.o.below hb1);clear S0;clear H hb1;have hte:t.text≠[]:=fun e=>by rw[e]at hf0;exact absurd hf0 (by decide)
  have H:=hI (vB B t r d _ S1.o.ps hte);go_wp2_with fail
  refine(H.o).mono ?_;rintro e w2 ⟨rfl,hP2,hg2⟩;have S2:=hI (S1.o.call hP2 hg2);clear S1;clear H hP2 hg2;unfold vT xA at *;have hwT:w.1.size < w2.1.size:=S2.o.lt;have L3:=hI (wH.newO t w2);have S3:=hI (S2.o.alloc (qXT t));clear S2;unfold qXT at *;obtain⟨u,rr,hlu⟩:=S3.o.ps.ends.ne;subst hlu;have H:=hI (kY B u rr d _ S3.o.ps);go_wp2_with fail
  refine(H.o).mono ?_;rintro e w4 ⟨rfl,hb4⟩;have S4:=hI (S3.o.below hb4);have L4:=hI (L3.o.below hb4);clear S3 L3;clear H hb4;cases hf1:(yG u.text);case false =>
   have hT:qWD w4:=by
    obtain⟨lo,T,o,c,h1⟩:=S4.o.ps;exact h1.tab.types
   have H:=hI (qXC ⟨u.text.toArray⟩ _ hT);have hdt:(⟨u.text.toArray⟩:ByteArray).data.toList=u.text:=by simp
   rw[hdt,hf1]at H;unfold vT xA at *;go_wp2_with fail
   refine(H.o).mono ?_;rintro e w5' ⟨rfl,rfl⟩;clear H hT hdt;clear L4;have hnoc:xX d (rec (.binary 0)) (u :: rr)≠.out:=fun e=>HNO.o (by simp only[bF,if_false,if_true,reduceIte,bN,bM,bO,bU,bP,bV,bW,bB,bA,bT,lN,lC,lA,yJ,jV,hf0,hf1,PR.bind,qX,e])
   have HC:=hI (HEX.o B (u :: rr) _ S4.o.ps hnoc);have HNOC:=hI hnoc;clear hnoc;go_wp2_with fail
   refine(HC.o).mono ?_;intro e w6 hq;rcases hq.cases HNOC.o with⟨t6,l6,q6,n6,c6,he6,rfl,hb6,hP6,hg6⟩ | ⟨ln,c,code,he6,rfl,hg6⟩;rotate_left
   ·refine⟨rfl,?_⟩;have hbad:(yJ rec d) (t :: u :: rr)=.bad ln c code:=by simp only[bF,if_false,if_true,reduceIte,bN,bM,bO,bU,bP,bV,bW,bB,bA,bT,lN,lC,lA,yJ,jV,hf0,hf1,PR.bind,qX,he6]
    rw[hbad];exact S4.o.pan ⟨rfl,hg6⟩
   have hwN:w.1.size < w6.1.size:=(S4.o.call hP6 hg6).lt;have N6:=hI (Hd.put t6 (hb6.mono (lo':=w.1.size+1) S4.o.lt));have S6:=hI ((S4.o.call hP6 hg6).alloc (wD t6.kind t6.text t6.num t6.line t6.col (.slice q6 n6 c6)));have HE6:=hI he6;clear hq hb6 hP6 hg6 he6 HC HNOC S4;unfold qZ wD at *;have H:=hI (xV (S:=w6.1.size+1) [[41]] S6.o.ps (by simp) (by simp) (by simp));simp only[List.map,List.length]at H;go_wp2_with fail
   refine(H.o).mono ?_;rintro e w7 (⟨l7,he7,rfl,hP7,hg7⟩ | ⟨ln,c,code,he7,rfl,hg7⟩);rotate_left
   ·refine⟨rfl,?_⟩;have hbad:(yJ rec d) (t :: u :: rr)=.bad ln c code:=by simp only[bF,if_false,if_true,reduceIte,bN,bM,bO,bU,bP,bV,bW,bB,bA,bT,lN,lC,lA,yJ,jV,hf0,hf1,PR.bind,qX,HE6.o,he7]
    rw[hbad];exact S6.o.pan ⟨rfl,hg7⟩
   have S7:=hI (S6.o.call hP7 hg7);have N7:=hI (N6.o.call hg7 (by omega));clear S6 N6;have HE7:=hI he7;clear H he7 hP7 hg7;have S9:=S7.o;have N9:=N7.o;have hs1:=S9.lt;have hs2:=N9.lt;try simp only[World.size_setCell,World.size_alloc]at hs1 hs2
   have hr:=S9.res;have⟨r0,r1',r2,r3,r4,r5,_⟩:=hr.a;have⟨g0,g1,g2,g3,g4,g5,_⟩:=hr.b;clear hr;have hq:=N9.nd;have⟨qn0,qn1,qn2,qn3,qn4,qn5,_⟩:=hq.a;clear hq;have HS9:=hI S9;have HN9:=hI N9;clear S9 N9 S7 N7;skip
   go_wp2
   refine bodyPost_ret (v:=qZ t6 (.slice q6 n6 c6)) (by simp[results,results185,go_sem,qZ,qQ.kind,qQ.text,qQ.num,qQ.line,qQ.col,qQ.kids,qY,qG,qC,qO,zB,zD,zX,qE,kIf,zS,qA,qV,qF,qD,qP,qW,qN,zW,zM,qL,qM,qT,zK,zL,qH,zA, *]) rfl ?_;have hgood:(yJ rec d) (t :: u :: rr)=.ok t6 l7:=by simp only[bF,if_false,if_true,reduceIte,bN,bM,bO,bU,bP,bV,bW,bB,bA,bT,lN,lC,lA,yJ,jV,hf0,hf1,PR.bind,qX,HE6.o,HE7.o]
   rw[hgood];exact HS9.o.fin (HN9.o.bd.mono (by omega)) _ _ _ _ _ _
  case true =>
   have hT:qWD w4:=by
    obtain⟨lo,T,o,c,h1⟩:=S4.o.ps;exact h1.tab.types
   have H:=hI (qXC ⟨u.text.toArray⟩ _ hT);have hdt:(⟨u.text.toArray⟩:ByteArray).data.toList=u.text:=by simp
   rw[hdt,hf1]at H;unfold vT xA at *;go_wp2_with fail
   refine(H.o).mono ?_;rintro e w5' ⟨rfl,rfl⟩;clear H hT hdt;have hteu:u.text≠[]:=fun e=>by rw[e]at hf1;exact absurd hf1 (by decide)
   go_wp2_with fail
   refine qXG (fun a N=>((((((a.put (some 14) (.agg #[.int .i64 t.kind, .string ⟨t.text.toArray⟩, .int .u64 t.num, .int .i64 t.line, .int .i64 t.col])).put (some 15) (.pointer (some ⟨B,0,none⟩))).put (some 16) (.agg #[.int .i64 u.kind, .string ⟨u.text.toArray⟩, .int .u64 u.num, .int .i64 u.line, .int .i64 u.col])).put (some 17) (.string ⟨u.text.toArray⟩)).put (some 18) (.agg #[.string ⟨zK.toArray⟩, .string ⟨u.text.toArray⟩, .int .u64 0, .int .i64 t.line, .int .i64 t.col, .slice none 0 0])).put (some 4) (.pointer (some ⟨N,0,none⟩)))) (fun N w'=>St w B rr d w'/\Nd N zK u.text 0 t.line t.col (.slice none 0 0) [] w'/\w.1.size < N/\wH w2.1.size t w') ?_ ?_
   ·refine wW (S:=fun w'=>wH w2.1.size t w') (tail:=fun _=>false) (by kernel_rfl) ?_;change vR _ _ _ _ _ _ _ _ _ (World.drew _);have SS:=hI S4.o.drew;have LL:=hI (L4.o.below (Below.refl _ _).drew);generalize World.drew _=wd at *;have hwd:=SS.o.lt;have hwl:=LL.o.lt;refine wTk 0 14 (.agg #[.int .i64 t.kind, .string ⟨t.text.toArray⟩, .int .u64 t.num, .int .i64 t.line, .int .i64 t.col]) ?_ LL.o ?_
    ·intro _ y;have⟨h0,h1,h2,h3,h4,_⟩:=y.a;go_simp
    refine wTk 1 15 (.pointer (some ⟨B,0,none⟩)) ?_ LL.o ?_
    ·intro _ y;go_simp
    refine jA (i:=2) (j:=5) rfl rfl (by kernel_rfl) (by rfl) (by rfl) (fun K hK=>?_) (fun K hK=>?_)
    ·go_simp;refine(vB B u rr d _ SS.o.ps hteu).mono ?_;rintro e v5 ⟨rfl,hP,hg⟩;have S5x:=hI (SS.o.call hP hg);have L5x:=hI (LL.o.grown hg (by simp;omega));have hss5:=S5x.o.lt;have hll5:=L5x.o.lt;unfold vT xA;refine kK hK L5x.o ?_;clear hK K;refine wTk 3 17 (.string ⟨u.text.toArray⟩) ?_ L5x.o ?_
     ·intro _ y;go_simp
     refine jA (i:=4) (j:=5) rfl rfl (by kernel_rfl) (by rfl) (by rfl) (fun K hK=>?_) (fun K hK=>?_)
     ·go_simp;have HN:=jI t ⟨zK.toArray⟩ ⟨(u.text).toArray⟩;unfold vT xA at HN;refine(HN _).mono ?_;rintro e v9 ⟨rfl,hb⟩;have S9x:=hI (S5x.o.below hb);have L9x:=hI (L5x.o.below hb);have hss9:=S9x.o.lt;have hll9:=L9x.o.lt;refine kK hK L9x.o ?_;clear hK K;refine wOn 5 fun K hK=>?_
      go_simp;refine kK hK (L9x.o.below ((Below.refl _ _).alloc (Nat.le_refl _) _)) ?_;clear hK K;refine wOn 6 fun K hK=>?_
      go_simp;refine kK hK (L9x.o.below ((Below.refl _ _).alloc (Nat.le_refl _) _)) ?_;clear hK K;refine wDn ?_ _;exact⟨_,by first | rfl | (simp only[Act.put,pZa,pZb,pZc];done),S9x.o.alloc _,Nd.new zK u.text 0 t.line t.col _,S9x.o.lt,L9x.o.below ((Below.refl _ _).alloc (Nat.le_refl _) _)⟩
     ·go_simp;have S11a:=hI (S5x.o.alloc jY);have L11a:=hI (L5x.o.below ((Below.refl _ _).alloc (Nat.le_refl _) jY));have N11a:=hI (zI.new [] [] 0 0 0 (.slice none 0 0) v5);have hNs11:=N11a.o.lt;have hlt11:=S5x.o.lt;unfold jY at *;refine kK hK L11a.o ?_;clear hK K;refine wOn 4 fun K hK=>?_
      go_simp;have HN:=jI t ⟨zK.toArray⟩ ⟨(u.text).toArray⟩;unfold vT xA at HN;refine(HN _).mono ?_;rintro e v13 ⟨rfl,hb⟩;have S13x:=hI (S11a.o.below hb);have L13x:=hI (L11a.o.below hb);have N13x:=hI (N11a.o.below hb);have hNs13:=N13x.o.lt;have hss13:=S13x.o.lt;have hll13:=L13x.o.lt;refine kK hK L13x.o ?_;clear hK K;have⟨a0,a1,a2,a3,a4,a5,_⟩:=N13x.o.a;have⟨b0,b1,b2,b3,b4,b5,_⟩:=N13x.o.b;refine wOn 6 fun K hK=>?_
      go_simp;refine kK hK (L13x.o.grown (vQ _ v5.1.size _ _ _ _ _ _) (by simp;omega)) ?_;clear hK K;refine wDn ?_ _;exact⟨_,by first | rfl | (simp only[Act.put,pZa,pZb,pZc];done),S13x.o.six (by omega) _ _ _ _ _ _,⟨N13x.o.six zK u.text 0 t.line t.col (.slice none 0 0),zC.nil _ _⟩,by omega,L13x.o.grown (vQ _ v5.1.size _ _ _ _ _ _) (by simp;omega)⟩
    ·go_simp;have S15a:=hI (SS.o.alloc jY);have L15a:=hI (LL.o.below ((Below.refl _ _).alloc (Nat.le_refl _) jY));have N15a:=hI (zI.new [] [] 0 0 0 (.slice none 0 0) wd);have hNs15:=N15a.o.lt;have hlt15:=SS.o.lt;unfold jY at *;refine kK hK L15a.o ?_;clear hK K;refine wOn 2 fun K hK=>?_
     go_simp;refine(vB B u rr d _ S15a.o.ps hteu).mono ?_;rintro e v17 ⟨rfl,hP,hg⟩;have S17x:=hI (S15a.o.call hP hg);have L17x:=hI (L15a.o.grown hg (by simp;omega));have N17x:=hI (N15a.o.grown hg (by simp;omega));have hNs17:=N17x.o.lt;have hss17:=S17x.o.lt;have hll17:=L17x.o.lt;unfold vT xA;refine kK hK L17x.o ?_;clear hK K;refine wTk 3 17 (.string ⟨u.text.toArray⟩) ?_ L17x.o ?_
     ·intro _ y;go_simp
     refine wOn 4 fun K hK=>?_
     go_simp;have HN:=jI t ⟨zK.toArray⟩ ⟨(u.text).toArray⟩;unfold vT xA at HN;refine(HN _).mono ?_;rintro e v20 ⟨rfl,hb⟩;have S20x:=hI (S17x.o.below hb);have L20x:=hI (L17x.o.below hb);have N20x:=hI (N17x.o.below hb);have hNs20:=N20x.o.lt;have hss20:=S20x.o.lt;have hll20:=L20x.o.lt;refine kK hK L20x.o ?_;clear hK K;have⟨a0,a1,a2,a3,a4,a5,_⟩:=N20x.o.a;have⟨b0,b1,b2,b3,b4,b5,_⟩:=N20x.o.b;refine wOn 6 fun K hK=>?_
     go_simp;refine kK hK (L20x.o.grown (vQ _ wd.1.size _ _ _ _ _ _) (by simp;omega)) ?_;clear hK K;refine wDn ?_ _;exact⟨_,by first | rfl | (simp only[Act.put,pZa,pZb,pZc];done),S20x.o.six (by omega) _ _ _ _ _ _,⟨N20x.o.six zK u.text 0 t.line t.col (.slice none 0 0),zC.nil _ _⟩,by omega,L20x.o.grown (vQ _ wd.1.size _ _ _ _ _ _) (by simp;omega)⟩
   intro N w5 ⟨hS5,hN5,hwN,hL5⟩;try simp only[Act.put,pZa,pZb,pZc]
   have S5:=hI hS5;have N5:=hI hN5;clear hS5 hN5 hL5 S4 L4;have H:=hI (xV (S:=w5.1.size) [[41]] S5.o.ps (by simp) (by simp) (by simp));simp only[List.map,List.length]at H;go_wp2_with fail
   refine(H.o).mono ?_;rintro e w21 (⟨l21,he21,rfl,hP21,hg21⟩ | ⟨ln,c,code,he21,rfl,hg21⟩);rotate_left
   ·refine⟨rfl,?_⟩;have hbad:(yJ rec d) (t :: u :: rr)=.bad ln c code:=by simp only[bF,if_false,if_true,reduceIte,bN,bM,bO,bU,bP,bV,bW,bB,bA,bT,lN,lC,lA,yJ,jV,hf0,hf1,PR.bind,qX,he21]
    rw[hbad];exact S5.o.pan ⟨rfl,hg21⟩
   have S21:=hI (S5.o.call hP21 hg21);have N21:=hI (N5.o.call hg21 (by omega));clear S5 N5;have HE21:=hI he21;clear H he21 hP21 hg21;have hnoc:xX d (rec .operand) l21≠.out:=fun e=>HNO.o (by simp only[bF,if_false,if_true,reduceIte,bN,bM,bO,bU,bP,bV,bW,bB,bA,bT,lN,lC,lA,yJ,jV,hf0,hf1,PR.bind,qX,HE21.o,e])
   have HC:=hI (HOP.o B l21 _ S21.o.ps hnoc);have HNOC:=hI hnoc;clear hnoc;go_wp2_with fail
   refine(HC.o).mono ?_;intro e w22 hq;rcases hq.cases HNOC.o with⟨t22,l22,q22,n22,c22,he22,rfl,hb22,hP22,hg22⟩ | ⟨ln,c,code,he22,rfl,hg22⟩;rotate_left
   ·refine⟨rfl,?_⟩;have hbad:(yJ rec d) (t :: u :: rr)=.bad ln c code:=by simp only[bF,if_false,if_true,reduceIte,bN,bM,bO,bU,bP,bV,bW,bB,bA,bT,lN,lC,lA,yJ,jV,hf0,hf1,PR.bind,qX,HE21.o,he22]
    rw[hbad];exact S21.o.pan ⟨rfl,hg22⟩
   have SC:=S21.o.call hP22 hg22;have NC:=N21.o.call hg22 (by omega);have hff:=qVb SC NC.nd hwN hb22 (Nat.succ_le_of_lt N21.o.lt) hg22.size;have HFF:=hI hff;have HE22:=hI he22;have hs1:=SC.lt;have hs2:=NC.lt;have hf5:=NC.nd.f 5 nL;have hr:=SC.res;have⟨r0,r1',r2,r3,r4,r5,_⟩:=hr.a;have⟨g0,g1,g2,g3,g4,g5,_⟩:=hr.b;clear hr;have hq:=NC.nd;have⟨qn0,qn1,qn2,qn3,qn4,qn5,_⟩:=hq.a;clear hq;clear hff hq hb22 hP22 hg22 he22 HC HNOC S21 N21 SC NC;unfold qZ;unfold zK at qn0;go_wp2
   refine bodyPost_ret (v:=qZ (.mk zK u.text 0 t.line t.col [t22]) (.slice (some ⟨w22.1.size,0,none⟩) 1 1)) (by simp[results,results185,go_sem,qZ,qQ.kind,qQ.text,qQ.num,qQ.line,qQ.col,qQ.kids,qY,qG,qC,qO,zB,zD,zX,qE,kIf,zS,qA,qV,qF,qD,qP,qW,qN,zW,zM,qL,qM,qT,zK,zL,qH,zA, *]) rfl ?_;have hgood:(yJ rec d) (t :: u :: rr)=.ok (.mk zK u.text 0 t.line t.col [t22]) l22:=by simp only[bF,if_false,if_true,reduceIte,bN,bM,bO,bU,bP,bV,bW,bB,bA,bT,lN,lC,lA,yJ,jV,hf0,hf1,PR.bind,qX,HE21.o,HE22.o]
   rw[hgood];exact HFF.o.1.finA (by simpa using hs1) (HFF.o.2.bd.mono (by omega)) _ _ _ _ _ _
end Go.Proofs.YtiajhekdhhhghaaGreatDoor
