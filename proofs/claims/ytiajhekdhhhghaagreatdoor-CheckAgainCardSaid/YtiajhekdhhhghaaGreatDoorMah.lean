/- Walks. -/
import Derived.Test.YtiajhekdhhhghaaGreatDoorMag
set_option linter.all false
set_option maxHeartbeats 8000000
set_option maxRecDepth 100000
namespace Go.Proofs.YtiajhekdhhhghaaGreatDoor
open Tryz
open Go Go.RowKit
structure qPc(T c:Nat)(l:List Tok)(w:World):Prop where
 row:qYR T l w
 lt:T < w.1.size
 ends:qZY l
 hc:l.length<=c
 hm:c<=maxLen
 hl:l.length<=70000
 ht:∀ t∈l,t.text.length<=65536
 tab:qKT w.1.size w
def qXH:Value:=.agg #[.string ⟨#[]⟩, .string ⟨#[]⟩, .int .u64 0, .int .i64 0, .int .i64 0, .slice none 0 0]
def TreePost(w:World)(p:PR qQ)(e:Ending)(w':World):Prop :=
 match p with
 | .ok t _=>∃ v,e=.returned (.tuple #[qZ t v, .agg #[.int .i64 0, .int .i64 0, .int .i64 0]])/\zC w' w.1.size t.kids v/\Below w.1.size w w'
 | .bad ln c code=>e=.returned (.tuple #[qXH, .agg #[.int .i64 ln, .int .i64 c, .int .i64 code]])/\Below w.1.size w w'
 | .out=>True
theorem qK8{w0 w1 w':World}{B:Nat}(h:Below w0.1.size w0 w1)(hg:w1.grownBy w' (some B))(hB:w0.1.size<=B):Below w0.1.size w0 w':=h.grown hg h.size (fun k e=>by cases e;exact hB)
def qX5(T c:Nat)(l:List Tok)(w:World):World :=
 ((w.alloc (.cells #[.string ⟨#[]⟩, .string ⟨#[]⟩, .int .u64 0, .int .i64 0, .int .i64 0, .slice none 0 0] 57)).alloc (.cells #[.int .i64 0, .int .i64 0, .int .i64 0] 110)).alloc (.cells #[.slice (some ⟨T,0,none⟩) l.length c, .int .i64 0] 129)
theorem qKP(T c:Nat)(l:List Tok)(w:World):Below w.1.size w (qX5 T c l w) :=
 (((Below.refl _ _).alloc (Nat.le_refl _) _).alloc (by simp) _).alloc (by simp;omega) _
theorem tree_ps{T c:Nat}{l:List Tok}{w:World}(h:qPc T c l w):vP (w.1.size+1+1) l 0 (qX5 T c l w):=by
 have hb:=qKP T c l w;refine⟨w.1.size,T,0,c,?_,?_,?_,?_,fun k hk=>?_,h.ends,by have:=h.lt;omega,h.hc,h.hm,h.hl,h.ht,by omega,h.tab.under hb,by omega⟩
 ·simp[qX5,go_sem]
 ·simp[qX5,go_sem]
 ·simp[qX5,go_sem]
 ·simp[qX5,go_sem]
 ·rw[Nat.zero_add];exact(h.row k hk).below hb h.lt
theorem qUy(T c:Nat)(l:List Tok)(w:World):zI w.1.size [] [] 0 0 0 (.slice none 0 0) (qX5 T c l w):=((zI.new [] [] 0 0 0 (.slice none 0 0) w).alloc _).alloc _
structure qQE(b:Nat)(x y z:Int)(w:World):Prop where
 c0:w.cell? ⟨b,0,none⟩=some (.int .i64 x)
 c1:w.cell? ⟨b,1,none⟩=some (.int .i64 y)
 c2:w.cell? ⟨b,2,none⟩=some (.int .i64 z)
 f:∀ k,k < 3->w.frozen? ⟨b,k,none⟩=false
theorem qQE.a{b:Nat}{x y z:Int}{w:World}(h:qQE b x y z w):w.cell? ⟨b,0,none⟩=some (.int .i64 x)/\w.cell? ⟨b,1,none⟩=some (.int .i64 y)/\w.cell? ⟨b,2,none⟩=some (.int .i64 z)/\True:=⟨h.c0,h.c1,h.c2,trivial⟩
theorem qQE.b{b:Nat}{x y z:Int}{w:World}(h:qQE b x y z w):w.frozen? ⟨b,0,none⟩=false/\w.frozen? ⟨b,1,none⟩=false/\w.frozen? ⟨b,2,none⟩=false/\True:=⟨h.f 0 (by decide),h.f 1 (by decide),h.f 2 (by decide),trivial⟩
theorem qQE.grown{b:Nat}{x y z:Int}{w w':World}{r:Option Nat}(h:qQE b x y z w)(hg:w.grownBy w' r)(hne:some b≠r):qQE b x y z w' :=
 ⟨hg.cell h.c0 hne,hg.cell h.c1 hne,hg.cell h.c2 hne,fun k hk=>(World.frozen?_of_block (hg.block b (qJ h.c0) hne)).trans (h.f k hk)⟩
theorem qYv(T c:Nat)(l:List Tok)(w:World):qQE (w.1.size+1) 0 0 0 (qX5 T c l w):=by
 constructor
 case f=>intro k hk;simp[qX5,go_sem]
 all_goals simp[qX5,go_sem]
theorem tree_any(n:Nat)(hp:vM 74 (fun p=>#[p]) 0 (xW n))(T c:Nat)(l:List Tok)(w:World)(h:qPc T c l w)(hno:xW n l≠.out) :
 Calls prog 60 #[.slice (some ⟨T,0,none⟩) l.length c] w (TreePost w (xW n l)):=by
 have hmf:=zT;have HP:=hI hp;have HNO:=hI hno;have HT:=hI h;clear h hno hp;go_enter_defers func60,ntmps60
 go_wp2_with fail
 refine(HP.o (w.1.size+1+1) l (qX5 T c l w) (tree_ps HT.o) HNO.o).mono ?_;intro e w1 hq;rcases hq.cases HNO.o with⟨t1,l1,q1,n1,c1,he1,rfl,hb1,hP1,hg1⟩ | ⟨ln,co,code,he1,rfl,hg1⟩
 ·have hN:=(qUy T c l w).grown hg1 (by simp;omega);have hF:=(qYv T c l w).grown hg1 (by simp);have HB:=hI hb1;have HE:=hI he1;have HG:=hI (qK8 (qKP T c l w) hg1 (by omega));have⟨r0,r1,r2,r3,r4,r5,_⟩:=hN.a;have⟨g0,g1,g2,g3,g4,g5,_⟩:=hN.b;have⟨s0,s1,s2,_⟩:=hF.a;have⟨k0,k1,k2,_⟩:=hF.b;have hsz:=hN.lt;clear hN hF hb1 hP1 hg1 he1 hq HP HT;unfold qZ;go_wp2
  refine leaves_cons (f:=73) (args:=#[.pointer (some ⟨w.1.size,0,none⟩), .pointer (some ⟨w.1.size+1,0,none⟩)]) (by simp) (by simp[go_sem]) ?_;refine(qLV ⟨w.1.size,0,none⟩ ⟨w.1.size+1,0,none⟩ _).mono ?_;rintro e u' w2 ⟨rfl,rfl,rfl⟩;refine⟨.tuple #[qZ t1 (.slice q1 n1 c1), .agg #[.int .i64 0, .int .i64 0, .int .i64 0]],by simp[results,results60,go_sem,qZ, *],?_⟩;rw[HE.o];have hs3:(qX5 T c l w).1.size=w.1.size+3:=by simp[qX5]
  have hb:=HB.o;rw[hs3]at hb;have h1:=hb.six (k:=w.1.size) (by omega) (.string ⟨t1.kind.toArray⟩) (.string ⟨t1.text.toArray⟩) (.int .u64 t1.num) (.int .i64 t1.line) (.int .i64 t1.col) (.slice q1 n1 c1);have h2:=((h1.grown (jM _ (w.1.size+1) 0 (.int .i64 0)) (fun j e=>by cases e;exact .inl (by omega))).grown (jM _ (w.1.size+1) 1 (.int .i64 0)) (fun j e=>by cases e;exact .inl (by omega))).grown (jM _ (w.1.size+1) 2 (.int .i64 0)) (fun j e=>by cases e;exact .inl (by omega));refine⟨_,rfl,h2.mono (by omega),qQb ?_⟩;have hle:=Nat.le_refl w.1.size;have hls:w.1.size<=w.1.size+1:=by omega
  exact xR (xR (xR (qQU (zV HG.o none) hle _ _ _ _ _ _) hls _ _) hls _ _) hls _ _
 ·have hN:=(qUy T c l w).grown hg1 (by simp;omega);have hF:=(qYv T c l w).grown hg1 (by simp);have hG:=qK8 (qKP T c l w) hg1 (by omega);refine leaves_cons (f:=73) (args:=#[.pointer (some ⟨w.1.size,0,none⟩), .pointer (some ⟨w.1.size+1,0,none⟩)]) (by simp) (by simp[go_sem]) ?_;refine(qWj w.1.size (w.1.size+1) ln co code 0 0 0 w1 hN hF.c0 hF.c1 hF.c2 (hF.f 0 nL) (hF.f 1 nL) (hF.f 2 nL) (by omega)).mono ?_;rintro e u' w2 ⟨rfl,rfl,hC⟩;have⟨c0,c1,c2,c3,c4,c5,_⟩:=hC.1.a;have d0:=hC.2.1;have d1:=hC.2.2.1;have d2:=hC.2.2.2.1;have hG2:Below w.1.size w w2:=qQb (hC.2.2.2.2 w none (zV hG none) (Nat.le_refl _) (by omega));show Leaves _ _ _ _ [] FrameMode.returning w2
  refine⟨.tuple #[qXH, .agg #[.int .i64 ln, .int .i64 co, .int .i64 code]],by simp[results,results60,go_sem,qXH, *],?_⟩;rw[he1];exact⟨rfl,hG2⟩
def qJ1(w:World)(p:PR qQ)(e:Ending)(w':World):Prop :=
 match p with
 | .ok t _=>∃ v,e=.returned (.tuple #[qZ t v, .int .i64 0, .int .i64 0, .int .i64 0])/\zC w' w.1.size t.kids v/\Below w.1.size w w'
 | .bad ln c code=>e=.returned (.tuple #[qXH, .int .i64 ln, .int .i64 c, .int .i64 code])/\Below w.1.size w w'
 | .out=>True
theorem parse_any(n:Nat)(hp:vM 74 (fun p=>#[p]) 0 (xW n))(T c:Nat)(l:List Tok)(w:World)(h:qPc T c l w)(hno:xW n l≠.out) :
 Calls prog 43 #[.slice (some ⟨T,0,none⟩) l.length c] w (qJ1 w (xW n l)):=by
 have ha:=(Below.refl w.1.size w).alloc (Nat.le_refl _) jY;have h1:qPc T c l (w.alloc jY):=⟨h.row.below ha h.lt,by simp;have:=h.lt;omega,h.ends,h.hc,h.hm,h.hl,h.ht,by
  have:=h.tab.under ha;obtain⟨a1,a2,⟨b,off,cap,h2,h3⟩,⟨b',off',cap',h4,h5⟩⟩:=this;exact⟨by simp;omega,Nat.le_refl _,⟨b,off,cap,h2,by simp;omega⟩,⟨b',off',cap',h4,by simp;omega⟩⟩⟩
 have H:=hI (tree_any n hp T c l _ h1 hno);have HA:=hI ha;have HNO:=hI hno;have HR:=hI (zI.new [] [] 0 0 0 (.slice none 0 0) w);clear h h1 hno hp ha;unfold jY at *;go_enter func43,ntmps43
 go_wp2_with fail
 refine(H.o).mono ?_;intro e w1 hq;cases hr:xW n l with
 | out=>exact absurd hr HNO.o
 | ok t l' =>
  rw[hr]at hq;obtain⟨v,rfl,hb,hB⟩:=hq;obtain⟨q,vn,vc,rfl⟩:=hb.shape;have hR:=HR.o.below hB;have HB:=hI hb;have HG:=hI hB;have⟨r0,r1,r2,r3,r4,r5,_⟩:=hR.a;have⟨g0,g1,g2,g3,g4,g5,_⟩:=hR.b;have hsz:=hR.lt;clear hR hb hB H HR;unfold qZ;go_wp2
  go_region
  go_wp2
  refine bodyPost_ret (v:=.tuple #[qZ t (.slice q vn vc), .int .i64 0, .int .i64 0, .int .i64 0]) (by simp[results,results43,go_sem,qZ, *]) rfl ?_;rw[hr];have hb2:zC w1 (w.1.size+1) t.kids (.slice q vn vc):=by simpa using HB.o
  refine⟨_,rfl,zC.mono (zC.below (((hb2.six (Nat.lt_succ_self _) _ _ _ _ _ _).alloc _).alloc _) (Below.refl _ _).drew) (by omega),qQb (vX (zY (zY (qQU (zV (HA.o.trans (HG.o.mono HA.o.size)) none) (Nat.le_refl _) _ _ _ _ _ _) _) _))⟩
 | bad ln co code =>
  rw[hr]at hq;obtain⟨rfl,hB⟩:=hq;have hR:=HR.o.below hB;have HG:=hI hB;have⟨r0,r1,r2,r3,r4,r5,_⟩:=hR.a;have⟨g0,g1,g2,g3,g4,g5,_⟩:=hR.b;have hsz:=hR.lt;clear hR hB H HR;unfold qXH;go_wp2
  go_region
  go_wp2
  refine bodyPost_ret (v:=.tuple #[qXH, .int .i64 ln, .int .i64 co, .int .i64 code]) (by simp[results,results43,go_sem,qXH, *]) rfl ?_;rw[hr];exact⟨rfl,qQb (vX (zY (zY (qQU (zV (HA.o.trans (HG.o.mono HA.o.size)) none) (Nat.le_refl _) _ _ _ _ _ _) _) _))⟩
theorem tokT_text{l:List UInt8}{ln c:Int}(h:wK l=0):(qJX l ln c).text≠[]/\(qJX l ln c).text.length<=l.length:=by
 have hp:=qQW h;have hl:=wG l;refine⟨fun e=>?_,?_⟩
 ·have:(qJX l ln c).text.length=0:=by rw[e];rfl
  simp only[qJX,List.length_take]at this;omega
 ·simp only[qJX,List.length_take];omega
theorem lexF_ends:∀ (n:Nat) (l:List UInt8) (ln c:Int) (ts:List Tok),qJt n l ln c=.ok ts->qZY ts/\ts.length<=l.length+1/\∀ t∈ts,t.text.length<=l.length:=by
 intro n;induction n with
 | zero=>intro l ln c ts h;simp[qJt]at h;try (subst h;simp)
 | succ n ih =>
  intro l ln c ts h;rw[qJt]at h;have hk:=qZT l.length l ln c;generalize qQp l.length l ln c=s at *;by_cases h1:s.1=[]
  ·simp only[h1,if_true]at h;injection h with h;subst h;exact⟨⟨rfl,rfl⟩,by simp,by simp⟩
  ·by_cases h2:wK s.1=0
   ·simp only[if_neg h1,if_pos h2]at h;have hp:=qQW h2;have hle:=wG s.1;have htt:=tokT_text (ln:=s.2.1) (c:=s.2.2) h2;generalize hr:qJt n (s.1.drop (zZ s.1)) _ _=r at h;cases r with
    | bad a b d=>simp[Res.cons]at h
    | ok us =>
     simp only[Res.cons]at h;injection h with h;subst h;obtain⟨h3,h4,h5⟩:=ih _ _ _ _ hr;rw[List.length_drop]at h4 h5;refine⟨?_,by simp;omega,fun t ht=>?_⟩
     ·obtain⟨u,us',rfl⟩:=h3.ne;exact⟨htt.1,h3⟩
     ·rcases List.mem_cons.1 ht with rfl | ht
      ·omega
      ·have:=h5 t ht;omega
   ·simp only[if_neg h1,if_neg h2]at h;cases h
theorem qUh{l:List UInt8}{ts:List Tok}(h:qQD l 1 1=.ok ts):qZY ts/\ts.length<=l.length+1/\∀ t∈ts,t.text.length<=l.length:=lexF_ends _ _ _ _ _ h
theorem lexF_bad:∀ (n:Nat) (l:List UInt8) (ln c a b code:Int),l.length < n->qJt n l ln c=.bad a b code->code=20\/code=21:=by
 intro n;induction n with
 | zero=>intro l ln c a b code hn;omega
 | succ n ih =>
  intro l ln c a b code hn h;rw[qJt]at h;have hk:=qZT l.length l ln c;generalize qQp l.length l ln c=s at *;by_cases h1:s.1=[]
  ·simp only[h1,if_true]at h;cases h
  ·by_cases h2:wK s.1=0
   ·simp only[if_neg h1,if_pos h2]at h;have hp:=qQW h2;have hle:=wG s.1;generalize hr:qJt n (s.1.drop (zZ s.1)) _ _=r at h;cases r with
    | ok us=>simp[Res.cons]at h
    | bad x y d =>
     simp only[Res.cons]at h;injection h with e1 e2 e3;subst e3;exact ih _ _ _ _ _ _ (by rw[List.length_drop];omega) hr
   ·simp only[if_neg h1,if_neg h2]at h;injection h with e1 e2 e3;rw[<-e3];exact qU7 h2
def qJq(n:Nat)(s:List UInt8):PR qQ :=
 match qQD s 1 1 with
 | .bad ln c code=>.bad ln c code
 | .ok l=>xW n l
def Tab3(w:World):Prop:=qKT w.1.size w/\qZO w
theorem Tab3.below{w w':World}(h:Tab3 w)(hb:Below w.1.size w w'):Tab3 w':=by
 refine⟨?_,h.2.below hb⟩;obtain⟨a1,a2,⟨b,off,cap,h2,h3⟩,⟨b',off',cap',h4,h5⟩⟩:=h.1.under hb;have:=hb.size;exact⟨by omega,Nat.le_refl _,⟨b,off,cap,h2,by omega⟩,⟨b',off',cap',h4,by omega⟩⟩
theorem read_any(n:Nat)(hp:vM 74 (fun p=>#[p]) 0 (xW n))(s:ByteArray)(w:World)(hs:s.size<=65536)(ht:Tab3 w)(hno:qJq n s.data.toList≠.out) :
 Calls prog 21 #[.string s] w (qJ1 w (qJq n s.data.toList)):=by
 have ha:=(Below.refl w.1.size w).alloc (Nat.le_refl _) jY;have H:=hI (qUQ s _ hs (ht.below ha).2);have HT:=hI (ht.below ha);have HA:=hI ha;have HNO:=hI hno;have HP:=hI hp;have HR:=hI (zI.new [] [] 0 0 0 (.slice none 0 0) w);clear ht hno hp ha;unfold jY at *;go_enter func21,ntmps21
 go_wp2_with fail
 refine(H.o).mono ?_;intro e w1 hq;unfold qXM at hq;cases hr:qQD s.data.toList 1 1 with
 | bad ln co code =>
  rw[hr]at hq;obtain⟨rfl,hB⟩:=hq;have hres:qJq n s.data.toList=.bad ln co code:=by simp[qJq,hr]
  have hcode:=lexF_bad _ _ _ _ _ _ _ (by omega) hr;have hcb:(code != 0)=true:=by rcases hcode with rfl | rfl <;> rfl
  have hR:=HR.o.below hB;have HG:=hI hB;have HRS:=hI hres;have⟨r0,r1,r2,r3,r4,r5,_⟩:=hR.a;have⟨g0,g1,g2,g3,g4,g5,_⟩:=hR.b;have hsz:=hR.lt;clear hR hB H HR hres hcode;go_wp2
  refine bodyPost_ret (v:=.tuple #[qXH, .int .i64 ln, .int .i64 co, .int .i64 code]) (by simp[results,results21,go_sem,qXH, *]) rfl ?_;rw[HRS.o];exact⟨rfl,qQb (qQU (zV (HA.o.trans (HG.o.mono HA.o.size)) none) (Nat.le_refl _) _ _ _ _ _ _)⟩
 | ok l =>
  rw[hr]at hq;obtain⟨v,rfl,hown,hB⟩:=hq;obtain⟨hend,hlen,htx⟩:=qUh hr;have hres:qJq n s.data.toList=xW n l:=by simp[qJq,hr]
  obtain⟨g,cap,rfl,hg,hgl,hcap,hrow⟩:=qUr hown (by obtain⟨t,r,rfl⟩:=hend.ne;simp);have hcm:cap<=maxLen:=by
   rcases hown.2 with⟨h,_⟩ | ⟨g',cap',cur,h,_,_,_,h6,_⟩
   ·cases h
   ·injection h with h1 h2 h3;subst h3;exact h6
  have hT1:=HT.o.below hB;have hs1:s.data.toList.length<=65536:=by rw[<-qQQ];exact hs
  have HK:qPc g cap l w1:=⟨hrow,hgl,hend,hcap,hcm,by omega,fun t h=>by have:=htx t h;omega,hT1.1⟩;have HC:=hI (parse_any n HP.o g cap l w1 HK (by rw[<-hres];exact HNO.o));have HRS:=hI hres;have HG:=hI hB;have HR1:=hI (HR.o.below hB);have HN2:=hI (show xW n l≠.out by rw[<-hres];exact HNO.o);clear hown hB hend hlen htx hres hrow HK hT1 H hcm hs1;go_wp2_with fail
  refine(HC.o).mono ?_;intro e w2 hq;cases hr2:xW n l with
  | out=>exact absurd hr2 HN2.o
  | ok t l' =>
   rw[hr2]at hq;obtain⟨v,rfl,hb,hB2⟩:=hq;obtain⟨q,vn,vc,rfl⟩:=hb.shape;have hR:=HR1.o.below hB2;have HB:=hI hb;have HG2:=hI hB2;have⟨r0,r1,r2,r3,r4,r5,_⟩:=hR.a;have⟨g0,g1,g2,g3,g4,g5,_⟩:=hR.b;have hsz:=hR.lt;clear hR hb hB2 HC HR HR1;unfold qZ;go_wp2
   refine bodyPost_ret (v:=.tuple #[qZ t (.slice q vn vc), .int .i64 0, .int .i64 0, .int .i64 0]) (by simp[results,results21,go_sem,qZ, *]) rfl ?_;rw[HRS.o,hr2];have hlo:w.1.size+1<=w1.1.size:=by have:=HG.o.size;simpa using this
   exact⟨_,rfl,((HB.o.mono hlo).six (Nat.lt_succ_self _) _ _ _ _ _ _).mono (by omega),qQb (qQU (zV ((HA.o.trans (HG.o.mono HA.o.size)).trans (HG2.o.mono (Nat.le_trans HA.o.size HG.o.size))) none) (Nat.le_refl _) _ _ _ _ _ _)⟩
  | bad ln co code =>
   rw[hr2]at hq;obtain⟨rfl,hB2⟩:=hq;have hR:=HR1.o.below hB2;have HG2:=hI hB2;have⟨r0,r1,r2,r3,r4,r5,_⟩:=hR.a;have⟨g0,g1,g2,g3,g4,g5,_⟩:=hR.b;have hsz:=hR.lt;clear hR hB2 HC HR HR1;unfold qXH;go_wp2
   refine bodyPost_ret (v:=.tuple #[qXH, .int .i64 ln, .int .i64 co, .int .i64 code]) (by simp[results,results21,go_sem,qXH, *]) rfl ?_;rw[HRS.o,hr2];exact⟨rfl,qQb (qQU (zV ((HA.o.trans (HG.o.mono HA.o.size)).trans (HG2.o.mono (Nat.le_trans HA.o.size HG.o.size))) none) (Nat.le_refl _) _ _ _ _ _ _)⟩
theorem qLk(p q:Addr)(w:World) :
 CallsD prog 75 #[.pointer (some p), .pointer (some q)] .returning w fun e u' w'=>e=.returned (.tuple #[])/\u'=.returning/\w'=w:=by
 refine callsD_of_wpS func75 rfl fun c₀ cs hu=>?_
 apply wpS_seq;apply wpS_region;simp[wpOpsS,go_sem,recoverD,hu,ntmps75,Exit.thenS];refine wpS_of_wp ?_;change Code.wp _ _ _ { tmps:=#[.pointer (some p), .pointer (some q), .nilIface, .nilIface,undef,undef,undef,undef,undef],defers:=[] } w;generalize hQ:(fun e a' w'=>bodyPostS prog f75 c₀ cs (fun e u' w'=>e=Ending.returned (.tuple #[])/\u'=FrameMode.returning/\w'=w) e a' (c₀ :: cs) w')=Q;go_wp2
 rw[<-hQ];refine⟨rfl, .returning,?_, .tuple #[],by simp[results,results75],rfl,rfl,rfl⟩;cases c₀;simp_all
def qWB(w:World):Prop:=Tab3 w/\Pow w
def wrW(t:qQ)(v:Value)(w:World):World :=
 (((w.alloc (.cells (qS t v).toArray 57)).alloc (.cells #[.slice none 0 0] 113)).alloc (.cells #[.int .i64 0] 24)).alloc (.cells #[.slice none 0 0] 132)
theorem qLl(t:qQ)(v:Value)(w:World):Below w.1.size w (wrW t v w) :=
 ((((Below.refl _ _).alloc (Nat.le_refl _) _).alloc (by simp) _).alloc (by simp;omega) _).alloc (by simp;omega) _
theorem wr_size(t:qQ)(v:Value)(w:World):(wrW t v w).1.size=w.1.size+4:=by simp[wrW]
theorem wr_at{t:qQ}{v:Value}{w:World}(h:qWB w):WAt w.1.size (w.1.size+1+1+1) [] (wrW t v w):=by
 have hb:=qLl t v w;have hp:=h.2.lt;refine⟨⟨.slice none 0 0,?_,World.ownsRow_nil _ _ _ _⟩,h.1.1.under hb,by omega,h.2.under hb hp,hp⟩;have:=vL (((w.alloc (.cells (qS t v).toArray 57)).alloc (.cells #[.slice none 0 0] 113)).alloc (.cells #[.int .i64 0] 24)) (.cells #[.slice none 0 0] 132);simpa[wrW]using this
def WrPost(w:World)(ws:List (List UInt8))(e:Ending)(w':World):Prop :=
 ∃ v,e=.returned (.tuple #[v, .int .i64 0])/\w'.ownsRow w.1.size 9 1 v ws.length (jT ws)/\Below w.1.size w w'
theorem qLm(n:Nat)(t:qQ)(v:Value)(w:World)(ws:List (List UInt8))(h4:qWB w)(hL:xZ w (· < w.1.size) t v)(hF:qZl t)(he:qQO n t=some ws)(hlen:ws.length<=1000000000) :
 Calls prog 61 #[qZ t v] w (WrPost w ws):=by
 have hb:=qLl t v w;have hsz:=wr_size t v w;obtain⟨q0,vc,rfl,_,_⟩:=hL.shape;have HC:=hI (prog_w n w.1.size (w.1.size+1+1+1) [] t _ (wrW t _ w) ws (wr_at h4) (xZ.move (fun g hg _=>⟨(by omega:g < w.1.size+1+1+1),hb.block g hg⟩) t _ hL) hF he (by simpa using hlen));have hmf:=zT;have HB:=hI hb;have n0:(wrW t (.slice q0 t.kids.length vc) w).1[w.1.size+1]? = some (.cells #[.slice none 0 0] 113):=by
  have:=vL (w.alloc (.cells (qS t (.slice q0 t.kids.length vc)).toArray 57)) (.cells #[.slice none 0 0] 113);rw[wrW];rw[Lib.alloc_old _ _ _ (by simp),Lib.alloc_old _ _ _ (by simp)];simpa using this
 have n1:(wrW t (.slice q0 t.kids.length vc) w).1[w.1.size+1+1]? = some (.cells #[.int .i64 0] 24):=by
  have:=vL ((w.alloc (.cells (qS t (.slice q0 t.kids.length vc)).toArray 57)).alloc (.cells #[.slice none 0 0] 113)) (.cells #[.int .i64 0] 24);rw[wrW];rw[Lib.alloc_old _ _ _ (by simp)];simpa using this
 have HN0:=hI n0;have HN1:=hI n1;clear h4 hL hF he hb n0 n1;simp only[wrW,qS,qZ]at *;go_enter_defers func61,ntmps61
 go_wp2_with fail
 refine(HC.o).mono ?_;rintro e w1 ⟨rfl,hW1,hK1⟩;obtain⟨v1,hbk,hown⟩:=hW1.row;have m0:=(hK1.below.block (w.1.size+1) (by omega)).trans HN0.o;have m1:=(hK1.below.block (w.1.size+1+1) (by omega)).trans HN1.o;have c0:w1.cell? ⟨w.1.size+1,0,none⟩=some (.slice none 0 0):=by rw[Lib.cell_of_heap m0];rfl
 have f0:w1.frozen? ⟨w.1.size+1,0,none⟩=false:=Lib.frozen_of_heap m0 0;have c1:w1.cell? ⟨w.1.size+1+1,0,none⟩=some (.int .i64 0):=by rw[Lib.cell_of_heap m1];rfl
 have f1:w1.frozen? ⟨w.1.size+1+1,0,none⟩=false:=Lib.frozen_of_heap m1 0;have c2:w1.cell? ⟨w.1.size+1+1+1,0,none⟩=some v1:=by rw[Lib.cell_of_heap hbk];rfl
 have hlt:=hW1.lt;have HG:=hI (HB.o.trans (hK1.below.mono (by omega)));have HO:=hI hown;obtain⟨ao,n',cap,rfl⟩:∃ ao n' cap,v1=.slice ao n' cap:=by
  rcases hown.2 with⟨hv,_⟩ | ⟨g,cap,cur,hv,_⟩
  ·exact⟨_,_,_,hv⟩
  ·exact⟨_,_,_,hv⟩
 clear hW1 hK1 hbk hown m0 m1 HC HB HN0 HN1;go_wp2
 refine leaves_cons (f:=75) (args:=#[.pointer (some ⟨w.1.size+1,0,none⟩), .pointer (some ⟨w.1.size+1+1,0,none⟩)]) (by simp) (by simp[go_sem]) ?_;refine(qLk ⟨w.1.size+1,0,none⟩ ⟨w.1.size+1+1,0,none⟩ _).mono ?_;rintro e u' w2 ⟨rfl,rfl,rfl⟩;refine⟨.tuple #[.slice ao n' cap, .int .i64 0],by simp[results,results61,go_sem, *],?_⟩;have hle:w.1.size<=w.1.size+1:=by omega
 have hle2:w.1.size<=w.1.size+1+1:=by omega
 refine⟨_,rfl,?_,qQb (xR (xR (zV HG.o none) hle _ _) hle2 _ _)⟩;have hlo:=HO.o.lt;exact(qW2 (b':=w.1.size) HO.o (fun g hg=>by have:=(hlo g hg).1;omega)).kept (jM _ _ _ _) (by cases hv:(Value.slice ao n' cap).ownBlock with | none=>exact .inl rfl | some g=>exact .inr (fun e=>by injection e with e;have:=(hlo g hv).1;omega)) |>.kept (jM _ _ _ _) (by cases hv:(Value.slice ao n' cap).ownBlock with | none=>exact .inl rfl | some g=>exact .inr (fun e=>by injection e with e;have:=(hlo g hv).1;omega))
def qUv(ws:List (List UInt8)):List UInt8:=Lib.join ws [32]
theorem qWI(ws:List (List UInt8)):(ws.map fun x=>(⟨x.toArray⟩:ByteArray)).map (fun b=>b.data.toList)=ws:=by
 induction ws with
 | nil=>rfl
 | cons x r ih=>simp only[List.map_cons,ih]
theorem join_any{v:Value}{B:Nat}{ws:List (List UInt8)}{w:World}(h:w.ownsRow B 9 1 v ws.length (jT ws))(hn:ws.length<=1000000000)(hl:(qUv ws).length<=140737488355328) :
 ∃ ao n cap,v=.slice ao n cap/\Calls prog 62 #[v, .string ⟨#[32]⟩] w fun e w'=>e=.returned (.string ⟨(qUv ws).toArray⟩)/\Below w.1.size w w':=by
 rcases h.2 with⟨rfl,h0⟩ | ⟨g,cap,cur,rfl,_,hg,hc,_⟩
 ·obtain rfl:=List.length_eq_zero_iff.1 h0;exact⟨_,_,_,rfl,(Tryz.strings_Join_none none 0 ⟨#[32]⟩ w).mono fun e w' hq=>⟨hq.1,by rw[hq.2];exact Below.refl _ _⟩⟩
 ·refine⟨_,_,_,rfl,?_⟩;have hcells:=h.cells (g:=g) rfl;have hj:=Tryz.strings_Join g 0 cap (ws.map fun x=>⟨x.toArray⟩) ⟨#[32]⟩ w (fun j x hx=>by
   rw[List.getElem?_map]at hx;obtain⟨y,hy,rfl⟩:=Option.map_eq_some_iff.1 hx;have:=hcells j (.string ⟨y.toArray⟩) (by rw[jT,List.getElem?_map,hy];rfl);rw[Lib.add_plain]at this;exact this) (qJ8 hg) (by rw[List.length_map];omega) (by rw[List.length_map];exact hc) (by rw[qWI];exact hl)
  rw[List.length_map,qWI]at hj;exact hj
def ShowPost(w:World)(ws:List (List UInt8))(e:Ending)(w':World):Prop :=
 e=.returned (.tuple #[.string ⟨(qUv ws).toArray⟩, .int .i64 0])/\Below w.1.size w w'
theorem qWB.below{w w':World}(h:qWB w)(hb:Below w.1.size w w'):qWB w':=⟨h.1.below hb,h.2.under hb h.2.lt⟩
theorem show_any(n:Nat)(t:qQ)(v:Value)(w:World)(ws:List (List UInt8))(h4:qWB w)(hL:xZ w (· < w.1.size) t v)(hF:qZl t)(he:qQO n t=some ws)(hlen:ws.length<=1000000000)(hl:(qUv ws).length<=140737488355328) :
 Calls prog 44 #[qZ t v] w (ShowPost w ws):=by
 obtain⟨q0,vc,rfl,_,_⟩:=hL.shape;have ha:=(Below.refl w.1.size w).alloc (Nat.le_refl _) (.cells (qS t (.slice q0 t.kids.length vc)).toArray 57);have HC:=hI (qLm n t _ (w.alloc (.cells (qS t (.slice q0 t.kids.length vc)).toArray 57)) ws (h4.below ha) (xZ.move (fun g hg hok=>⟨(by simp;omega:g < _),ha.block g hg⟩) t _ hL) hF he hlen);have HA:=hI ha;clear h4 hL hF he ha;simp only[qS,qZ]at *;go_enter func44,ntmps44
 go_wp2_with fail
 refine(HC.o).mono ?_;rintro e w1 ⟨v1,rfl,hown,hb1⟩;obtain⟨ao,n1,cap,rfl,hj⟩:=join_any hown hlen hl;have HJ:=hI hj;have HB:=hI (HA.o.trans (hb1.mono HA.o.size));clear hj hown hb1 HC HA;go_wp2_with fail
 refine(HJ.o).mono ?_;rintro e w2 ⟨rfl,hb2⟩;have HB2:=hI (HB.o.trans (hb2.mono HB.o.size));clear hb2 HJ HB;go_wp2
 go_ret2
 exact⟨rfl,HB2.o⟩
mutual
def kO:qQ->qQ->Bool
 | .mk k x n _ _ ks,b=>k == b.kind && (x == b.text && (n == b.num && xC ks b.kids))
def xC:List qQ->List qQ->Bool
 | [],us=>us.isEmpty
 | t :: ts,us=>match us with
  | []=>false
  | u :: us=>kO t u && xC ts us
end
mutual
def vZ:qQ->Nat
 | .mk _ _ _ _ _ ks=>qKn 0 ks+1
def qKn:Nat->List qQ->Nat
 | m,[]=>m
 | m,t :: ts=>qKn (max m (vZ t)) ts
end
theorem qX3:∀ (ts us:List qQ),xC ts us=true->ts.length=us.length
 | [],us,h=>by cases us with | nil=>rfl | cons u r=>simp[xC]at h
 | t :: ts,us,h=>by
  cases us with
  | nil=>simp[xC]at h
  | cons u r =>
   simp only[xC,bE]at h;simp[qX3 ts r h.2]
theorem qPt:∀ (ts:List qQ) (m:Nat),m<=qKn m ts
 | [],m=>by rw[qKn];exact Nat.le_refl _
 | t :: ts,m=>by
  rw[qKn];exact Nat.le_trans (Nat.le_max_left _ _) (qPt ts _)
theorem qPu:∀ {ts:List qQ} {t:qQ} (_:t∈ts) (m:Nat),vZ t<=qKn m ts
 | u :: ts,t,h,m=>by
  rw[qKn];rcases List.mem_cons.1 h with rfl | h
  ·exact Nat.le_trans (Nat.le_max_right _ _) (qPt ts _)
  ·exact qPu h _
 | [],_,h,_=>by simp at h
open Go
structure qWi where
 kind:Int
 text:List UInt8
 num:Int
def Tok.bare(t:Tok):qWi:=⟨t.kind,t.text,t.num⟩
def Res.bare:Res->Option (List qWi)
 | .bad _ _ _=>none
 | .ok l=>some (l.map Tok.bare)
theorem qWd(n:Nat)(l:List UInt8)(ln c ln' c':Int):(qQp n l ln c).1=(qQp n l ln' c').1:=by
 induction n generalizing l ln c ln' c' with
 | zero=>rfl
 | succ n ih =>
  rw[qQp,qQp];by_cases h:qQC l=0
  ·rw[if_pos h,if_pos h]
  ·rw[if_neg h,if_neg h];exact ih _ _ _ _ _
def strip(l:List UInt8):List UInt8:=(vO l 1 1).1
theorem skip_strip(l:List UInt8)(ln c:Int):(vO l ln c).1=strip l:=qWd _ _ _ _ _ _
theorem qVu(t:Tok)(x:Res):(x.cons t).bare=x.bare.map (t.bare :: ·):=by
 cases x <;> simp[Res.cons,Res.bare]
def qYO(l:List UInt8):qWi:=⟨vA l,l.take (zZ l),if vA l=1 then(qJg (l.take (zZ l))).getD 0 else 0⟩
theorem lexF_place(n:Nat)(l:List UInt8)(ln c ln' c':Int):(qJt n l ln c).bare=(qJt n l ln' c').bare:=by
 induction n generalizing l ln c ln' c' with
 | zero=>rfl
 | succ n ih =>
  rw[qJt,qJt];have e:=qWd l.length l ln c ln' c';generalize qQp l.length l ln c=s at *;generalize qQp l.length l ln' c'=s' at *;obtain⟨s1,s2,s3⟩:=s;obtain⟨t1,t2,t3⟩:=s';simp only at e;subst e;by_cases h1:s1=[]
  ·simp[h1,Res.bare,Tok.bare]
  ·by_cases h2:wK s1=0
   ·simp only[if_neg h1,if_pos h2];rw[qVu,qVu,ih];rfl
   ·simp[h1,h2,Res.bare]
def qZp(l:List UInt8):Option (List qWi):=(qQD l 1 1).bare
theorem qLP(l:List UInt8)(ln c:Int):(qQD l ln c).bare=qZp l:=lexF_place _ _ _ _ _ _
theorem qKW(l:List UInt8):qZp l=if strip l=[]then some [⟨3,[],0⟩]else if wK (strip l)=0 then(qZp ((strip l).drop (zZ (strip l)))).map (qYO (strip l) :: ·)else none:=by
 conv=>lhs;unfold qZp;rw[qJe]
 rw[show(vO l 1 1).1=strip l from rfl];by_cases h1:strip l=[]
 ·rw[if_pos h1,if_pos h1];rfl
 ·by_cases h2:wK (strip l)=0
  ·rw[if_neg h1,if_neg h1,if_pos h2,if_pos h2,qVu,qLP];rfl
  ·rw[if_neg h1,if_neg h1,if_neg h2,if_neg h2];rfl
theorem qYr{l:List UInt8}(h:qQC l=0):strip l=l:=by unfold strip;rw[qUw h]
theorem qYq{l:List UInt8}(h:¬qQC l=0):strip l=strip (l.drop (qQC l)):=by
 conv=>lhs;unfold strip;rw[skip_go h]
 exact skip_strip _ _ _
theorem qYX{b:UInt8}{l:List UInt8}(h:yK (b.toNat:Int)=true):Lib.hasPrefix (b :: l) cmt=false:=by
 unfold Lib.hasPrefix cmt;rw[List.isPrefixOf];have:((47:UInt8) == b)=false:=by
  rw[beq_eq_false_iff_ne];intro e;subst e;exact absurd h (by decide)
 rw[this];rfl
theorem qLe{b:UInt8}{l:List UInt8}(h:yK (b.toNat:Int)=true):strip (b :: l)=strip l:=by
 have hg:qQC (b :: l)=xQ yK l+1:=by
  unfold qQC;rw[qYX h,if_neg (by decide),xQ,if_pos h]
 rw[qYq (by omega),hg,List.drop_succ_cons];by_cases h0:xQ yK l=0
 ·rw[h0,List.drop_zero]
 ·cases l with
  | nil=>exact absurd rfl h0
  | cons a r =>
   have ha:yK (a.toNat:Int)=true:=by
    cases hb:yK (a.toNat:Int)with
    | true=>rfl
    | false=>rw[xQ,hb]at h0;exact absurd rfl h0
   have hg2:qQC (a :: r)=xQ yK (a :: r):=by
    unfold qQC;rw[qYX ha,if_neg (by decide)]
   rw[qYq (l:=a :: r) (by omega),hg2]
theorem qLQ{l l':List UInt8}(h:strip l=strip l'):qZp l=qZp l':=by rw[qKW,qKW l',h]
theorem qLO{b:UInt8}{l:List UInt8}(h:yK (b.toNat:Int)=true):qZp (b :: l)=qZp l:=qLQ (qLe h)
theorem gap_ink{b:UInt8}{l:List UInt8}(h:yK (b.toNat:Int)=false)(hc:Lib.hasPrefix (b :: l) cmt=false):qQC (b :: l)=0:=by
 unfold qQC;rw[hc,if_neg (by decide),xQ,h];rfl
theorem bare_tok{b:UInt8}{l:List UInt8}(h:yK (b.toNat:Int)=false)(hc:Lib.hasPrefix (b :: l) cmt=false) :
 qZp (b :: l)=if wK (b :: l)=0 then(qZp ((b :: l).drop (zZ (b :: l)))).map (qYO (b :: l) :: ·)else none:=by
 rw[qKW,qYr (gap_ink h hc),if_neg (by simp)]
theorem qYK{b:UInt8}{z:List UInt8}(g s:List UInt8)(hg:b∉g):Lib.hasPrefix (s++b :: z) g=Lib.hasPrefix s g:=by
 unfold Lib.hasPrefix;induction g generalizing s with
 | nil=>simp
 | cons a r ih =>
  cases s with
  | nil =>
   have:(a == b)=false:=by
    rw[beq_eq_false_iff_ne];intro e;subst e;exact hg (by simp)
   show((a == b) && r.isPrefixOf z)=false
   rw[this];rfl
  | cons c t =>
   rw[lC,List.isPrefixOf,List.isPrefixOf,ih t (fun h=>hg (by simp[h]))]
theorem qVW{b:UInt8}(h:yK (b.toNat:Int)=true):b=32\/b=9\/b=13\/b=10:=by
 unfold yK at h;have h:=of_decide_eq_true h;have e:∀ n:Nat,n < 256->(b.toNat:Int)=(n:Int)->b=UInt8.ofNat n:=fun n hn he=>by
  apply UInt8.toNat_inj.mp;rw[UInt8.toNat_ofNat'];omega
 rcases h with h | h | h | h
 ·exact .inl (e 32 (by decide) h)
 ·exact .inr (.inl (e 9 (by decide) h))
 ·exact .inr (.inr (.inl (e 13 (by decide) h)))
 ·exact .inr (.inr (.inr (e 10 (by decide) h)))
theorem qLc{b:UInt8}(h:yK (b.toNat:Int)=true):∀ g∈qQv,b∉g:=by
 rcases qVW h with rfl | rfl | rfl | rfl <;> decide
theorem qLS{b:UInt8}{z:List UInt8}(h:yK (b.toNat:Int)=true):xQ qQZ (b :: z)=0:=by
 rcases qVW h with rfl | rfl | rfl | rfl <;> rfl
theorem qLA{ks:List qQ}(h:∀ t∈ks,kO t t=true):xC ks ks=true:=by
 induction ks with
 | nil=>simp[xC]
 | cons t r ih=>simp[xC,h t (by simp),ih (fun u hu=>h u (by simp[hu]))]
theorem zR{k x k' x':List UInt8}{n l c n' l' c':Int}{ks ks':List qQ}(h1:k=k')(h2:x=x')(h3:n=n')(h4:xC ks ks'=true):kO (.mk k x n l c ks) (.mk k' x' n' l' c' ks')=true:=by
 subst h1 h2 h3;simp[kO,qQ.kind,qQ.text,qQ.num,qQ.kids,h4]
theorem jN{a b:qQ}(h:kO a b=true):a.kind=b.kind/\a.text=b.text/\a.num=b.num/\xC a.kids b.kids=true:=by
 cases a;simp only[kO,bE,beq_iff_eq]at h;exact⟨h.1,h.2.1,h.2.2.1,h.2.2.2⟩
theorem yL:xC [] []=true:=by simp[xC]
theorem jC{t u:qQ}(h:kO t u=true):xC [t] [u]=true:=by simp[xC,h]
theorem qZi{t u t' u':qQ}(h:kO t u=true)(h':kO t' u'=true):xC [t,t'] [u,u']=true:=by simp[xC,h,h']
theorem wA:∀ {a b a' b':List qQ},xC a b=true->xC a' b'=true->xC (a++a') (b++b')=true
 | [],b,a',b',h,h'=>by
  cases b with
  | nil=>exact h'
  | cons u r=>simp[xC]at h
 | t :: r,b,a',b',h,h'=>by
  cases b with
  | nil=>simp[xC]at h
  | cons u s =>
   simp only[xC,bE,lC]at h ⊢;exact⟨h.1,wA h.2 h'⟩
def Al(l l':List Tok):Prop:=l.map Tok.bare=l'.map Tok.bare
def qKy(t t':Tok):Prop:=t.bare=t'.bare
def xN(a b:qQ):Prop:=kO a b=true
def qYQ(a b:List qQ):Prop:=xC a b=true
theorem qKy.kind{t t':Tok}(h:qKy t t'):t.kind=t'.kind:=congrArg qWi.kind h
theorem qKy.text{t t':Tok}(h:qKy t t'):t.text=t'.text:=congrArg qWi.text h
theorem qKy.num{t t':Tok}(h:qKy t t'):t.num=t'.num:=congrArg qWi.num h
theorem Al.hd{l l':List Tok}(h:Al l l'):qKy (hdT l) (hdT l'):=by
 unfold Al at h;cases l with
 | nil =>
  cases l' with
  | nil=>rfl
  | cons t r=>simp at h
 | cons t r =>
  cases l' with
  | nil=>simp at h
  | cons t' r' =>
   simp only[List.map_cons,List.cons.injEq]at h;exact h.1
def zJ{α:Type}(S:α->α->Prop):PR α->PR α->Prop
 | .ok a l, .ok b l'=>S a b/\Al l l'
 | .bad _ _ c, .bad _ _ c'=>c=c'
 | .out, .out=>True
 | _,_=>False
section
variable {α β:Type} {S:α->α->Prop} {T:β->β->Prop}
theorem zJ.ok{a b:α}{l l':List Tok}(h:S a b)(h':Al l l'):zJ S (.ok a l) (.ok b l'):=⟨h,h'⟩
theorem zJ.bind{p p':PR α}{f f':α->List Tok->PR β}(h:zJ S p p')(hf:∀ a b l l',S a b->Al l l'->zJ T (f a l) (f' b l')):zJ T (p.bind f) (p'.bind f'):=by
 cases p with
 | ok a l =>
  cases p' with
  | ok b l'=>exact hf a b l l' h.1 h.2
  | bad _ _ _=>exact h.elim
  | out=>exact h.elim
 | bad x y c =>
  cases p' with
  | ok b l'=>exact h.elim
  | bad _ _ _=>exact h
  | out=>exact h.elim
 | out =>
  cases p' with
  | ok b l'=>exact h.elim
  | bad _ _ _=>exact h.elim
  | out=>trivial
theorem zJ.ite{b b':Bool}{p q p' q':PR α}(hb:b=b')(h1:zJ S p p')(h2:zJ S q q'):zJ S (if b=true then p else q) (if b'=true then p' else q'):=by
 subst hb;cases b
 ·exact h2
 ·exact h1
end
theorem qW6(code:Int)(l l':List Tok):zJ xN (qWQ code l) (qWQ code l'):=rfl
theorem xS{may may':Bool}{l l':List Tok}(hm:may=may')(h:Al l l'):zJ qKy (jV may l) (jV may' l'):=by
 subst hm;unfold Al at h;cases l with
 | nil =>
  cases l' with
  | nil=>rfl
  | cons t r=>simp at h
 | cons t r =>
  cases l' with
  | nil=>simp at h
  | cons t' r' =>
   simp only[List.map_cons,List.cons.injEq]at h;cases may
   ·rfl
   ·exact⟨h.1,h.2⟩
def UnitE(_ _:Unit):Prop:=True
theorem Al.text{l l':List Tok}(h:Al l l')(x:List UInt8):((hdT l).text == x)=((hdT l').text == x):=by rw[h.hd.text]
theorem Al.kind{l l':List Tok}(h:Al l l')(x:Int):((hdT l).kind == x)=((hdT l').kind == x):=by rw[h.hd.kind]
theorem Al.name{l l':List Tok}(h:Al l l'):kR (hdT l)=kR (hdT l'):=by unfold kR;rw[h.hd.kind,h.hd.text]
theorem Al.type{l l':List Tok}(h:Al l l'):yG (hdT l).text=yG (hdT l').text:=by rw[h.hd.text]
theorem zQ:∀ (xs:List (List UInt8)) {l l':List Tok},Al l l'->zJ UnitE (jL xs l) (jL xs l')
 | [],_,_,h=>⟨trivial,h⟩
 | x :: xs,_,_,h=>(xS (h.text x) h).bind fun _ _ _ _ _ h'=>zQ xs h'
theorem vJ{d:Int}{p p':Int->List Tok->PR qQ}{l l':List Tok}(h:zJ xN (p (d+1) l) (p' (d+1) l')):zJ xN (xX d p l) (xX d p' l'):=by
 unfold xX;by_cases hd:d=60
 ·rw[if_pos hd,if_pos hd];exact qW6 _ _ _
 ·rw[if_neg hd,if_neg hd];exact h
theorem qZA{stop:Tok->Bool}{p p':List Tok->PR qQ}(hs:∀ {t t'},qKy t t'->stop t=stop t')(hp:∀ {l l'},Al l l'->zJ xN (p l) (p' l')):∀ (n:Nat) {acc acc':List qQ} {l l':List Tok},qYQ acc acc'->Al l l'->zJ qYQ (vI stop p n acc l) (vI stop p' n acc' l')
 | 0,_,_,_,_,_,_=>trivial
 | n+1,acc,acc',l,l',ha,h=>by
  rw[vI,vI];exact zJ.ite (hs h.hd) (zJ.ok ha h) ((hp h).bind fun _ _ _ _ ht h'=>qZA hs hp n (wA ha (jC ht)) h')
theorem qQc{kind:List UInt8}{void void':Bool}(hv:void=void'){l l':List Tok}(h:Al l l'):zJ xN (zG kind void l) (zG kind void' l') :=
 (xS (by rw[hv,h.type]) h).bind fun _ _ _ _ ht h1=>(xS h1.name h1).bind fun _ _ _ _ hu h2=>zJ.ok (zR rfl hu.text rfl (jC (zR rfl ht.text rfl yL))) h2
theorem qXv{l l':List Tok}(h:Al l l'):zJ xN (wQ l) (wQ l'):=(xS (h.kind 1) h).bind fun _ _ _ _ ht h1=>zJ.ok (zR rfl rfl ht.num yL) h1
theorem qXu{n:Nat}{p p':List Tok->PR qQ}(hp:∀ {l l'},Al l l'->zJ xN (p l) (p' l')){l l':List Tok}(h:Al l l'):zJ qYQ (xT n p l) (xT n p' l'):=by
 unfold xT;refine(zQ [[40]] h).bind fun _ _ l1 l1' _ h1=>?_
 refine zJ.ite (h1.text [41]) ((zQ [[41]] h1).bind fun _ _ _ _ _ h2=>zJ.ok yL h2) ?_;refine(hp h1).bind fun _ _ _ _ ht h2=>?_
 refine(qZA (fun ht=>by rw[ht.text]) (fun hl=>(zQ [[44]] hl).bind fun _ _ _ _ _ h3=>hp h3) n (jC ht) h2).bind fun _ _ _ _ hts h3=>?_
 exact(zQ [[41]] h3).bind fun _ _ _ _ _ h4=>zJ.ok hts h4
section
variable {rec:NT->Int->List Tok->PR qQ} {n:Nat}
def qZa(rec:NT->Int->List Tok->PR qQ):Prop:=∀ x d {l l':List Tok},Al l l'->zJ xN (rec x d l) (rec x d l')
theorem qXw(H:qZa rec)(d:Int){l l':List Tok}(h:Al l l'):zJ xN (xF rec d l) (xF rec d l'):=by
 unfold xF;refine(xS h.name h).bind fun _ _ _ _ ht h1=>?_
 refine zJ.ite (h1.text [91]) ((zQ [[91]] h1).bind fun _ _ _ _ _ h2=>(vJ (H (.binary 0) (d+1) h2)).bind fun _ _ _ _ he h3=>(zQ [[93]] h3).bind fun _ _ _ _ _ h4=>zJ.ok (zR rfl ht.text rfl (jC he)) h4) ?_;exact zJ.ok (zR rfl ht.text rfl yL) h1
theorem qVL(H:qZa rec)(d:Int){l l':List Tok}(h:Al l l'):zJ xN (yJ rec d l) (yJ rec d l'):=by
 unfold yJ;refine(xS (h.text [40]) h).bind fun _ _ _ _ ht h1=>?_
 refine zJ.ite h1.type ((xS rfl h1).bind fun _ _ _ _ hu h2=>(zQ [[41]] h2).bind fun _ _ _ _ _ h3=>(vJ (H .operand (d+1) h3)).bind fun _ _ _ _ he h4=>zJ.ok (zR rfl hu.text rfl (jC he)) h4) ?_;exact(vJ (H (.binary 0) (d+1) h1)).bind fun _ _ _ _ he h2=>(zQ [[41]] h2).bind fun _ _ _ _ _ h3=>zJ.ok he h3
theorem qJR(H:qZa rec)(d:Int){l l':List Tok}(h:Al l l'):zJ xN (jU rec d l) (jU rec d l'):=by
 unfold jU;refine zJ.ite (h.kind 1) (qXv h) ?_;refine zJ.ite (by rw[h.hd.text]) ((xS rfl h).bind fun _ _ _ _ hu h1=>zJ.ok (zR hu.text rfl rfl yL) h1) ?_;refine zJ.ite (by rw[h.hd.text]) ((xS rfl h).bind fun _ _ _ _ hu h1=>(vJ (H .operand (d+1) h1)).bind fun _ _ _ _ he h2=>zJ.ok (zR rfl hu.text rfl (jC he)) h2) ?_;exact zJ.ite (h.text [40]) (qVL H d h) (qXw H d h)
theorem qZR(H:qZa rec)(k d:Int):∀ (m:Nat) {left left':qQ} {l l':List Tok},xN left left'->Al l l'->zJ xN (kX rec k d m left l) (kX rec k d m left' l')
 | 0,_,_,_,_,_,_=>trivial
 | m+1,left,left',l,l',hl,h=>by
  rw[kX,kX,h.hd.text];by_cases hk:xL (hdT l').text < k
  ·rw[if_pos hk,if_pos hk];exact zJ.ok hl h
  ·rw[if_neg hk,if_neg hk];exact(xS rfl h).bind fun _ _ _ _ ht h1=>(H _ d h1).bind fun _ _ _ _ hr h2=>qZR H k d m (zR rfl ht.text rfl (qZi hl hr)) h2
theorem qKL(H:qZa rec)(k d:Int){l l':List Tok}(h:Al l l'):zJ xN (qQy rec n k d l) (qQy rec n k d l'):=by
 unfold qQy;exact(H .operand d h).bind fun _ _ _ _ he h1=>qZR H k d n he h1
theorem qZz(H:qZa rec)(d:Int){l l':List Tok}(h:Al l l'):zJ xN (qQh rec d l) (qQh rec d l'):=H (.binary 0) d h
theorem qJQ(H:qZa rec)(d:Int){l l':List Tok}(h:Al l l'):zJ xN (qQz rec n d l) (qQz rec n d l'):=by
 unfold qQz;exact(xS h.name h).bind fun _ _ _ _ ht h1=>(qXu (fun hl=>vJ (H (.binary 0) (d+1) hl)) h1).bind fun _ _ _ _ hts h2=>zJ.ok (zR rfl ht.text rfl hts) h2
theorem Al.call{l l':List Tok}(h:Al l l'):qQR l=qQR l':=by
 unfold Al at h;match l,l',h with
 | [],[],_=>rfl
 | [],_ :: _,h=>simp at h
 | _ :: _,[],h=>simp at h
 | [t],[t'],_=>rfl
 | [t],_ :: _ :: _,h=>simp at h
 | _ :: _ :: _,[t],h=>simp at h
 | t :: u :: r,t' :: u' :: r',h =>
  simp only[List.map_cons,List.cons.injEq]at h;have h1:qKy t t':=h.1;have h2:qKy u u':=h.2.1;show(kR t && u.text == [40])=(kR t' && u'.text == [40])
  unfold kR;rw[h1.kind,h1.text,h2.text]
theorem qKK(H:qZa rec)(d:Int){l l':List Tok}(h:Al l l'):zJ xN (jJ rec n d l) (jJ rec n d l'):=by
 unfold jJ;refine zJ.ite h.call ((qJQ H d h).bind fun _ _ _ _ ht h1=>(zQ [[59]] h1).bind fun _ _ _ _ _ h2=>zJ.ok ht h2) ?_;refine(qXw H d h).bind fun _ _ _ _ hx h1=>(zQ [[61]] h1).bind fun _ _ _ _ _ h2=>?_
 refine zJ.ite (h2.text qW) ((zQ [qW,[40],[41]] h2).bind fun _ _ _ _ _ h3=>(zQ [[59]] h3).bind fun _ _ _ _ _ h4=>zJ.ok (zR rfl rfl rfl (jC hx)) h4) ?_;refine zJ.ite h2.call ((qJQ H d h2).bind fun _ _ _ _ hy h3=>(zQ [[59]] h3).bind fun _ _ _ _ _ h4=>zJ.ok (zR rfl rfl rfl (qZi hx hy)) h4) ?_;exact(qZz H d h2).bind fun _ _ _ _ hy h3=>(zQ [[59]] h3).bind fun _ _ _ _ _ h4=>zJ.ok (zR rfl rfl rfl (qZi hx hy)) h4
theorem qVI(H:qZa rec)(d:Int){l l':List Tok}(h:Al l l'):zJ xN (kL rec d l) (kL rec d l'):=by
 unfold kL;exact(xS rfl h).bind fun _ _ _ _ ht h1=>(zQ [[40]] h1).bind fun _ _ _ _ _ h2=>(qZz H d h2).bind fun _ _ _ _ he h3=>(zQ [[41],[59]] h3).bind fun _ _ _ _ _ h4=>zJ.ok (zR ht.text rfl rfl (jC he)) h4
theorem qVJ(H:qZa rec)(d:Int){l l':List Tok}(h:Al l l'):zJ xN (yC rec d l) (yC rec d l'):=by
 unfold yC;refine(zQ [qV] h).bind fun _ _ _ _ _ h1=>?_
 refine zJ.ite (h1.text [59]) ((zQ [[59]] h1).bind fun _ _ _ _ _ h2=>zJ.ok (zR rfl rfl rfl yL) h2) ?_;exact(qZz H d h1).bind fun _ _ _ _ he h2=>(zQ [[59]] h2).bind fun _ _ _ _ _ h3=>zJ.ok (zR rfl rfl rfl (jC he)) h3
theorem qZS(H:qZa rec)(word:List UInt8)(d:Int){l l':List Tok}(h:Al l l'):zJ xN (jK rec word d l) (jK rec word d l'):=by
 unfold jK;exact(zQ [word,[40]] h).bind fun _ _ _ _ _ h1=>(qZz H d h1).bind fun _ _ _ _ he h2=>(zQ [[41]] h2).bind fun _ _ _ _ _ h3=>(vJ (H .block (d+1) h3)).bind fun _ _ _ _ hb h4=>zJ.ok (zR rfl rfl rfl (qZi he hb)) h4
theorem qKM(H:qZa rec)(d:Int){l l':List Tok}(h:Al l l'):zJ xN (vF rec d l) (vF rec d l'):=by
 unfold vF;refine(qZS H kIf d h).bind fun t t' _ _ ht h1=>?_
 refine zJ.ite (h1.text zS) ((zQ [zS] h1).bind fun _ _ _ _ _ h2=>(vJ (H .block (d+1) h2)).bind fun _ _ _ _ hb h3=>zJ.ok ?_ h3) (zJ.ok ht h1);obtain⟨e1,e2,e3,e4⟩:=jN ht;exact zR e1 e2 e3 (wA e4 (jC hb))
theorem qVK{l l':List Tok}(h:Al l l'):zJ xN (qQM l) (qQM l'):=(qQc rfl h).bind fun _ _ _ _ ht h1=>(zQ [[59]] h1).bind fun _ _ _ _ _ h2=>zJ.ok ht h2
theorem qW8(H:qZa rec)(d:Int){l l':List Tok}(h:Al l l'):zJ xN (qQA rec n d l) (qQA rec n d l'):=by
 unfold qQA;refine zJ.ite (h.text kIf) (qKM H d h) ?_;refine zJ.ite (h.text qA) (qZS H qA d h) ?_;refine zJ.ite (h.text qV) (qVJ H d h) ?_;refine zJ.ite (by rw[h.hd.text]) (qVI H d h) ?_;exact zJ.ite h.type (qVK h) (qKK H d h)
theorem qVH(H:qZa rec)(d:Int){l l':List Tok}(h:Al l l'):zJ xN (qQK rec n d l) (qQK rec n d l'):=by
 unfold qQK;refine(zQ [[123]] h).bind fun _ _ _ _ _ h1=>?_
 exact(qZA (fun ht=>by rw[ht.text]) (fun hl=>qW8 H d hl) n yL h1).bind fun _ _ _ _ hts h2=>(zQ [[125]] h2).bind fun _ _ _ _ _ h3=>zJ.ok (zR rfl rfl rfl hts) h3
end
theorem qXb:∀ n,qZa (qQd n)
 | 0=>fun _ _ _ _ _=>trivial
 | n+1=>fun x d l l' h=>by
  cases x with
  | block=>exact qVH (qXb n) d h
  | binary k=>exact qKL (qXb n) k d h
  | operand=>exact qJR (qXb n) d h
theorem qW7(n:Nat){l l':List Tok}(h:Al l l'):zJ xN (qZe n l) (qZe n l'):=by
 unfold qZe;refine(qQc (h.text zA) h).bind fun t t' l1 l1' ht h1=>?_
 obtain⟨e1,e2,e3,e4⟩:=jN ht;refine zJ.ite (by rw[h.hd.text,h1.hd.text]) ((qXu (fun hl=>qQc rfl hl) h1).bind fun _ _ _ _ hps h2=>(vJ (qXb n .block (0+1) h2)).bind fun _ _ _ _ hb h3=>zJ.ok (zR rfl e2 e3 (wA (wA e4 hps) (jC hb))) h3) ?_;refine zJ.ite (h1.text [91]) ((zQ [[91]] h1).bind fun _ _ _ _ _ h2=>(qXv h2).bind fun _ _ _ _ hm h3=>(zQ [[93]] h3).bind fun _ _ _ _ _ h4=>(zQ [[59]] h4).bind fun _ _ _ _ _ h5=>zJ.ok (zR e1 e2 e3 (wA e4 (jC hm))) h5) ?_;exact(zQ [[59]] h1).bind fun _ _ _ _ _ h2=>zJ.ok ht h2
theorem rel_program(n:Nat){l l':List Tok}(h:Al l l'):zJ xN (xW n l) (xW n l'):=by
 unfold xW;exact(qZA (fun ht=>by rw[ht.kind]) (fun hl=>qW7 n hl) n yL h).bind fun _ _ _ _ hts h1=>zJ.ok (zR rfl rfl rfl hts) h1
def T(w:List UInt8):Tok:=⟨vA w,w,if vA w=1 then(qJg w).getD 0 else 0,0,0⟩
section
variable {α β:Type} {D:Prop} {S:α->Prop} {S':β->Prop} {l l':List Tok}
end
/-! ### Words -/
theorem name_parts{x:List UInt8}(h:jH x=true):∃ b r,x=b :: r/\qZx b.toNat=true/\qWm x=false:=by
 unfold jH at h;cases x with
 | nil=>simp at h
 | cons b r =>
  simp only[qQ0,bE,Bool.or_eq_true,Bool.not_eq_true',beq_iff_eq]at h;refine⟨b,r,rfl,?_,h.2.2⟩;rcases h.1.1 with h1 | h1
  ·exact h1
  ·simp at h1
theorem type_in{x:List UInt8}(h:yG x=true):x∈qQw:=by
 have:∀ (L:List (List UInt8)),kJ x L=true->x∈L:=by
  intro L;induction L with
  | nil=>intro h;simp[kJ]at h
  | cons g r ih =>
   intro h;rw[kJ]at h;by_cases he:g=x
   ·simp[he]
   ·rw[if_neg he]at h;simp[ih h]
 exact this _ h
theorem qKE(k:Nat)(h:k < 10):(UInt8.ofNat (48+k)).toNat=48+k:=by
 rw[UInt8.toNat_ofNat'];omega
theorem qUI(u:Nat):∀ b∈Lib.decDigits u,48<=b.toNat/\b.toNat<=57:=by
 induction u using Nat.strongRecOn with
 | _ u ih =>
  intro b hb;rw[Lib.decDigits]at hb;by_cases h:u < 10
  ·rw[dif_pos h]at hb;obtain rfl:b=UInt8.ofNat (48+u):=by simpa using hb
   rw[qKE u h];omega
  ·rw[dif_neg h]at hb;rcases List.mem_append.1 hb with hb | hb
   ·exact ih (u / 10) (by omega) b hb
   ·obtain rfl:b=UInt8.ofNat (48+u % 10):=by simpa using hb
    rw[qKE _ (by omega)];omega
theorem dec_ne(u:Nat):Lib.decDigits u≠[]:=by
 rw[Lib.decDigits];by_cases h:u < 10
 ·rw[dif_pos h];simp
 ·rw[dif_neg h];simp
theorem qPr(u:Nat):∃ b r,Lib.decDigits u=b :: r/\48<=b.toNat/\b.toNat<=57:=by
 cases h:Lib.decDigits u with
 | nil=>exact absurd h (dec_ne u)
 | cons b r=>exact⟨b,r,rfl,qUI u b (by rw[h];simp)⟩
theorem num_app:∀ (l:List UInt8) (acc:Int) (b:UInt8),xJ 10 acc (l++[b])=(xJ 10 acc l).bind fun a=>xJ 10 a [b]
 | [],acc,b=>by simp[xJ]
 | c :: r,acc,b=>by
  rw[lC,xJ,xJ];split
  ·rfl
  ·exact num_app r _ b
theorem dig_of(k:Nat)(h:k < 10):qQa ((UInt8.ofNat (48+k)).toNat:Int)=k:=by
 rw[qKE k h];unfold qQa;rw[if_pos (by omega)];omega
theorem num_one(k:Nat)(h:k < 10)(a:Int)(ha:a * 10+k<=18446744073709551615):xJ 10 a [UInt8.ofNat (48+k)]=some (a * 10+k):=by
 rw[xJ,dig_of k h,if_neg (by omega),xJ]
theorem dec_from(u:Nat)(hu:u<=18446744073709551615):xJ 10 0 (Lib.decDigits u)=some (u:Int):=by
 induction u using Nat.strongRecOn with
 | _ u ih =>
  rw[Lib.decDigits];by_cases h:u < 10
  ·rw[dif_pos h,num_one u h 0 (by omega)];simp
  ·rw[dif_neg h,num_app,ih (u / 10) (by omega) (by omega),Option.bind_some,num_one (u % 10) (by omega) _ (by omega)];congr 1
   omega
theorem dec_hex(u:Nat):Lib.hasPrefix (Lib.decDigits u) qWl=false:=by
 cases h:Lib.decDigits u with
 | nil=>rfl
 | cons b r =>
  cases r with
  | nil=>cases hh:Lib.hasPrefix [b] qWl with
   | false=>rfl
   | true=>simp[Lib.hasPrefix,qWl]at hh
  | cons c r =>
   have hc:=qUI u c (by rw[h];simp);cases hh:Lib.hasPrefix (b :: c :: r) qWl with
   | false=>rfl
   | true =>
    exfalso;simp[Lib.hasPrefix,qWl]at hh;obtain⟨h1,h2⟩:=hh;subst h2;revert hc
    decide
theorem dec_num(u:Nat)(hu:u<=18446744073709551615):qJg (Lib.decDigits u)=some (u:Int):=by
 rw[qJg,if_neg (by rw[dec_hex];simp),if_neg (dec_ne u),dec_from u hu]
theorem dec_kind(u:Nat):vA (Lib.decDigits u)=1:=by
 obtain⟨b,r,e,h1,h2⟩:=qPr u;rw[e,vA];have hl:qZx (b.toNat:Int)=false:=by unfold qZx;simp;omega
 have hd:qQa (b.toNat:Int) < 10:=by unfold qQa;rw[if_pos (by omega)];omega
 rw[hl,if_neg (by simp),if_pos hd]
structure HeadE(w:List UInt8):Prop where
 type:yG w=false
 paren:w≠[41]
 nondet:w≠qW
 semi:w≠[59]
theorem qLj{x:List UInt8}(h:qXD x=true):x=[33]\/x=[126]\/x=[45]:=by
 simp only[qXD,Bool.or_eq_true,beq_iff_eq]at h;rcases h with(h | h) | h <;> simp[h]
theorem head_lit{w:List UInt8}(h:(yG w || (w == [41] || (w == qW || w == [59])))=false):HeadE w:=by
 simp only[Bool.or_eq_false_iff,beq_eq_false_iff_ne]at h;exact⟨h.1,h.2.1,h.2.2.1,h.2.2.2⟩
theorem op_in{x:List UInt8}(h:0<=xL x):x∈[[124,124],[38,38],[124],[94],[38],[61,61],[33,61],[60],[60,61],[62],[62,61],[60,60],[62,62],[43],[45],[42],[47],[37]]:=by
 by_cases hc:([[124,124],[38,38],[124],[94],[38],[61,61],[33,61],[60],[60,61],[62],[62,61],[60,60],[62,62],[43],[45],[42],[47],[37]]:List (List UInt8)).contains x=true
 ·simpa using hc
 ·exfalso;simp only[Bool.not_eq_true,List.contains_cons,List.contains_nil,bP,Bool.or_eq_false_iff]at hc;obtain⟨h0,h1,h2,h3,h4,h5,h6,h7,h8,h9,h10,h11,h12,h13,h14,h15,h16,h17⟩:=hc;have:xL x=-1:=by simp only[xL,jG,xE,List.contains_cons,List.contains_nil,bP,h0,h1,h2,h3,h4,h5,h6,h7,h8,h9,h10,h11,h12,h13,h14,h15,h16,h17,bF,if_false,reduceIte,Bool.or_self]
  omega
/-! ### The writer at a node that is spelled out -/
section
variable (rec:WT->qQ->Ws) (k x:List UInt8) (m ln co:Int) (ks:List qQ)
theorem qWZ:qZy (.mk k x m ln co ks)=ifW (k == zD && (x == [] && ks.length == 0)) (some [Lib.decDigits m.toNat]):=rfl
theorem qKN:wU rec (.mk k x m ln co ks)=if k == qL then
 match ks with
 | [e]=>ifW (jH x && m == 0) (jD (some [x,[91]]) (jD (rec .expr e) (some [[93]])))
 | _=>none
 else ifW (k == zM && (jH x && m == 0) && ks.length == 0) (some [x]):=rfl
theorem qX0:qY7 rec (.mk k x m ln co ks)=if k == qM then
 match ks with
 | [a,b]=>ifW (decide (0<=xL x) && m == 0) (jD (wZ rec a) (jD (some [x]) (wZ rec b)))
 | _=>none
 else if k == qT then
  match ks with
  | [a]=>ifW (qXD x && m == 0) (jD (some [x]) (wZ rec a))
  | _=>none
 else if k == zK then
  match ks with
  | [a]=>ifW (yG x && m == 0) (jD (some [[40],x,[41]]) (wZ rec a))
  | _=>none
 else if k == zL || k == qH then ifW ((x == [] && m == 0) && ks.length == 0) (some [k])
 else if k == zD then qZy (.mk k x m ln co ks)
 else wU rec (.mk k x m ln co ks):=rfl
theorem qWJ:qKY rec (.mk k x m ln co ks)=ifW (k == zW && (jH x && m == 0)) (jD (some [x,[40]]) (jD (wO (rec .expr) ks) (some [[41]]))):=rfl
theorem qJH:qQi rec (.mk k x m ln co ks)=match ks with
 | e :: b :: _=>jD (some [k,[40]]) (jD (rec .expr e) (jD (some [[41]]) (rec .block b)))
 | _=>none:=rfl
theorem qJb:qK0 rec (.mk k x m ln co ks)=ifW (x == [] && m == 0) (match ks with
 | [_,_]=>qQi rec (.mk k x m ln co ks)
 | [_,_,c]=>jD (qQi rec (.mk k x m ln co ks)) (jD (some [zS]) (rec .block c))
 | _=>none):=rfl
theorem qK7:qPF rec (.mk k x m ln co ks)=ifW (x == [] && m == 0) (match ks with
 | [y]=>ifW (k == qW) (jD (wU rec y) (some [[61],qW,[40],[41]]))
 | [y,z]=>if k == qP then jD (wU rec y) (jD (some [[61]]) (rec .expr z))else ifW (k == qN) (jD (wU rec y) (jD (some [[61]]) (qKY rec z)))
 | _=>none):=rfl
theorem qUJ(void:Bool):vY void (.mk k x m ln co ks)=match ks with
 | u :: _=>ifW (u.kind == zB && (u.num == 0 && u.kids.length == 0) && (yG u.text || void && u.text == zA)) (some [u.text,x])
 | []=>none:=rfl
theorem paramW_mk:qZ1 (.mk k x m ln co ks)=ifW (k == qO && (jH x && m == 0) && ks.length == 1) (vY false (.mk k x m ln co ks)):=rfl
theorem wX:qJr rec (.mk k x m ln co ks)=if k == kIf then qK0 rec (.mk k x m ln co ks)
 else if k == qA then ifW ((x == [] && m == 0) && ks.length == 2) (qQi rec (.mk k x m ln co ks))
 else if k == qE then ifW ((jH x && m == 0) && ks.length == 1) (qQn (vY false (.mk k x m ln co ks)))
 else if k == zW then qQn (qKY rec (.mk k x m ln co ks))
 else if k == qV then ifW ((x == [] && m == 0) && decide (ks.length<=1)) (qQn (jD (some [qV]) (wO (rec .expr) ks)))
 else if k == qF || k == qD then
  match ks with
  | [e]=>ifW (x == [] && m == 0) (qQn (jD (some [k,[40]]) (jD (rec .expr e) (some [[41]]))))
  | _=>none
 else qQn (qPF rec (.mk k x m ln co ks)):=rfl
theorem qYY:qVv rec (.mk k x m ln co ks)=ifW (k == zX && (x == [] && m == 0)) (jD (some [[123]]) (jD (qZP (qJr rec) ks) (some [[125]]))):=rfl
theorem qK6:kA rec (.mk k x m ln co ks)=match ks with
 | _ :: v :: r=>ifW (jH x && m == 0) (jD (vY true (.mk k x m ln co ks)) (jD (some [[40]]) (jD (wO qZ1 ((v :: r).dropLast)) (jD (some [[41]]) (rec .block ((v :: r).getLast (List.cons_ne_nil v r)))))))
 | _=>none:=rfl
theorem qKF:qXa (.mk k x m ln co ks)=ifW (k == qG && (jH x && m == 0)) (match ks with
 | [_]=>qQn (vY false (.mk k x m ln co ks))
 | [_,n]=>qQn (jD (vY false (.mk k x m ln co ks)) (jD (some [[91]]) (jD (qZy n) (some [[93]]))))
 | _=>none):=rfl
theorem qV9(n:Nat):qQO n (.mk k x m ln co ks)=ifW (k == qY && (x == [] && m == 0)) (qZP (fun k=>if k.kind == qC then kA (qZB n) k else qXa k) ks):=rfl
end
open Go.RowKit
def qJv:List (ByteArray×Int×Bool):=[(⟨#[98,111,111,108]⟩,1,false),(⟨#[117,56]⟩,8,false),(⟨#[117,49,54]⟩,16,false),(⟨#[117,51,50]⟩,32,false),(⟨#[117,54,52]⟩,64,false),
 (⟨#[105,56]⟩,8,true),(⟨#[105,49,54]⟩,16,true),(⟨#[105,51,50]⟩,32,true),(⟨#[105,54,52]⟩,64,true)]
def tN(i:Nat):ByteArray:=(qJv.getD i (⟨#[]⟩,0,false)).1
def tW(i:Nat):Int:=(qJv.getD i (⟨#[]⟩,0,false)).2.1
def tS(i:Nat):Bool:=(qJv.getD i (⟨#[]⟩,0,false)).2.2
structure qZo(b off cap:Nat)(w:World):Prop where
 tg:w.cell? ⟨4,0,none⟩=some (.slice (some ⟨b,off,none⟩) 9 cap)
 tn:∀ i,i < 9->w.cell? ⟨b,off+i * 3,none⟩=some (.string (tN i))
 tw:∀ i,i < 9->w.cell? ⟨b,off+i * 3+1,none⟩=some (.int .i64 (tW i))
 ts:∀ i,i < 9->w.cell? ⟨b,off+i * 3+2,none⟩=some (.bool (tS i))
theorem qZo.below{b off cap:Nat}{w w':World}(h:qZo b off cap w)(hb:Below w.1.size w w'):qZo b off cap w' :=
 ⟨kP hb h.tg,fun i hi=>(hb.cell (qJ (h.tn i hi))).trans (h.tn i hi),fun i hi=>(hb.cell (qJ (h.tw i hi))).trans (h.tw i hi),fun i hi=>(hb.cell (qJ (h.ts i hi))).trans (h.ts i hi)⟩
def qKi(w:World):Prop:=∃ b off cap,qZo b off cap w
theorem qKi.below{w w':World}(h:qKi w)(hb:Below w.1.size w w'):qKi w':=by
 obtain⟨b,off,cap,h⟩:=h;exact⟨b,off,cap,h.below hb⟩
theorem qKi.alloc{w:World}(h:qKi w)(o:Obj):qKi (w.alloc o):=h.below ((Below.refl _ _).alloc (Nat.le_refl _) o)
theorem qJ3{w w':World}{o:Obj}(h:Below (w.1.size+1) (w.alloc o) w'):Below w.1.size w w' :=
 ((Below.refl _ _).alloc (Nat.le_refl _) o).trans (h.mono (by omega))
def qQ3(W:Int)(S:Bool):List (ByteArray×Int×Bool)->ByteArray
 | []=>⟨#[]⟩
 | (n,w,s) :: r=>if w=W/\s=S then n else qQ3 W S r
def qZJ(W:Int)(S:Bool):ByteArray:=qQ3 W S qJv
def qJh(s:ByteArray):List (ByteArray×Int×Bool)->Int×Bool×Bool
 | []=>(0,false,false)
 | (n,w,g) :: r=>if n=s then(w,g,true)else qJh s r
def qXr(s:ByteArray):Int×Bool×Bool:=qJh s qJv
theorem qVl(k:Nat)(h:k < 9):qJv.drop k=(tN k,tW k,tS k) :: qJv.drop (k+1):=by
 match k,h with
 | 0,_=>rfl
 | 1,_=>rfl
 | 2,_=>rfl
 | 3,_=>rfl
 | 4,_=>rfl
 | 5,_=>rfl
 | 6,_=>rfl
 | 7,_=>rfl
 | 8,_=>rfl
theorem name_hit{W:Int}{S:Bool}{k:Nat}(h:k < 9)(hw:tW k=W)(hs:tS k=S)(hn:qQ3 W S (qJv.drop k)=qZJ W S):tN k=qZJ W S:=by
 rw[qVl k h]at hn;rw[<-hn,qQ3,if_pos ⟨hw,hs⟩]
theorem qUj{W:Int}{S:Bool}{k:Nat}(h:k < 9)(hw:¬(tW k=W/\tS k=S))(hn:qQ3 W S (qJv.drop k)=qZJ W S):qQ3 W S (qJv.drop (k+1))=qZJ W S:=by
 rw[qVl k h]at hn;rw[<-hn,qQ3,if_neg hw]
theorem name_end{W:Int}{S:Bool}{k:Nat}(h:k<=9)(h':¬k < 9)(hn:qQ3 W S (qJv.drop k)=qZJ W S):(⟨#[]⟩:ByteArray)=qZJ W S:=by
 obtain rfl:k=9:=by omega
 rw[<-hn];rfl
theorem qP7{a b:ByteArray}(h:a=b):Ending.returned (.string a)=.returned (.string b):=by rw[h]
theorem name_at(b off cap:Nat)(W:Int)(S:Bool)(w:World)(ht:qZo b off cap w) :
 Calls prog 180 #[.agg #[.int .i64 W, .bool S]] w fun e w'=>e=.returned (.string (qZJ W S))/\Below w.1.size w w':=by
 have g:=ht.tg;have hz:4 < w.1.size:=qJ g;go_enter func180,ntmps180
 go_wp2
 go_loopw [7] (fun i wr=>∃ k:Nat,k<=9/\i=.int .i64 k/\qQ3 W S (qJv.drop k)=qZJ W S/\Below (w.1.size+1) (w.alloc (.cells #[.int .i64 W, .bool S] 37)) wr) (fun i _=>9 - (intOf i).toNat)
 case atStart=>exact⟨0,Nat.zero_le _,rfl,rfl,Below.refl _ _⟩
 case round =>
  obtain⟨k,hk,rfl,hn,hb⟩:=hrel;have ht1:=(ht.below ((Below.refl _ _).alloc (Nat.le_refl _) (.cells #[.int .i64 W, .bool S] 37))).below (by simp;exact hb);have b0:wr.cell? ⟨w.1.size,0,none⟩=some (.int .i64 W):=(hb.cell (p:=⟨w.1.size,0,none⟩) (by simp)).trans (by simp[go_sem]);have b1:wr.cell? ⟨w.1.size,1,none⟩=some (.bool S):=(hb.cell (p:=⟨w.1.size,1,none⟩) (by simp)).trans (by simp[go_sem]);have hsz:w.1.size < wr.1.size:=by have:=hb.size;simp at this;omega
  have Hn:=hI hn;clear hn g;by_cases hlt:k < 9
  ·have c0:=ht1.tn k hlt;have c1:=ht1.tw k hlt;have c2:=ht1.ts k hlt;clear ht ht1;go_wp2
   ·go_ret;exact⟨qP7 (name_hit hlt ‹_› ‹_› Hn.o),qJ3 (hb.alloc hsz _)⟩
   ·exact⟨⟨k+1,by omega,by go_num,qUj hlt (fun h=>absurd h.2 ‹_›) Hn.o,hb.alloc hsz _⟩,by simp[intOf];omega⟩
   ·exact⟨⟨k+1,by omega,by go_num,qUj hlt (fun h=>absurd h.1 ‹_›) Hn.o,hb.alloc hsz _⟩,by simp[intOf];omega⟩
  ·clear ht ht1;go_wp2
   go_ret;exact⟨qP7 (name_end hk hlt Hn.o),qJ3 hb⟩
theorem name_any(W:Int)(S:Bool)(w:World)(ht:qKi w) :
 Calls prog 180 #[.agg #[.int .i64 W, .bool S]] w fun e w'=>e=.returned (.string (qZJ W S))/\Below w.1.size w w':=by
 obtain⟨b,off,cap,ht⟩:=ht;exact name_at b off cap W S w ht
def rt(W:Int)(S:Bool):Bool:=(W == 1 && !S) || W == 8 || W == 16 || W == 32 || W == 64
theorem qYc{W:Int}{S:Bool}(h:rt W S=true):(W=1/\S=false)\/W=8\/W=16\/W=32\/W=64:=by
 simp[rt]at h;cases S <;> simp_all <;> omega
theorem name_rt(W:Int)(S:Bool):(!(qZJ W S).toList.isEmpty)=rt W S:=by
 by_cases h1:W=1
 ·subst h1;cases S <;> decide +kernel
 by_cases h2:W=8
 ·subst h2;cases S <;> decide +kernel
 by_cases h3:W=16
 ·subst h3;cases S <;> decide +kernel
 by_cases h4:W=32
 ·subst h4;cases S <;> decide +kernel
 by_cases h5:W=64
 ·subst h5;cases S <;> decide +kernel
 have e:qZJ W S=⟨#[]⟩:=by
  simp[qZJ,qQ3,qJv,Ne.symm h1,Ne.symm h2,Ne.symm h3,Ne.symm h4,Ne.symm h5]
 have e2:rt W S=false:=by simp[rt,h1,h2,h3,h4,h5]
 rw[e,e2];decide +kernel
theorem right_any(W:Int)(S:Bool)(w:World)(ht:qKi w) :
 Calls prog 170 #[.agg #[.int .i64 W, .bool S]] w fun e w'=>e=.returned (.bool (rt W S))/\Below w.1.size w w':=by
 have ht1:=ht.alloc (.cells #[.int .i64 W, .bool S] 37);go_enter func170,ntmps170
 go_wp2_with fail
 refine(name_any _ _ _ ht1).mono ?_;rintro e w1 ⟨rfl,hb⟩;have hb':=qJ3 (by simpa using hb);generalize hx:qZJ W S=x at *;have Hx:=hI hx;clear hx hb ht1;go_wp2
 go_ret;exact⟨qQ4 (by rw[<-Hx.o];exact name_rt W S),hb'⟩
def lowF(W v:Int):Int:=v % 2 ^ W.toNat
theorem u64_wrap(n:Int):IntKind.u64.wrap n=n % 18446744073709551616:=by
 simp[IntKind.wrap,IntKind.signed,IntKind.bits]
theorem low_eq{W v:Int}(h:W=1\/W=8\/W=16\/W=32\/W=64)(_hv:0<=v)(_hv1:v < 18446744073709551616):IntKind.u64.wrap (v * 2 ^ (64 - W).toNat) / 2 ^ (64 - W).toNat=lowF W v:=by
 rw[u64_wrap];unfold lowF;rcases h with rfl | rfl | rfl | rfl | rfl
 ·show v * 2 ^ 63 % 18446744073709551616 / 2 ^ 63=v % 2 ^ 1
  omega
 ·show v * 2 ^ 56 % 18446744073709551616 / 2 ^ 56=v % 2 ^ 8
  omega
 ·show v * 2 ^ 48 % 18446744073709551616 / 2 ^ 48=v % 2 ^ 16
  omega
 ·show v * 2 ^ 32 % 18446744073709551616 / 2 ^ 32=v % 2 ^ 32
  omega
 ·show v * 2 ^ 0 % 18446744073709551616 / 2 ^ 0=v % 2 ^ 64
  omega
theorem rt_w{W:Int}{S:Bool}(h:rt W S=true):W=1\/W=8\/W=16\/W=32\/W=64:=by have:=qYc h;omega
theorem low_any(W:Int)(S:Bool)(v:Int)(w:World)(h:rt W S=true)(hv0:0<=v)(hv1:v < 18446744073709551616) :
 Calls prog 171 #[.agg #[.int .i64 W, .bool S], .int .u64 v] w fun e w'=>e=.returned (.int .u64 (lowF W v))/\Below w.1.size w w':=by
 have h0:1<=W:=by have:=qYc h;omega
 have h1:W<=64:=by have:=qYc h;omega
 have H:=hI h;clear h;go_enter func171,ntmps171
 go_wp2
 go_ret;exact⟨qQ6 (low_eq (rt_w H.o) hv0 hv1),(Below.refl _ _).alloc (Nat.le_refl _) _⟩
def qUl(W:Int)(S:Bool)(v:Int):Int:=if rt W S then lowF W v else 0
theorem norm_any(W:Int)(S:Bool)(v:Int)(w:World)(ht:qKi w)(hv0:0<=v)(hv1:v < 18446744073709551616) :
 Calls prog 155 #[.agg #[.int .i64 W, .bool S], .int .u64 v] w fun e w'=>e=.returned (.int .u64 (qUl W S v))/\Below w.1.size w w':=by
 have ht1:=ht.alloc (.cells #[.int .i64 W, .bool S] 37);go_enter func155,ntmps155
 go_wp2_with fail
 refine(right_any _ _ _ ht1).mono ?_;rintro e w1 ⟨rfl,hb⟩;have hc0:w1.cell? ⟨w.1.size,0,none⟩=some (.int .i64 W):=(hb.cell (p:=⟨w.1.size,0,none⟩) (by simp)).trans (by simp[go_sem]);have hc1:w1.cell? ⟨w.1.size,1,none⟩=some (.bool S):=(hb.cell (p:=⟨w.1.size,1,none⟩) (by simp)).trans (by simp[go_sem]);have hb':=qJ3 (by simpa using hb);clear hb ht1;by_cases hr:rt W S=true
 ·have e1:qUl W S v=lowF W v:=if_pos hr;have E1:=hI e1;have HR:=hI hr;clear e1;go_wp2_with fail
  refine(low_any _ _ _ _ HR.o hv0 hv1).mono ?_;rintro e w2 ⟨rfl,hb2⟩;clear hc0 hc1;go_wp2
  go_ret;exact⟨qQ6 E1.o.symm,hb'.trans (hb2.mono hb'.size)⟩
 ·have hr':rt W S=false:=by simpa using hr
  have e1:qUl W S v=0:=if_neg hr;have E1:=hI e1;clear e1 hr;go_wp2
  go_ret;exact⟨qQ6 E1.o.symm,hb'⟩
theorem of_hit{s:ByteArray}{k:Nat}(h:k < 9)(hn:tN k=s)(hr:qJh s (qJv.drop k)=qXr s):qXr s=(tW k,tS k,true):=by
 rw[qVl k h]at hr;rw[<-hr,qJh,if_pos hn]
theorem of_miss{s:ByteArray}{k:Nat}(h:k < 9)(hn:¬tN k=s)(hr:qJh s (qJv.drop k)=qXr s):qJh s (qJv.drop (k+1))=qXr s:=by
 rw[qVl k h]at hr;rw[<-hr,qJh,if_neg hn]
theorem of_end{s:ByteArray}{k:Nat}(h:k<=9)(h':¬k < 9)(hr:qJh s (qJv.drop k)=qXr s):qXr s=(0,false,false):=by
 obtain rfl:k=9:=by omega
 rw[<-hr];rfl
def ofV(r:Int×Bool×Bool):Value:=.tuple #[.agg #[.int .i64 r.1, .bool r.2.1], .bool r.2.2]
theorem ret_of{a b:Int×Bool×Bool}(h:a=b):Ending.returned (ofV a)=.returned (ofV b):=by rw[h]
theorem of_at(b off cap:Nat)(s:ByteArray)(w:World)(ht:qZo b off cap w) :
 Calls prog 120 #[.string s] w fun e w'=>e=.returned (ofV (qXr s))/\Below w.1.size w w':=by
 have g:=ht.tg;have hz:4 < w.1.size:=qJ g;have hsz0:w.1.size≠4:=by omega
 go_enter func120,ntmps120
 go_wp2
 go_loopw [8] (fun i wr=>∃ k:Nat,k<=9/\i=.int .i64 k/\qJh s (qJv.drop k)=qXr s/\Below (w.1.size+1) (w.alloc (.cells #[.int .i64 0, .bool false] 37)) wr) (fun i _=>9 - (intOf i).toNat)
 case atStart=>exact⟨0,Nat.zero_le _,rfl,rfl,Below.refl _ _⟩
 case round =>
  obtain⟨k,hk,rfl,hn,hb⟩:=hrel;have ht1:=(ht.below ((Below.refl _ _).alloc (Nat.le_refl _) (.cells #[.int .i64 0, .bool false] 37))).below (by simp;exact hb);have b0:wr.cell? ⟨w.1.size,0,none⟩=some (.int .i64 0):=(hb.cell (p:=⟨w.1.size,0,none⟩) (by simp)).trans (by simp[go_sem]);have b1:wr.cell? ⟨w.1.size,1,none⟩=some (.bool false):=(hb.cell (p:=⟨w.1.size,1,none⟩) (by simp)).trans (by simp[go_sem]);have f0:wr.frozen? ⟨w.1.size,0,none⟩=false:=(World.frozen?_of_block (hb.block w.1.size (by omega))).trans (by simp[go_sem]);have f1:wr.frozen? ⟨w.1.size,1,none⟩=false:=(World.frozen?_of_block (hb.block w.1.size (by omega))).trans (by simp[go_sem]);have hsz:w.1.size < wr.1.size:=by have:=hb.size;simp at this;omega
  have hne:wr.1.size≠w.1.size:=by omega
  have Hn:=hI hn;have HB:=hI hb;clear hn g hb;by_cases hlt:k < 9
  ·have c0:=ht1.tn k hlt;have c1:=ht1.tw k hlt;have c2:=ht1.ts k hlt;clear ht ht1;go_wp2
   ·have hnm:tN k=s:=ByteArray.ext (Array.toList_inj.1 (by have h:((tN k).toList == s.toList)=true:=‹_›;simpa[Lib.toList_data]using h));have HE:=hI (ret_of (of_hit hlt hnm Hn.o).symm);refine bodyPost_ret (v:=ofV (tW k,tS k,true)) (by simp[results,results120,go_sem,ofV,b0,b1,hne,hne.symm,hsz]) rfl ⟨HE.o,?_⟩;exact((((Below.refl _ _).alloc (Nat.le_refl _) _).trans (HB.o.mono (by omega))).setCell (Nat.le_refl _) _).setCell (Nat.le_refl _) _ |>.alloc (by simp;omega) _
   ·have hnm:¬tN k=s:=fun e=>by have h:((tN k).toList == s.toList)=false:=‹_›;rw[e]at h;simp at h
    exact⟨⟨k+1,by omega,rfl,of_miss hlt hnm Hn.o,HB.o.alloc (by simpa using HB.o.size) _⟩,by simp[intOf];omega⟩
  ·clear ht ht1;go_wp2
   have HE:=hI (ret_of (of_end hk hlt Hn.o).symm);refine bodyPost_ret (v:=ofV (0,false,false)) (by simp[results,results120,go_sem,ofV,b0,b1]) rfl ⟨HE.o,?_⟩;exact((((Below.refl _ _).alloc (Nat.le_refl _) _).trans (HB.o.mono (by omega))).setCell (Nat.le_refl _) _).setCell (Nat.le_refl _) _
theorem of_any(s:ByteArray)(w:World)(ht:qKi w):Calls prog 120 #[.string s] w fun e w'=>e=.returned (ofV (qXr s))/\Below w.1.size w w':=by
 obtain⟨b,off,cap,ht⟩:=ht;exact of_at b off cap s w ht
abbrev Ty:=Int×Bool
structure qI where
 name:List UInt8
 t:Ty
 size:Int
inductive Ex where
 | mk (op:List UInt8) (t:Ty) (num var:Int) (glob:Bool) (line col:Int) (kids:List Ex)
inductive Sx where
 | mk (op:List UInt8) (line col:Int) (target exprs:List Ex) (fn:Int) (thn els:List Sx)
structure qQ2 where
 name:List UInt8
 t:Ty
 params:Int
 vars:List qI
 body:List Sx
structure PrD where
 globals:List qI
 funcs:List qQ2
 main:Int
def Ex.ty:Ex->Ty | .mk _ t _ _ _ _ _ _=>t
inductive CR(α:Type) where
 | ok (a:α)
 | bad (ln co code:Int)
def CR.bind{α β:Type}:CR α->(α->CR β)->CR β
 | .ok a,f=>f a
 | .bad ln co code,_=>.bad ln co code
def jQ(b:Bool)(t:qQ)(code:Int):CR Unit:=if b then .ok ()else .bad t.line t.col code
def zO:Ty:=(1,false)
def noT:Ty:=(0,false)
def wideT:Ty:=(64,false)
def tyL(x:List UInt8):Ty:=((qXr ⟨x.toArray⟩).1,(qXr ⟨x.toArray⟩).2.1)
def sVar:List UInt8:=[118,97,114]
def qQP:List (List UInt8×Nat):=[([117,33],0),([38,38],0),([124,124],0),([61,61],1),([33,61],1),([60],2),([60,61],2),([62],2),([62,61],2),
 ([117,45],3),([117,126],3),([43],3),([45],3),([42],3),([47],3),([37],3),([60,60],3),([62,62],3),([38],4),([124],4),([94],4)]
def kE(x:List UInt8):List (List UInt8×Nat)->Option Nat
 | []=>none
 | (y,r) :: l=>if y == x then some r else kE x l
def qXx(x:List UInt8):Option Nat:=kE x qQP
def qYw(x:List UInt8):Bool:=match qXx x with | some r=>decide (r<=2) | none=>false
def qXs(k x:List UInt8):List UInt8:=if k == qT then 117 :: x else x
def qQj(x:List UInt8)(i:Nat):List qI->Option (qI×Nat)
 | []=>none
 | v :: r=>if v.name == x then some (v,i)else qQj x (i+1) r
structure Env where
 gs:List qI
 own:List qI
def qZD(E:Env)(t:qQ):CR (qI×Nat×Bool) :=
 match qQj t.text 0 E.own with
 | some (v,i)=>.ok (v,i,false)
 | none=>match qQj t.text 0 E.gs with
  | some (v,i)=>.ok (v,i,true)
  | none=>.bad t.line t.col 40
section
variable (E:Env)
mutual
def qJu:qQ->CR Ty
 | .mk k x m ln co ks =>
  if k == zD then .ok noT
  else if k == zL || k == qH then .ok zO
  else if k == zM || k == qL then(qZD E (.mk k x m ln co ks)).bind fun r=>.ok r.1.t
  else if k == zK then .ok (tyL x)
  else if qYw (qXs k x)then .ok zO
  else qQu ks
def qQu:List qQ->CR Ty
 | []=>.ok noT
 | t :: r=>(qJu t).bind fun u=>if u=noT then qQu r else .ok u
end
def yB(l:List qQ):CR Ty:=(qQu E l).bind fun u=>.ok (if u=noT then wideT else u)
def qQ1(t:qQ):CR Ex :=
 (qZD E t).bind fun r=>(jQ ((t.kind == qL) == decide (0 < r.1.size)) t 41).bind fun _ =>
  .ok (.mk (if t.kind == qL then qL else sVar) r.1.t 0 r.2.1 r.2.2 t.line t.col [])
def qQr(op:List UInt8)(ks:List qQ)(T:Ty):CR (Ty×Bool) :=
 match qXx op with
 | some 0=>.ok (zO,decide (T=zO))
 | some 1=>if T≠zO then .ok (T,false)else(yB E ks).bind fun u=>.ok (u,true)
 | some 2=>if T≠zO then .ok (T,false)else(yB E ks).bind fun u=>.ok (u,decide (u≠zO))
 | some 3=>.ok (T,decide (T≠zO))
 | _=>.ok (T,true)
def Ex.withKids:Ex->List Ex->Ex | .mk op t n v g l c _,ks=>.mk op t n v g l c ks
mutual
def qQT:qQ->Ty->CR Ex
 | .mk k x m ln co ks,T =>
  if k == zD then(jQ (decide (T≠zO) && decide (qUl T.1 T.2 m=m)) (.mk k x m ln co ks) 41).bind fun _=>.ok (.mk zD T m 0 false ln co [])
  else if k == zL || k == qH then(jQ (decide (T=zO)) (.mk k x m ln co ks) 41).bind fun _=>.ok (.mk zD T (if k == zL then 1 else 0) 0 false ln co [])
  else if k == zM || k == qL then
   (qQ1 E (.mk k x m ln co ks)).bind fun p=>(jQ (decide (p.ty=T)) (.mk k x m ln co ks) 41).bind fun _ =>
    if ks.length=0 then .ok (p.withKids [])
    else(yB E ks).bind fun u=>(jQ (decide (u≠zO)) (ks.headD (.mk k x m ln co ks)) 41).bind fun _=>(vD ks u).bind fun es=>.ok (p.withKids es)
  else if k == zK then(jQ (decide (tyL x=T)) (.mk k x m ln co ks) 41).bind fun _=>(yB E ks).bind fun u=>(vD ks u).bind fun es=>.ok (.mk zK T 0 0 false ln co es)
  else(qQr E (qXs k x) ks T).bind fun u=>(jQ u.2 (.mk k x m ln co ks) 41).bind fun _=>(vD ks u.1).bind fun es=>.ok (.mk (qXs k x) T 0 0 false ln co es)
def vD:List qQ->Ty->CR (List Ex)
 | [],_=>.ok []
 | t :: r,T=>(qQT t T).bind fun e=>(vD r T).bind fun es=>.ok (e :: es)
end
def qQL(ks:List qQ):CR (List Ex) :=
 if ks.length=0 then .ok []
 else(yB E ks).bind fun u=>(jQ (decide (u≠zO)) (ks.headD (.mk [] [] 0 0 0 [])) 41).bind fun _=>vD E ks u
def wJ(t:qQ):CR Ex:=(qQ1 E t).bind fun p=>(qQL E t.kids).bind fun es=>.ok (p.withKids es)
def wM:List qQ->List qI->CR (List Ex)
 | [],_=>.ok []
 | t :: r,vs=>(qQT E t (vs.headD ⟨[],noT,0⟩).t).bind fun e=>(wM r vs.tail).bind fun es=>.ok (e :: es)
end
structure kI where
 name:List UInt8
 t:Ty
 params:List qI
def qQN(x:List UInt8)(i:Nat):List kI->Option (kI×Nat)
 | []=>none
 | v :: r=>if v.name == x then some (v,i)else qQN x (i+1) r
def wI(fs:List kI)(t:qQ):CR (kI×Nat) :=
 match qQN t.text 0 fs with
 | some (h,i)=>(jQ (decide (t.kids.length=h.params.length)) t 43).bind fun _=>.ok (h,i)
 | none=>.bad t.line t.col 40
def qZr(t:qQ):qI:=⟨t.text,tyL ((t.kids.headD (.mk [] [] 0 0 0 [])).text),0⟩
def qJJ(own:List qI)(t:qQ):CR (List qI) :=
 (jQ (qQj t.text 0 own).isNone t 40).bind fun _=>(jQ (decide (own.length < 64)) t 45).bind fun _=>.ok (own++[qZr t])
section
variable (gs:List qI) (fs:List kI) (ret:Ty)
def kid(ks:List qQ)(i:Nat):qQ:=ks.getD i (.mk [] [] 0 0 0 [])
mutual
def stC:qQ->List qI->CR (Sx×List qI)
 | .mk k x m ln co ks,own =>
  if k == qP then(wJ ⟨gs,own⟩ (kid ks 0)).bind fun a=>(qQT ⟨gs,own⟩ (kid ks 1) a.ty).bind fun e=>.ok (.mk k ln co [a] [e] 0 [] [],own)
  else if k == qW then(wJ ⟨gs,own⟩ (kid ks 0)).bind fun a=>.ok (.mk k ln co [a] [] 0 [] [],own)
  else if k == zW then(wI fs (.mk k x m ln co ks)).bind fun h=>(wM ⟨gs,own⟩ ks h.1.params).bind fun es=>.ok (.mk k ln co [] es h.2 [] [],own)
  else if k == qN then(wJ ⟨gs,own⟩ (kid ks 0)).bind fun a=>(wI fs (kid ks 1)).bind fun h=>(jQ (decide (h.1.t=a.ty)) (kid ks 1) 41).bind fun _ =>
   (wM ⟨gs,own⟩ (kid ks 1).kids h.1.params).bind fun es=>.ok (.mk zW ln co [a] es h.2 [] [],own)
  else if k == qV then(jQ (decide (ret=noT) == decide (ks.length=0)) (.mk k x m ln co ks) 41).bind fun _=>(vD ⟨gs,own⟩ ks ret).bind fun es=>.ok (.mk k ln co [] es 0 [] [],own)
  else match ks with
   | []=>.ok (.mk k ln co [] [] 0 [] [],own)
   | [a]=>(qQT ⟨gs,own⟩ a zO).bind fun e=>.ok (.mk k ln co [] [e] 0 [] [],own)
   | [a,b]=>(qQT ⟨gs,own⟩ a zO).bind fun e=>(blC b own).bind fun r=>.ok (.mk k ln co [] [e] 0 r.1 [],r.2)
   | a :: b :: c :: _=>(qQT ⟨gs,own⟩ a zO).bind fun e=>(blC b own).bind fun r=>(blC c r.2).bind fun q=>.ok (.mk k ln co [] [e] 0 r.1 q.1,q.2)
def blC:qQ->List qI->CR (List Sx×List qI)
 | .mk _ _ _ _ _ ks,own=>qXJ ks own
def qXJ:List qQ->List qI->CR (List Sx×List qI)
 | [],own=>.ok ([],own)
 | t :: r,own =>
  if t.kind == qE then(qJJ own t).bind fun own'=>qXJ r own'
  else(stC t own).bind fun s=>(qXJ r s.2).bind fun q=>.ok (s.1 :: q.1,q.2)
end
end
/-! ### The heads -/
structure HdS where
 gs:List qI
 fs:List kI
def yV(l:List qI):Int:=(l.map fun v=>max v.size 1).foldl (·+·) 0
def yF(S:HdS)(t:qQ):CR Unit:=jQ ((qQj t.text 0 S.gs).isNone && (qQN t.text 0 S.fs).isNone) t 40
def qZ9(S:HdS)(t:qQ):CR HdS :=
 let last:=t.kids.getLastD (.mk [] [] 0 0 0 [])
 let fits:=!(last.kind == zD) || (decide (1<=last.num) && decide (last.num<=16))
 let v:qI:={ qZr t with size:=if fits then last.num else 0 }
 (jQ (!fits || decide (yV S.gs+max v.size 1<=64)) t 45).bind fun _=>(yF S t).bind fun _=>(jQ fits last 42).bind fun _=>.ok { S with gs:=S.gs++[v] }
def yH:List qQ->List qI->CR (List qI)
 | [],acc=>.ok acc
 | t :: r,acc=>(jQ (decide (acc.length < 64)) t 45).bind fun _=>(jQ (qQj t.text 0 acc).isNone t 40).bind fun _=>yH r (acc++[qZr t])
def wF(S:HdS)(t:qQ):CR HdS :=
 (jQ (decide (S.fs.length < 16)) t 45).bind fun _=>(yF S t).bind fun _ =>
  (yH (t.kids.dropLast.drop 1) []).bind fun ps=>.ok { S with fs:=S.fs++[⟨t.text,tyL ((t.kids.headD (.mk [] [] 0 0 0 [])).text),ps⟩] }
def yS:List qQ->HdS->CR HdS
 | [],S=>.ok S
 | t :: r,S=>(if t.kind == qC then wF S t else qZ9 S t).bind fun S'=>yS r S'
def vG(gs:List qI)(fs:List kI):List qQ->List kI->CR (List qQ2)
 | [],_=>.ok []
 | t :: r,hs =>
  if t.kind == qC then
   match hs with
   | []=>.ok []
   | h :: hs=>(blC gs fs h.t (t.kids.getLastD (.mk [] [] 0 0 0 [])) h.params).bind fun b=>(vG gs fs r hs).bind fun l=>.ok (⟨h.name,h.t,h.params.length,b.2,b.1⟩ :: l)
  else vG gs fs r hs
def qZf:List UInt8:=[109,97,105,110]
def qZb(t:qQ):CR PrD :=
 (yS t.kids ⟨[],[]⟩).bind fun S=>(vG S.gs S.fs t.kids S.fs).bind fun l =>
  match qQN qZf 0 S.fs with
  | some (h,i)=>if h.params.length=0 then .ok ⟨S.gs,l,i⟩else .bad 0 0 44
  | none=>.bad 0 0 44
end Go.Proofs.YtiajhekdhhhghaaGreatDoor
