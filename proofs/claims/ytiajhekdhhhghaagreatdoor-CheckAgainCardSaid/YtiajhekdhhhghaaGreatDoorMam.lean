/- Walks. -/
import Derived.Lib.Builder
import Derived.Lib.AppendStr
import Derived.Laws.Externs
import Derived.Test.YtiajhekdhhhghaaGreatDoorMal
set_option linter.all false
set_option maxHeartbeats 8000000
set_option maxRecDepth 100000
namespace Go.Proofs.YtiajhekdhhhghaaGreatDoor
open Tryz Go.Proofs.Tryz
open Go Go.RowKit
theorem qKl(kind:List UInt8)(void:Bool)(d:Int):∀ (B:Nat) (l:List Tok) (w:World),vP B l d w->(void=true->(hdT l).text≠[])->(zG kind void) l≠.out->Calls prog 103 ((fun p=>#[p, .string ⟨kind.toArray⟩, .bool void]) (.pointer (some ⟨B,0,none⟩))) w (qXV B d w ((zG kind void) l)):=by
 intro B l w h hcond hno;obtain⟨t,r,rfl⟩:=h.ends.ne;have S0:=St.start h;have hBw:=S0.hB;have HNO:=hI hno;have S0:=hI S0;have hmf:=zT;have hft:=vS;have hfk:=yW;have hvt:void=true->t.text≠[]:=hcond;clear hcond;clear h hno;unfold jY at *;go_enter func103,ntmps103
 cases hv:(void);case false =>
  clear hvt;have H:=hI (kY B t r d _ S0.o.ps);go_wp2_with fail
  refine(H.o).mono ?_;rintro e w1 ⟨rfl,hb1⟩;have S1:=hI (S0.o.below hb1);clear S0;clear H hb1;cases hf1:(yG t.text);case false =>
   have hT:qWD w1:=by
    obtain⟨lo,T,o,c,h1⟩:=S1.o.ps;exact h1.tab.types
   have H:=hI (qXC ⟨t.text.toArray⟩ _ hT);have hdt:(⟨t.text.toArray⟩:ByteArray).data.toList=t.text:=by simp
   rw[hdt,hf1]at H;unfold vT xA at *;go_wp2_with fail
   refine(H.o).mono ?_;rintro e w2' ⟨rfl,rfl⟩;clear H hT hdt;have H:=hI (qQ8 B t r d _ S1.o.ps);go_wp2_with fail
   refine(H.o).mono ?_;rintro e w3 ⟨rfl,hg3⟩;refine⟨rfl,?_⟩;have hbad:(zG kind false) (t :: r)=.bad t.line t.col 30:=by simp only[bF,if_false,if_true,reduceIte,bN,bM,bO,bU,bP,bV,bW,bB,bA,bT,lN,lC,lA,zG,jV,hf1,PR.bind,qX,jV]
   rw[hbad];exact S1.o.pan ⟨rfl,hg3⟩
  case true =>
   have hT:qWD w1:=by
    obtain⟨lo,T,o,c,h1⟩:=S1.o.ps;exact h1.tab.types
   have H:=hI (qXC ⟨t.text.toArray⟩ _ hT);have hdt:(⟨t.text.toArray⟩:ByteArray).data.toList=t.text:=by simp
   rw[hdt,hf1]at H;unfold vT xA at *;go_wp2_with fail
   refine(H.o).mono ?_;rintro e w2' ⟨rfl,rfl⟩;clear H hT hdt;have hte:t.text≠[]:=fun e=>by rw[e]at hf1;exact absurd hf1 (by decide)
   have H:=hI (vB B t r d _ S1.o.ps hte);go_wp2_with fail
   refine(H.o).mono ?_;rintro e w3 ⟨rfl,hP3,hg3⟩;have S3:=hI (S1.o.call hP3 hg3);clear S1;clear H hP3 hg3;unfold vT xA at *;have hwT:w.1.size < w3.1.size:=S3.o.lt;have L4:=hI (wH.newO t w3);have S4:=hI (S3.o.alloc (qXT t));clear S3;unfold qXT at *;obtain⟨u,rr,hlu⟩:=S4.o.ps.ends.ne;subst hlu;cases hn:(kR u);case false =>
    go_wp2_with fail
    refine wp_pan [{ v:=qXo u.line u.col 30,recovered:=false }] (fun w'=>w.grownBy w' (some B)) ?_ ?_
    ·refine wW (S:=fun w'=>wH w3.1.size t w') (tail:=fun _=>false) (by kernel_rfl) ?_;change vR _ _ _ _ _ _ _ _ _ (World.drew _);have SS:=hI S4.o.drew;have LL:=hI (L4.o.below (Below.refl _ _).drew);generalize World.drew _=wd at *;refine wTk 0 18 (.agg #[.int .i64 t.kind, .string ⟨t.text.toArray⟩, .int .u64 t.num, .int .i64 t.line, .int .i64 t.col]) ?_ LL.o ?_
     ·intro _ y;have⟨h0,h1,h2,h3,h4,_⟩:=y.a;go_simp
     refine wTk 1 19 (.string ⟨kind.toArray⟩) ?_ LL.o ?_
     ·intro _ y;go_simp
     refine wTk 2 20 (.pointer (some ⟨B,0,none⟩)) ?_ LL.o ?_
     ·intro _ y;go_simp
     refine wTk 3 21 (.pointer (some ⟨B,0,none⟩)) ?_ LL.o ?_
     ·intro _ y;go_simp
     refine jA (i:=4) (j:=8) rfl rfl (by kernel_rfl) (by rfl) (by rfl) (fun K hK=>?_) (fun K hK=>?_)
     ·go_simp;have HN51:=kT B u rr d _ SS.o.ps;rw[hn]at HN51;refine HN51.mono ?_;rintro e v51 ⟨rfl,hb51⟩;have S51p:=hI (SS.o.below hb51);have L51p:=hI (LL.o.below hb51);refine kK hK L51p.o ?_;clear hK K;refine jA (i:=5) (j:=8) rfl rfl (by kernel_rfl) (by rfl) (by rfl) (fun K hK=>?_) (fun K hK=>?_)
      ·go_simp;refine(qQ8 B u rr d _ S51p.o.ps).mono ?_;rintro e v9 ⟨rfl,hg⟩;exact⟨rfl,rfl,qR S51p.o.gr hg⟩
      ·go_simp;have S52a:=hI (S51p.o.alloc jY);have L52a:=hI (L51p.o.below ((Below.refl _ _).alloc (Nat.le_refl _) jY));unfold jY at *;refine kK hK L52a.o ?_;clear hK K;refine wOn 5 fun K hK=>?_
       go_simp;refine(qQ8 B u rr d _ S52a.o.ps).mono ?_;rintro e v9 ⟨rfl,hg⟩;exact⟨rfl,rfl,qR S52a.o.gr hg⟩
     ·go_simp;have S53a:=hI (SS.o.alloc jY);have L53a:=hI (LL.o.below ((Below.refl _ _).alloc (Nat.le_refl _) jY));unfold jY at *;refine kK hK L53a.o ?_;clear hK K;refine wOn 4 fun K hK=>?_
      go_simp;have HN54:=kT B u rr d _ S53a.o.ps;rw[hn]at HN54;refine HN54.mono ?_;rintro e v54 ⟨rfl,hb54⟩;have S54p:=hI (S53a.o.below hb54);have L54p:=hI (L53a.o.below hb54);refine kK hK L54p.o ?_;clear hK K;refine wOn 5 fun K hK=>?_
      go_simp;refine(qQ8 B u rr d _ S54p.o.ps).mono ?_;rintro e v9 ⟨rfl,hg⟩;exact⟨rfl,rfl,qR S54p.o.gr hg⟩
    intro a' w' hd' hg';refine⟨hd',?_⟩;have hbad:(zG kind false) (t :: u :: rr)=.bad u.line u.col 30:=by simp only[bF,if_false,if_true,reduceIte,bN,bM,bO,bU,bP,bV,bW,bB,bA,bT,lN,lC,lA,zG,jV,hf1,hn,PR.bind,qX]
    rw[hbad];exact⟨rfl,hg'⟩
   case true =>
    have hteu:u.text≠[]:=qXe S4.o.ps.ends (by simp[kR]at hn;omega);go_wp2_with fail
    have hname:∀ (W:World),vP B (u :: rr) d W->Calls prog 125 #[.pointer (some ⟨B,0,none⟩)] W fun e w'=>e=.returned (.bool true)/\Below W.1.size W w':=fun W h=>by have:=kT B u rr d W h;rw[hn]at this;exact this
    have HNM:=hI hname;clear hname;refine qXG (fun a N=>((((((((a.put (some 18) (.agg #[.int .i64 t.kind, .string ⟨t.text.toArray⟩, .int .u64 t.num, .int .i64 t.line, .int .i64 t.col])).put (some 19) (.string ⟨kind.toArray⟩)).put (some 20) (.pointer (some ⟨B,0,none⟩))).put (some 21) (.pointer (some ⟨B,0,none⟩))).put (some 22) (.bool true)).put (some 23) (.agg #[.int .i64 u.kind, .string ⟨u.text.toArray⟩, .int .u64 u.num, .int .i64 u.line, .int .i64 u.col])).put (some 24) (.string ⟨u.text.toArray⟩)).put (some 25) (.agg #[.string ⟨kind.toArray⟩, .string ⟨u.text.toArray⟩, .int .u64 0, .int .i64 t.line, .int .i64 t.col, .slice none 0 0])).put (some 8) (.pointer (some ⟨N,0,none⟩))) (fun N w'=>St w B rr d w'/\Nd N kind u.text 0 t.line t.col (.slice none 0 0) [] w'/\w.1.size < N/\wH w3.1.size t w') ?_ ?_
    ·refine wW (S:=fun w'=>wH w3.1.size t w') (tail:=fun _=>false) (by kernel_rfl) ?_;change vR _ _ _ _ _ _ _ _ _ (World.drew _);have SS:=hI S4.o.drew;have LL:=hI (L4.o.below (Below.refl _ _).drew);generalize World.drew _=wd at *;have hwd:=SS.o.lt;have hwl:=LL.o.lt;refine wTk 0 18 (.agg #[.int .i64 t.kind, .string ⟨t.text.toArray⟩, .int .u64 t.num, .int .i64 t.line, .int .i64 t.col]) ?_ LL.o ?_
     ·intro _ y;have⟨h0,h1,h2,h3,h4,_⟩:=y.a;go_simp
     refine wTk 1 19 (.string ⟨kind.toArray⟩) ?_ LL.o ?_
     ·intro _ y;go_simp
     refine wTk 2 20 (.pointer (some ⟨B,0,none⟩)) ?_ LL.o ?_
     ·intro _ y;go_simp
     refine wTk 3 21 (.pointer (some ⟨B,0,none⟩)) ?_ LL.o ?_
     ·intro _ y;go_simp
     refine jA (i:=4) (j:=8) rfl rfl (by kernel_rfl) (by rfl) (by rfl) (fun K hK=>?_) (fun K hK=>?_)
     ·go_simp;refine(HNM.o _ SS.o.ps).mono ?_;rintro e v7 ⟨rfl,hb⟩;have S7x:=hI (SS.o.below hb);have L7x:=hI (LL.o.below hb);have hss7:=S7x.o.lt;have hll7:=L7x.o.lt;refine kK hK L7x.o ?_;clear hK K;refine jA (i:=5) (j:=8) rfl rfl (by kernel_rfl) (by rfl) (by rfl) (fun K hK=>?_) (fun K hK=>?_)
      ·go_simp;refine(vB B u rr d _ S7x.o.ps hteu).mono ?_;rintro e v10 ⟨rfl,hP,hg⟩;have S10x:=hI (S7x.o.call hP hg);have L10x:=hI (L7x.o.grown hg (by simp;omega));have hss10:=S10x.o.lt;have hll10:=L10x.o.lt;unfold vT xA;refine kK hK L10x.o ?_;clear hK K;refine wTk 6 24 (.string ⟨u.text.toArray⟩) ?_ L10x.o ?_
       ·intro _ y;go_simp
       refine jA (i:=7) (j:=8) rfl rfl (by kernel_rfl) (by rfl) (by rfl) (fun K hK=>?_) (fun K hK=>?_)
       ·go_simp;have HN:=jI t ⟨kind.toArray⟩ ⟨(u.text).toArray⟩;unfold vT xA at HN;refine(HN _).mono ?_;rintro e v14 ⟨rfl,hb⟩;have S14x:=hI (S10x.o.below hb);have L14x:=hI (L10x.o.below hb);have hss14:=S14x.o.lt;have hll14:=L14x.o.lt;refine kK hK L14x.o ?_;clear hK K;refine wOn 8 fun K hK=>?_
        go_simp;refine kK hK (L14x.o.below ((Below.refl _ _).alloc (Nat.le_refl _) _)) ?_;clear hK K;refine wOn 9 fun K hK=>?_
        go_simp;refine kK hK (L14x.o.below ((Below.refl _ _).alloc (Nat.le_refl _) _)) ?_;clear hK K;refine wDn ?_ _;exact⟨_,by simp only[Act.put,pZa,pZb,pZc],S14x.o.alloc _,Nd.new kind u.text 0 t.line t.col _,S14x.o.lt,L14x.o.below ((Below.refl _ _).alloc (Nat.le_refl _) _)⟩
       ·go_simp;have S16a:=hI (S10x.o.alloc jY);have L16a:=hI (L10x.o.below ((Below.refl _ _).alloc (Nat.le_refl _) jY));have N16a:=hI (zI.new [] [] 0 0 0 (.slice none 0 0) v10);have hNs16:=N16a.o.lt;have hlt16:=S10x.o.lt;unfold jY at *;refine kK hK L16a.o ?_;clear hK K;refine wOn 7 fun K hK=>?_
        go_simp;have HN:=jI t ⟨kind.toArray⟩ ⟨(u.text).toArray⟩;unfold vT xA at HN;refine(HN _).mono ?_;rintro e v18 ⟨rfl,hb⟩;have S18x:=hI (S16a.o.below hb);have L18x:=hI (L16a.o.below hb);have N18x:=hI (N16a.o.below hb);have hNs18:=N18x.o.lt;have hss18:=S18x.o.lt;have hll18:=L18x.o.lt;refine kK hK L18x.o ?_;clear hK K;have⟨a0,a1,a2,a3,a4,a5,_⟩:=N18x.o.a;have⟨b0,b1,b2,b3,b4,b5,_⟩:=N18x.o.b;refine wOn 9 fun K hK=>?_
        go_simp;refine kK hK (L18x.o.grown (vQ _ v10.1.size _ _ _ _ _ _) (by simp;omega)) ?_;clear hK K;refine wDn ?_ _;exact⟨_,by simp only[Act.put,pZa,pZb,pZc],S18x.o.six (by omega) _ _ _ _ _ _,⟨N18x.o.six kind u.text 0 t.line t.col (.slice none 0 0),zC.nil _ _⟩,by omega,L18x.o.grown (vQ _ v10.1.size _ _ _ _ _ _) (by simp;omega)⟩
      ·go_simp;have S20a:=hI (S7x.o.alloc jY);have L20a:=hI (L7x.o.below ((Below.refl _ _).alloc (Nat.le_refl _) jY));have N20a:=hI (zI.new [] [] 0 0 0 (.slice none 0 0) v7);have hNs20:=N20a.o.lt;have hlt20:=S7x.o.lt;unfold jY at *;refine kK hK L20a.o ?_;clear hK K;refine wOn 5 fun K hK=>?_
       go_simp;refine(vB B u rr d _ S20a.o.ps hteu).mono ?_;rintro e v22 ⟨rfl,hP,hg⟩;have S22x:=hI (S20a.o.call hP hg);have L22x:=hI (L20a.o.grown hg (by simp;omega));have N22x:=hI (N20a.o.grown hg (by simp;omega));have hNs22:=N22x.o.lt;have hss22:=S22x.o.lt;have hll22:=L22x.o.lt;unfold vT xA;refine kK hK L22x.o ?_;clear hK K;refine wTk 6 24 (.string ⟨u.text.toArray⟩) ?_ L22x.o ?_
       ·intro _ y;go_simp
       refine wOn 7 fun K hK=>?_
       go_simp;have HN:=jI t ⟨kind.toArray⟩ ⟨(u.text).toArray⟩;unfold vT xA at HN;refine(HN _).mono ?_;rintro e v25 ⟨rfl,hb⟩;have S25x:=hI (S22x.o.below hb);have L25x:=hI (L22x.o.below hb);have N25x:=hI (N22x.o.below hb);have hNs25:=N25x.o.lt;have hss25:=S25x.o.lt;have hll25:=L25x.o.lt;refine kK hK L25x.o ?_;clear hK K;have⟨a0,a1,a2,a3,a4,a5,_⟩:=N25x.o.a;have⟨b0,b1,b2,b3,b4,b5,_⟩:=N25x.o.b;refine wOn 9 fun K hK=>?_
       go_simp;refine kK hK (L25x.o.grown (vQ _ v7.1.size _ _ _ _ _ _) (by simp;omega)) ?_;clear hK K;refine wDn ?_ _;exact⟨_,by simp only[Act.put,pZa,pZb,pZc],S25x.o.six (by omega) _ _ _ _ _ _,⟨N25x.o.six kind u.text 0 t.line t.col (.slice none 0 0),zC.nil _ _⟩,by omega,L25x.o.grown (vQ _ v7.1.size _ _ _ _ _ _) (by simp;omega)⟩
     ·go_simp;have S27a:=hI (SS.o.alloc jY);have L27a:=hI (LL.o.below ((Below.refl _ _).alloc (Nat.le_refl _) jY));have N27a:=hI (zI.new [] [] 0 0 0 (.slice none 0 0) wd);have hNs27:=N27a.o.lt;have hlt27:=SS.o.lt;unfold jY at *;refine kK hK L27a.o ?_;clear hK K;refine wOn 4 fun K hK=>?_
      go_simp;refine(HNM.o _ S27a.o.ps).mono ?_;rintro e v29 ⟨rfl,hb⟩;have S29x:=hI (S27a.o.below hb);have L29x:=hI (L27a.o.below hb);have N29x:=hI (N27a.o.below hb);have hNs29:=N29x.o.lt;have hss29:=S29x.o.lt;have hll29:=L29x.o.lt;refine kK hK L29x.o ?_;clear hK K;refine wOn 5 fun K hK=>?_
      go_simp;refine(vB B u rr d _ S29x.o.ps hteu).mono ?_;rintro e v31 ⟨rfl,hP,hg⟩;have S31x:=hI (S29x.o.call hP hg);have L31x:=hI (L29x.o.grown hg (by simp;omega));have N31x:=hI (N29x.o.grown hg (by simp;omega));have hNs31:=N31x.o.lt;have hss31:=S31x.o.lt;have hll31:=L31x.o.lt;unfold vT xA;refine kK hK L31x.o ?_;clear hK K;refine wTk 6 24 (.string ⟨u.text.toArray⟩) ?_ L31x.o ?_
      ·intro _ y;go_simp
      refine wOn 7 fun K hK=>?_
      go_simp;have HN:=jI t ⟨kind.toArray⟩ ⟨(u.text).toArray⟩;unfold vT xA at HN;refine(HN _).mono ?_;rintro e v34 ⟨rfl,hb⟩;have S34x:=hI (S31x.o.below hb);have L34x:=hI (L31x.o.below hb);have N34x:=hI (N31x.o.below hb);have hNs34:=N34x.o.lt;have hss34:=S34x.o.lt;have hll34:=L34x.o.lt;refine kK hK L34x.o ?_;clear hK K;have⟨a0,a1,a2,a3,a4,a5,_⟩:=N34x.o.a;have⟨b0,b1,b2,b3,b4,b5,_⟩:=N34x.o.b;refine wOn 9 fun K hK=>?_
      go_simp;refine kK hK (L34x.o.grown (vQ _ wd.1.size _ _ _ _ _ _) (by simp;omega)) ?_;clear hK K;refine wDn ?_ _;exact⟨_,by simp only[Act.put,pZa,pZb,pZc],S34x.o.six (by omega) _ _ _ _ _ _,⟨N34x.o.six kind u.text 0 t.line t.col (.slice none 0 0),zC.nil _ _⟩,by omega,L34x.o.grown (vQ _ wd.1.size _ _ _ _ _ _) (by simp;omega)⟩
    intro N w5 ⟨hS5,hN5,hwN,hL5⟩;try simp only[Act.put,pZa,pZb,pZc]
    have S5:=hI hS5;have N5:=hI hN5;have l0:=hL5.c0;have l1:=hL5.c1;have l2':=hL5.c2;have l3':=hL5.c3;have l4':=hL5.c4;clear hS5 hN5 hL5 S4 L4;have H:=hI (jI t ⟨zB.toArray⟩ ⟨t.text.toArray⟩);go_wp2_with fail
    refine(H.o _).mono ?_;rintro e w21 ⟨rfl,hb21⟩;have S21:=hI (S5.o.below hb21);have N21:=hI (N5.o.below hb21);clear S5 N5;clear H hb21;have hff:=qVb (t:=.mk zB t.text 0 t.line t.col []) S21.o N21.o.nd hwN (zC.nil _ w21.1.size) (Nat.succ_le_of_lt N21.o.lt) (Nat.le_refl _);have HFF:=hI hff;have SC:=S21.o;have NC:=N21.o;have hs1:=SC.lt;have hs2:=NC.lt;have hf5:=NC.nd.f 5 nL;have hr:=SC.res;have⟨r0,r1',r2,r3,r4,r5,_⟩:=hr.a;have⟨g0,g1,g2,g3,g4,g5,_⟩:=hr.b;clear hr;have hq:=NC.nd;have⟨qn0,qn1,qn2,qn3,qn4,qn5,_⟩:=hq.a;clear hq;clear hff S21 N21 SC NC l0 l1 l2' l3' l4';go_wp2
    refine bodyPost_ret (v:=qZ (.mk kind u.text 0 t.line t.col [.mk zB t.text 0 t.line t.col []]) (.slice (some ⟨w21.1.size,0,none⟩) 1 1)) (by simp[results,results103,go_sem,qZ,qQ.kind,qQ.text,qQ.num,qQ.line,qQ.col,qQ.kids,qY,qG,qC,qO,zB,zD,zX,qE,kIf,zS,qA,qV,qF,qD,qP,qW,qN,zW,zM,qL,qM,qT,zK,zL,qH,zA, *]) rfl ?_;have hgood:(zG kind false) (t :: u :: rr)=.ok (.mk kind u.text 0 t.line t.col [.mk zB t.text 0 t.line t.col []]) rr:=by simp only[bF,if_false,if_true,reduceIte,bN,bM,bO,bU,bP,bV,bW,bB,bA,bT,lN,lC,lA,zG,jV,hf1,hn,PR.bind,qX]
    rw[hgood];exact HFF.o.1.finA (by simpa using hs1) (HFF.o.2.bd.mono (by omega)) _ _ _ _ _ _
 case true =>
  have hte:t.text≠[]:=hvt hv;clear hvt;have H:=hI (vB B t r d _ S0.o.ps hte);go_wp2_with fail
  refine(H.o).mono ?_;rintro e w1 ⟨rfl,hP1,hg1⟩;have S1:=hI (S0.o.call hP1 hg1);clear S0;clear H hP1 hg1;unfold vT xA at *;have hwT:w.1.size < w1.1.size:=S1.o.lt;have L2:=hI (wH.newO t w1);have S2:=hI (S1.o.alloc (qXT t));clear S1;unfold qXT at *;obtain⟨u,rr,hlu⟩:=S2.o.ps.ends.ne;subst hlu;cases hn:(kR u);case false =>
   go_wp2_with fail
   refine wp_pan [{ v:=qXo u.line u.col 30,recovered:=false }] (fun w'=>w.grownBy w' (some B)) ?_ ?_
   ·refine wW (S:=fun w'=>wH w1.1.size t w') (tail:=fun _=>false) (by kernel_rfl) ?_;change vR _ _ _ _ _ _ _ _ _ (World.drew _);have SS:=hI S2.o.drew;have LL:=hI (L2.o.below (Below.refl _ _).drew);generalize World.drew _=wd at *;refine wTk 0 18 (.agg #[.int .i64 t.kind, .string ⟨t.text.toArray⟩, .int .u64 t.num, .int .i64 t.line, .int .i64 t.col]) ?_ LL.o ?_
    ·intro _ y;have⟨h0,h1,h2,h3,h4,_⟩:=y.a;go_simp
    refine wTk 1 19 (.string ⟨kind.toArray⟩) ?_ LL.o ?_
    ·intro _ y;go_simp
    refine wTk 2 20 (.pointer (some ⟨B,0,none⟩)) ?_ LL.o ?_
    ·intro _ y;go_simp
    refine wTk 3 21 (.pointer (some ⟨B,0,none⟩)) ?_ LL.o ?_
    ·intro _ y;go_simp
    refine jA (i:=4) (j:=8) rfl rfl (by kernel_rfl) (by rfl) (by rfl) (fun K hK=>?_) (fun K hK=>?_)
    ·go_simp;have HN51:=kT B u rr d _ SS.o.ps;rw[hn]at HN51;refine HN51.mono ?_;rintro e v51 ⟨rfl,hb51⟩;have S51p:=hI (SS.o.below hb51);have L51p:=hI (LL.o.below hb51);refine kK hK L51p.o ?_;clear hK K;refine jA (i:=5) (j:=8) rfl rfl (by kernel_rfl) (by rfl) (by rfl) (fun K hK=>?_) (fun K hK=>?_)
     ·go_simp;refine(qQ8 B u rr d _ S51p.o.ps).mono ?_;rintro e v9 ⟨rfl,hg⟩;exact⟨rfl,rfl,qR S51p.o.gr hg⟩
     ·go_simp;have S52a:=hI (S51p.o.alloc jY);have L52a:=hI (L51p.o.below ((Below.refl _ _).alloc (Nat.le_refl _) jY));unfold jY at *;refine kK hK L52a.o ?_;clear hK K;refine wOn 5 fun K hK=>?_
      go_simp;refine(qQ8 B u rr d _ S52a.o.ps).mono ?_;rintro e v9 ⟨rfl,hg⟩;exact⟨rfl,rfl,qR S52a.o.gr hg⟩
    ·go_simp;have S53a:=hI (SS.o.alloc jY);have L53a:=hI (LL.o.below ((Below.refl _ _).alloc (Nat.le_refl _) jY));unfold jY at *;refine kK hK L53a.o ?_;clear hK K;refine wOn 4 fun K hK=>?_
     go_simp;have HN54:=kT B u rr d _ S53a.o.ps;rw[hn]at HN54;refine HN54.mono ?_;rintro e v54 ⟨rfl,hb54⟩;have S54p:=hI (S53a.o.below hb54);have L54p:=hI (L53a.o.below hb54);refine kK hK L54p.o ?_;clear hK K;refine wOn 5 fun K hK=>?_
     go_simp;refine(qQ8 B u rr d _ S54p.o.ps).mono ?_;rintro e v9 ⟨rfl,hg⟩;exact⟨rfl,rfl,qR S54p.o.gr hg⟩
   intro a' w' hd' hg';refine⟨hd',?_⟩;have hbad:(zG kind true) (t :: u :: rr)=.bad u.line u.col 30:=by simp only[bF,if_false,if_true,reduceIte,bN,bM,bO,bU,bP,bV,bW,bB,bA,bT,lN,lC,lA,zG,jV,hn,PR.bind,qX]
   rw[hbad];exact⟨rfl,hg'⟩
  case true =>
   have hteu:u.text≠[]:=qXe S2.o.ps.ends (by simp[kR]at hn;omega);go_wp2_with fail
   have hname:∀ (W:World),vP B (u :: rr) d W->Calls prog 125 #[.pointer (some ⟨B,0,none⟩)] W fun e w'=>e=.returned (.bool true)/\Below W.1.size W w':=fun W h=>by have:=kT B u rr d W h;rw[hn]at this;exact this
   have HNM:=hI hname;clear hname;refine qXG (fun a N=>((((((((a.put (some 18) (.agg #[.int .i64 t.kind, .string ⟨t.text.toArray⟩, .int .u64 t.num, .int .i64 t.line, .int .i64 t.col])).put (some 19) (.string ⟨kind.toArray⟩)).put (some 20) (.pointer (some ⟨B,0,none⟩))).put (some 21) (.pointer (some ⟨B,0,none⟩))).put (some 22) (.bool true)).put (some 23) (.agg #[.int .i64 u.kind, .string ⟨u.text.toArray⟩, .int .u64 u.num, .int .i64 u.line, .int .i64 u.col])).put (some 24) (.string ⟨u.text.toArray⟩)).put (some 25) (.agg #[.string ⟨kind.toArray⟩, .string ⟨u.text.toArray⟩, .int .u64 0, .int .i64 t.line, .int .i64 t.col, .slice none 0 0])).put (some 8) (.pointer (some ⟨N,0,none⟩))) (fun N w'=>St w B rr d w'/\Nd N kind u.text 0 t.line t.col (.slice none 0 0) [] w'/\w.1.size < N/\wH w1.1.size t w') ?_ ?_
   ·refine wW (S:=fun w'=>wH w1.1.size t w') (tail:=fun _=>false) (by kernel_rfl) ?_;change vR _ _ _ _ _ _ _ _ _ (World.drew _);have SS:=hI S2.o.drew;have LL:=hI (L2.o.below (Below.refl _ _).drew);generalize World.drew _=wd at *;have hwd:=SS.o.lt;have hwl:=LL.o.lt;refine wTk 0 18 (.agg #[.int .i64 t.kind, .string ⟨t.text.toArray⟩, .int .u64 t.num, .int .i64 t.line, .int .i64 t.col]) ?_ LL.o ?_
    ·intro _ y;have⟨h0,h1,h2,h3,h4,_⟩:=y.a;go_simp
    refine wTk 1 19 (.string ⟨kind.toArray⟩) ?_ LL.o ?_
    ·intro _ y;go_simp
    refine wTk 2 20 (.pointer (some ⟨B,0,none⟩)) ?_ LL.o ?_
    ·intro _ y;go_simp
    refine wTk 3 21 (.pointer (some ⟨B,0,none⟩)) ?_ LL.o ?_
    ·intro _ y;go_simp
    refine jA (i:=4) (j:=8) rfl rfl (by kernel_rfl) (by rfl) (by rfl) (fun K hK=>?_) (fun K hK=>?_)
    ·go_simp;refine(HNM.o _ SS.o.ps).mono ?_;rintro e v7 ⟨rfl,hb⟩;have S7x:=hI (SS.o.below hb);have L7x:=hI (LL.o.below hb);have hss7:=S7x.o.lt;have hll7:=L7x.o.lt;refine kK hK L7x.o ?_;clear hK K;refine jA (i:=5) (j:=8) rfl rfl (by kernel_rfl) (by rfl) (by rfl) (fun K hK=>?_) (fun K hK=>?_)
     ·go_simp;refine(vB B u rr d _ S7x.o.ps hteu).mono ?_;rintro e v10 ⟨rfl,hP,hg⟩;have S10x:=hI (S7x.o.call hP hg);have L10x:=hI (L7x.o.grown hg (by simp;omega));have hss10:=S10x.o.lt;have hll10:=L10x.o.lt;unfold vT xA;refine kK hK L10x.o ?_;clear hK K;refine wTk 6 24 (.string ⟨u.text.toArray⟩) ?_ L10x.o ?_
      ·intro _ y;go_simp
      refine jA (i:=7) (j:=8) rfl rfl (by kernel_rfl) (by rfl) (by rfl) (fun K hK=>?_) (fun K hK=>?_)
      ·go_simp;have HN:=jI t ⟨kind.toArray⟩ ⟨(u.text).toArray⟩;unfold vT xA at HN;refine(HN _).mono ?_;rintro e v14 ⟨rfl,hb⟩;have S14x:=hI (S10x.o.below hb);have L14x:=hI (L10x.o.below hb);have hss14:=S14x.o.lt;have hll14:=L14x.o.lt;refine kK hK L14x.o ?_;clear hK K;refine wOn 8 fun K hK=>?_
       go_simp;refine kK hK (L14x.o.below ((Below.refl _ _).alloc (Nat.le_refl _) _)) ?_;clear hK K;refine wOn 9 fun K hK=>?_
       go_simp;refine kK hK (L14x.o.below ((Below.refl _ _).alloc (Nat.le_refl _) _)) ?_;clear hK K;refine wDn ?_ _;exact⟨_,by simp only[Act.put,pZa,pZb,pZc],S14x.o.alloc _,Nd.new kind u.text 0 t.line t.col _,S14x.o.lt,L14x.o.below ((Below.refl _ _).alloc (Nat.le_refl _) _)⟩
      ·go_simp;have S16a:=hI (S10x.o.alloc jY);have L16a:=hI (L10x.o.below ((Below.refl _ _).alloc (Nat.le_refl _) jY));have N16a:=hI (zI.new [] [] 0 0 0 (.slice none 0 0) v10);have hNs16:=N16a.o.lt;have hlt16:=S10x.o.lt;unfold jY at *;refine kK hK L16a.o ?_;clear hK K;refine wOn 7 fun K hK=>?_
       go_simp;have HN:=jI t ⟨kind.toArray⟩ ⟨(u.text).toArray⟩;unfold vT xA at HN;refine(HN _).mono ?_;rintro e v18 ⟨rfl,hb⟩;have S18x:=hI (S16a.o.below hb);have L18x:=hI (L16a.o.below hb);have N18x:=hI (N16a.o.below hb);have hNs18:=N18x.o.lt;have hss18:=S18x.o.lt;have hll18:=L18x.o.lt;refine kK hK L18x.o ?_;clear hK K;have⟨a0,a1,a2,a3,a4,a5,_⟩:=N18x.o.a;have⟨b0,b1,b2,b3,b4,b5,_⟩:=N18x.o.b;refine wOn 9 fun K hK=>?_
       go_simp;refine kK hK (L18x.o.grown (vQ _ v10.1.size _ _ _ _ _ _) (by simp;omega)) ?_;clear hK K;refine wDn ?_ _;exact⟨_,by simp only[Act.put,pZa,pZb,pZc],S18x.o.six (by omega) _ _ _ _ _ _,⟨N18x.o.six kind u.text 0 t.line t.col (.slice none 0 0),zC.nil _ _⟩,by omega,L18x.o.grown (vQ _ v10.1.size _ _ _ _ _ _) (by simp;omega)⟩
     ·go_simp;have S20a:=hI (S7x.o.alloc jY);have L20a:=hI (L7x.o.below ((Below.refl _ _).alloc (Nat.le_refl _) jY));have N20a:=hI (zI.new [] [] 0 0 0 (.slice none 0 0) v7);have hNs20:=N20a.o.lt;have hlt20:=S7x.o.lt;unfold jY at *;refine kK hK L20a.o ?_;clear hK K;refine wOn 5 fun K hK=>?_
      go_simp;refine(vB B u rr d _ S20a.o.ps hteu).mono ?_;rintro e v22 ⟨rfl,hP,hg⟩;have S22x:=hI (S20a.o.call hP hg);have L22x:=hI (L20a.o.grown hg (by simp;omega));have N22x:=hI (N20a.o.grown hg (by simp;omega));have hNs22:=N22x.o.lt;have hss22:=S22x.o.lt;have hll22:=L22x.o.lt;unfold vT xA;refine kK hK L22x.o ?_;clear hK K;refine wTk 6 24 (.string ⟨u.text.toArray⟩) ?_ L22x.o ?_
      ·intro _ y;go_simp
      refine wOn 7 fun K hK=>?_
      go_simp;have HN:=jI t ⟨kind.toArray⟩ ⟨(u.text).toArray⟩;unfold vT xA at HN;refine(HN _).mono ?_;rintro e v25 ⟨rfl,hb⟩;have S25x:=hI (S22x.o.below hb);have L25x:=hI (L22x.o.below hb);have N25x:=hI (N22x.o.below hb);have hNs25:=N25x.o.lt;have hss25:=S25x.o.lt;have hll25:=L25x.o.lt;refine kK hK L25x.o ?_;clear hK K;have⟨a0,a1,a2,a3,a4,a5,_⟩:=N25x.o.a;have⟨b0,b1,b2,b3,b4,b5,_⟩:=N25x.o.b;refine wOn 9 fun K hK=>?_
      go_simp;refine kK hK (L25x.o.grown (vQ _ v7.1.size _ _ _ _ _ _) (by simp;omega)) ?_;clear hK K;refine wDn ?_ _;exact⟨_,by simp only[Act.put,pZa,pZb,pZc],S25x.o.six (by omega) _ _ _ _ _ _,⟨N25x.o.six kind u.text 0 t.line t.col (.slice none 0 0),zC.nil _ _⟩,by omega,L25x.o.grown (vQ _ v7.1.size _ _ _ _ _ _) (by simp;omega)⟩
    ·go_simp;have S27a:=hI (SS.o.alloc jY);have L27a:=hI (LL.o.below ((Below.refl _ _).alloc (Nat.le_refl _) jY));have N27a:=hI (zI.new [] [] 0 0 0 (.slice none 0 0) wd);have hNs27:=N27a.o.lt;have hlt27:=SS.o.lt;unfold jY at *;refine kK hK L27a.o ?_;clear hK K;refine wOn 4 fun K hK=>?_
     go_simp;refine(HNM.o _ S27a.o.ps).mono ?_;rintro e v29 ⟨rfl,hb⟩;have S29x:=hI (S27a.o.below hb);have L29x:=hI (L27a.o.below hb);have N29x:=hI (N27a.o.below hb);have hNs29:=N29x.o.lt;have hss29:=S29x.o.lt;have hll29:=L29x.o.lt;refine kK hK L29x.o ?_;clear hK K;refine wOn 5 fun K hK=>?_
     go_simp;refine(vB B u rr d _ S29x.o.ps hteu).mono ?_;rintro e v31 ⟨rfl,hP,hg⟩;have S31x:=hI (S29x.o.call hP hg);have L31x:=hI (L29x.o.grown hg (by simp;omega));have N31x:=hI (N29x.o.grown hg (by simp;omega));have hNs31:=N31x.o.lt;have hss31:=S31x.o.lt;have hll31:=L31x.o.lt;unfold vT xA;refine kK hK L31x.o ?_;clear hK K;refine wTk 6 24 (.string ⟨u.text.toArray⟩) ?_ L31x.o ?_
     ·intro _ y;go_simp
     refine wOn 7 fun K hK=>?_
     go_simp;have HN:=jI t ⟨kind.toArray⟩ ⟨(u.text).toArray⟩;unfold vT xA at HN;refine(HN _).mono ?_;rintro e v34 ⟨rfl,hb⟩;have S34x:=hI (S31x.o.below hb);have L34x:=hI (L31x.o.below hb);have N34x:=hI (N31x.o.below hb);have hNs34:=N34x.o.lt;have hss34:=S34x.o.lt;have hll34:=L34x.o.lt;refine kK hK L34x.o ?_;clear hK K;have⟨a0,a1,a2,a3,a4,a5,_⟩:=N34x.o.a;have⟨b0,b1,b2,b3,b4,b5,_⟩:=N34x.o.b;refine wOn 9 fun K hK=>?_
     go_simp;refine kK hK (L34x.o.grown (vQ _ wd.1.size _ _ _ _ _ _) (by simp;omega)) ?_;clear hK K;refine wDn ?_ _;exact⟨_,by simp only[Act.put,pZa,pZb,pZc],S34x.o.six (by omega) _ _ _ _ _ _,⟨N34x.o.six kind u.text 0 t.line t.col (.slice none 0 0),zC.nil _ _⟩,by omega,L34x.o.grown (vQ _ wd.1.size _ _ _ _ _ _) (by simp;omega)⟩
   intro N w5 ⟨hS5,hN5,hwN,hL5⟩;try simp only[Act.put,pZa,pZb,pZc]
   have S5:=hI hS5;have N5:=hI hN5;have l0:=hL5.c0;have l1:=hL5.c1;have l2':=hL5.c2;have l3':=hL5.c3;have l4':=hL5.c4;clear hS5 hN5 hL5 S2 L2;have H:=hI (jI t ⟨zB.toArray⟩ ⟨t.text.toArray⟩);go_wp2_with fail
   refine(H.o _).mono ?_;rintro e w21 ⟨rfl,hb21⟩;have S21:=hI (S5.o.below hb21);have N21:=hI (N5.o.below hb21);clear S5 N5;clear H hb21;have hff:=qVb (t:=.mk zB t.text 0 t.line t.col []) S21.o N21.o.nd hwN (zC.nil _ w21.1.size) (Nat.succ_le_of_lt N21.o.lt) (Nat.le_refl _);have HFF:=hI hff;have SC:=S21.o;have NC:=N21.o;have hs1:=SC.lt;have hs2:=NC.lt;have hf5:=NC.nd.f 5 nL;have hr:=SC.res;have⟨r0,r1',r2,r3,r4,r5,_⟩:=hr.a;have⟨g0,g1,g2,g3,g4,g5,_⟩:=hr.b;clear hr;have hq:=NC.nd;have⟨qn0,qn1,qn2,qn3,qn4,qn5,_⟩:=hq.a;clear hq;clear hff S21 N21 SC NC l0 l1 l2' l3' l4';go_wp2
   refine bodyPost_ret (v:=qZ (.mk kind u.text 0 t.line t.col [.mk zB t.text 0 t.line t.col []]) (.slice (some ⟨w21.1.size,0,none⟩) 1 1)) (by simp[results,results103,go_sem,qZ,qQ.kind,qQ.text,qQ.num,qQ.line,qQ.col,qQ.kids,qY,qG,qC,qO,zB,zD,zX,qE,kIf,zS,qA,qV,qF,qD,qP,qW,qN,zW,zM,qL,qM,qT,zK,zL,qH,zA, *]) rfl ?_;have hgood:(zG kind true) (t :: u :: rr)=.ok (.mk kind u.text 0 t.line t.col [.mk zB t.text 0 t.line t.col []]) rr:=by simp only[bF,if_false,if_true,reduceIte,bN,bM,bO,bU,bP,bV,bW,bB,bA,bT,lN,lC,lA,zG,jV,hn,PR.bind,qX]
   rw[hgood];exact HFF.o.1.finA (by simpa using hs1) (HFF.o.2.bd.mono (by omega)) _ _ _ _ _ _
theorem qK2:yR 107:=fun args w=>by simp[go_sem,func107]
theorem enters94:yR 105:=fun args w=>by simp[go_sem,func105]
theorem qVz:yR 158:=fun args w=>by simp[go_sem,func158]
theorem enters146:yR 173:=fun args w=>by simp[go_sem,func173]
theorem qY6:yR 181:=fun args w=>by simp[go_sem,func181]
theorem enters119:yR 141:=fun args w=>by simp[go_sem,func141]
theorem enters120:yR 142:=fun args w=>by simp[go_sem,func142]
theorem enters121:yR 143:=fun args w=>by simp[go_sem,func143]
theorem enters122:yR 144:=fun args w=>by simp[go_sem,func144]
theorem enters123:yR 145:=fun args w=>by simp[go_sem,func145]
theorem enters124:yR 146:=fun args w=>by simp[go_sem,func146]
theorem qL0(x:List UInt8):yR (qXy x):=by
 unfold qXy;split
 ·exact enters119
 split
 ·exact enters120
 split
 ·exact enters121
 split
 ·exact enters122
 split
 ·exact enters123
 ·exact enters124
theorem qKo(kind:List UInt8)(d:Int):vM 103 (fun p=>#[p, .string ⟨kind.toArray⟩, .bool false]) d (zG kind false):=fun B l w h hno=>qKl kind false d B l w h (fun e=>by cases e) hno
structure AllAt(n:Nat)(d:Int):Prop where
 block:vM 107 (fun p=>#[p]) d (qQd n .block d)
 binary:∀ k,0<=k->k<=10->vM 172 (fun p=>#[p, .int .i64 k]) d (qQd n (.binary k) d)
 operand:vM 181 (fun p=>#[p]) d (qQd n .operand d)
theorem stmt_does(rec:NT->Int->List Tok->PR qQ)(n:Nat)(d:Int)(hch:vM 141 (fun p=>#[p]) d (vF rec d))(hlo:vM 142 (fun p=>#[p]) d (jK rec qA d))(hle:vM 143 (fun p=>#[p]) d (yC rec d))
 (hcl:∀ (B:Nat) (l:List Tok) (w:World),vP B l d w->(hdT l).text≠[]->kL rec d l≠.out->Calls prog 144 #[.pointer (some ⟨B,0,none⟩)] w (qXV B d w (kL rec d l))) (hlc:vM 145 (fun p=>#[p]) d qQM) (hac:vM 146 (fun p=>#[p]) d (jJ rec n d)) :
 ∀ (B:Nat) (l:List Tok) (w:World),vP B l d w->qQA rec n d l≠.out->Calls prog (qXy (hdT l).text) #[.pointer (some ⟨B,0,none⟩)] w (qXV B d w (qQA rec n d l)):=by
 intro B l w h hno;unfold qQA at *;unfold qXy;cases h1:((hdT l).text == kIf);case true=>simp only[h1,if_true]at hno ⊢;exact hch B l w h hno
 cases h2:((hdT l).text == qA);case true=>simp only[h1,h2,if_true,bF,if_false]at hno ⊢;exact hlo B l w h hno
 cases h3:((hdT l).text == qV);case true=>simp only[h1,h2,h3,if_true,bF,if_false]at hno ⊢;exact hle B l w h hno
 cases h4:((hdT l).text == qF || (hdT l).text == qD);case true =>
  simp only[h1,h2,h3,h4,if_true,bF,if_false]at hno ⊢;exact hcl B l w h (fun e=>by rw[e]at h4;exact absurd h4 (by decide)) hno
 cases h5:yG (hdT l).text;case true=>simp only[h1,h2,h3,h4,h5,if_true,bF,if_false]at hno ⊢;exact hlc B l w h hno
 simp only[h1,h2,h3,h4,h5,bF,if_false]at hno ⊢;exact hac B l w h hno
theorem all_at(n:Nat)(hn:n<=900000):∀ d:Int,AllAt n d:=by
 induction n with
 | zero=>exact fun d=>⟨fun B l w h hno=>absurd rfl hno,fun k _ _ B l w h hno=>absurd rfl hno,fun B l w h hno=>absurd rfl hno⟩
 | succ n ih =>
  intro d;have H:=ih (by omega);have hex:∀ d,vM 158 (fun p=>#[p]) d (qQh (qQd n) d):=fun d=>qWk (qQd n) d ((H d).binary 0 (by omega) (by omega))
  have hta:∀ d,vM 161 (fun p=>#[p]) d (xF (qQd n) d):=fun d=>qLf (qQd n) d qVz (hex (d+1))
  have har:∀ d,vM 173 (fun p=>#[p]) d (qPf (qQd n) d):=fun d=>qYD (qQd n) d qVz (hex (d+1))
  have hca:∀ d,vM 160 (fun p=>#[p]) d (qQz (qQd n) n d):=fun d=>call_does (qQd n) n d (by omega) enters146 (har d)
  have hgw:vM 157 (fun p=>#[p, .string ⟨qA.toArray⟩]) d (jK (qQd n) qA d):=qK9 (qQd n) qA d (by decide) qK2 (hex d) (H (d+1)).block;have hgi:vM 157 (fun p=>#[p, .string ⟨kIf.toArray⟩]) d (jK (qQd n) kIf d):=qK9 (qQd n) kIf d (by decide) qK2 (hex d) (H (d+1)).block;refine⟨?_,?_,?_⟩
  ·exact qLT (qQd n) n d (by omega) qL0 (stmt_does (qQd n) n d (qPp (qQd n) d qK2 hgi (H (d+1)).block) (loop_does (qQd n) d hgw) (leave_does (qQd n) d (hex d)) (qLZ (qQd n) d (hex d)) (local_does d (qKo qE d)) (qPd (qQd n) n d (hca d) (hta d) (hex d)))
  ·exact fun k h0 h1=>qPi (qQd n) n k d h0 h1 (H d).operand (H d).binary
  ·exact qUS (qQd n) d qY6 (H (d+1)).operand (paren_does (qQd n) d qY6 qVz (H (d+1)).operand (hex (d+1))) (hta d)
theorem qP2(n:Nat)(hn:n<=900000):vM 74 (fun p=>#[p]) 0 (xW n) :=
 qUW n hn (item_does n 0 hn qK2 enters94 (fun void B l w h hc hno=>qKl qG void 0 B l w h hc hno) (param_does 0 (qKo qO 0)) ((all_at n hn 1).block))
def xP{α:Type}(m:Nat)(p:PR α):Prop:=p≠.out/\∀ a l,p=.ok a l->l.length < m
theorem xP.ok{α:Type}{m:Nat}(a:α){l:List Tok}(h:l.length < m):xP m (.ok a l):=⟨by simp,fun a' l' e=>by injection e with _ e;subst e;exact h⟩
theorem xP.bad{α:Type}(m:Nat)(ln c code:Int):xP m (.bad ln c code:PR α):=⟨by simp,fun a' l' e=>by cases e⟩
theorem xP.bind{α β:Type}{m m':Nat}{p:PR α}{f:α->List Tok->PR β}(h:xP m p)(hf:∀ a l,l.length < m->xP m' (f a l)):xP m' (p.bind f):=by
 cases p with
 | ok a l=>exact hf a l (h.2 a l rfl)
 | bad ln c code=>exact xP.bad _ _ _ _
 | out=>exact absurd rfl h.1
theorem xP.mono{α:Type}{m m':Nat}{p:PR α}(h:xP m p)(hm:m<=m'):xP m' p:=⟨h.1,fun a l e=>Nat.lt_of_lt_of_le (h.2 a l e) hm⟩
theorem kS(may:Bool)(l:List Tok):xP l.length (jV may l):=by
 cases l with
 | nil=>exact xP.bad _ _ _ _
 | cons t r =>
  rw[jV];split
  ·exact xP.ok _ (by simp)
  ·exact xP.bad _ _ _ _
theorem qWU:∀ (xs:List (List UInt8)) (l:List Tok),xP (l.length+1) (jL xs l)
 | [],l=>xP.ok _ (by simp)
 | x :: xs,l=>(kS _ l).bind fun _ l' h=>(qWU xs l').mono (by omega)
theorem jB(x:List UInt8)(xs:List (List UInt8))(l:List Tok):xP l.length (jL (x :: xs) l):=(kS _ l).bind fun _ l' h=>(qWU xs l').mono (by omega)
theorem fine_fail(m:Nat)(code:Int)(l:List Tok):xP m (qWQ code l:PR qQ):=xP.bad _ _ _ _
theorem wR{m:Nat}{d:Int}{p:Int->List Tok->PR qQ}{l:List Tok}(h:xP m (p (d+1) l)):xP m (xX d p l):=by
 unfold xX;split
 ·exact fine_fail _ _ _
 ·exact h
theorem qJ6{stop:Tok->Bool}{p:List Tok->PR qQ}:∀ (n:Nat) (acc:List qQ) (l:List Tok),l.length < n->(∀ l',l'.length<=l.length->xP l'.length (p l'))->xP (l.length+1) (vI stop p n acc l)
 | 0,_,_,h,_=>by omega
 | n+1,acc,l,h,hp=>by
  rw[vI];split
  ·exact xP.ok _ (by omega)
  ·exact(hp l (Nat.le_refl _)).bind fun t l' hl=>(qJ6 n (acc++[t]) l' (by omega) (fun l'' h''=>hp l'' (by omega))).mono (by omega)
theorem qXS(kind:List UInt8)(void:Bool)(l:List Tok):xP l.length (zG kind void l) :=
 (kS _ l).bind fun t l' h=>(kS _ l').bind fun u l'' h'=>xP.ok _ (by omega)
theorem qV1(l:List Tok):xP l.length (wQ l):=(kS _ l).bind fun t l' h=>xP.ok _ h
theorem qV0{n:Nat}{p:List Tok->PR qQ}{l:List Tok}(hn:l.length<=n)(hp:∀ l',l'.length < l.length->xP l'.length (p l')):xP l.length (xT n p l):=by
 unfold xT;refine(jB [40] [] l).bind fun _ l1 h1=>?_
 split
 ·exact(jB [41] [] l1).bind fun _ l2 h2=>xP.ok _ (by omega)
 ·refine(hp l1 h1).bind fun t l2 h2=>?_
  refine(qJ6 n [t] l2 (by omega) (fun l' h'=>(jB [44] [] l').bind fun _ l3 h3=>(hp l3 (by omega)).mono (by omega))).bind fun ts l3 h3=>?_
  exact(jB [41] [] l3).bind fun _ l4 h4=>xP.ok _ (by omega)
section
variable {rec:NT->Int->List Tok->PR qQ} {n L:Nat}
structure qXj(rec:NT->Int->List Tok->PR qQ)(L:Nat):Prop where
 block:∀ d l,l.length < L->xP l.length (rec .block d l)
 binary:∀ k d l,l.length < L->xP l.length (rec (.binary k) d l)
 operand:∀ d l,l.length < L->xP l.length (rec .operand d l)
theorem qV2(H:qXj rec L)(d:Int)(l:List Tok)(hl:l.length<=L):xP l.length (xF rec d l):=by
 unfold xF;refine(kS _ l).bind fun t l1 h1=>?_
 split
 ·refine(jB [91] [] l1).bind fun _ l2 h2=>?_
  refine(wR (H.binary 0 (d+1) l2 (by omega))).bind fun e l3 h3=>?_
  exact(jB [93] [] l3).bind fun _ l4 h4=>xP.ok _ (by omega)
 ·exact xP.ok _ h1
theorem qL6(H:qXj rec L)(d:Int)(l:List Tok)(hl:l.length<=L):xP l.length (yJ rec d l):=by
 unfold yJ;refine(kS _ l).bind fun t l1 h1=>?_
 split
 ·refine(kS _ l1).bind fun u l2 h2=>?_
  refine(jB [41] [] l2).bind fun _ l3 h3=>?_
  exact(wR (H.operand (d+1) l3 (by omega))).bind fun e l4 h4=>xP.ok _ (by omega)
 ·refine(wR (H.binary 0 (d+1) l1 (by omega))).bind fun e l3 h3=>?_
  exact(jB [41] [] l3).bind fun _ l4 h4=>xP.ok _ (by omega)
theorem qUL(H:qXj rec L)(d:Int)(l:List Tok)(hl:l.length<=L):xP l.length (jU rec d l):=by
 unfold jU;split
 ·exact qV1 l
 split
 ·exact(kS _ l).bind fun u l1 h1=>xP.ok _ h1
 split
 ·refine(kS _ l).bind fun u l1 h1=>?_
  exact(wR (H.operand (d+1) l1 (by omega))).bind fun e l2 h2=>xP.ok _ (by omega)
 split
 ·exact qL6 H d l hl
 ·exact qV2 H d l hl
theorem qK4(H:qXj rec L)(k d:Int):∀ (m:Nat) (left:qQ) (l:List Tok),l.length < m->l.length<=L->xP (l.length+1) (kX rec k d m left l)
 | 0,_,_,h,_=>by omega
 | m+1,left,l,h,hl=>by
  rw[kX];split
  ·exact xP.ok _ (by omega)
  ·refine(kS _ l).bind fun t l1 h1=>?_
   refine(H.binary _ d l1 (by omega)).bind fun r l2 h2=>?_
   exact(qK4 H k d m _ l2 (by omega) (by omega)).mono (by omega)
theorem qPB(H:qXj rec L)(k d:Int)(l:List Tok)(hl:l.length<=L)(hn:l.length<=n)(ho:xP l.length (rec .operand d l)):xP l.length (qQy rec n k d l):=by
 unfold qQy;exact ho.bind fun e l1 h1=>(qK4 H k d n e l1 (by omega) (by omega)).mono (by omega)
theorem qJ5(H:qXj rec L)(d:Int)(l:List Tok)(hl:l.length < L):xP l.length (qQh rec d l):=H.binary 0 d l hl
theorem qY8(H:qXj rec L)(d:Int)(l:List Tok)(hl:l.length<=L)(hn:l.length<=n):xP l.length (qQz rec n d l):=by
 unfold qQz;refine(kS _ l).bind fun t l1 h1=>?_
 exact(qV0 (by omega) (fun l' h'=>wR (H.binary 0 (d+1) l' (by omega)))).bind fun ts l2 h2=>xP.ok _ (by omega)
theorem qPA(H:qXj rec L)(d:Int)(l:List Tok)(hl:l.length<=L)(hn:l.length<=n):xP l.length (jJ rec n d l):=by
 unfold jJ;split
 ·exact(qY8 H d l hl hn).bind fun t l1 h1=>(jB [59] [] l1).bind fun _ l2 h2=>xP.ok _ (by omega)
 ·refine(qV2 H d l hl).bind fun x l1 h1=>(jB [61] [] l1).bind fun _ l2 h2=>?_
  split
  ·exact(jB qW [[40],[41]] l2).bind fun _ l3 h3=>(jB [59] [] l3).bind fun _ l4 h4=>xP.ok _ (by omega)
  split
  ·exact(qY8 H d l2 (by omega) (by omega)).bind fun y l3 h3=>(jB [59] [] l3).bind fun _ l4 h4=>xP.ok _ (by omega)
  ·exact(qJ5 H d l2 (by omega)).bind fun y l3 h3=>(jB [59] [] l3).bind fun _ l4 h4=>xP.ok _ (by omega)
theorem qL3(H:qXj rec L)(d:Int)(l:List Tok)(hl:l.length<=L):xP l.length (kL rec d l):=by
 unfold kL;exact(kS _ l).bind fun t l1 h1=>(jB [40] [] l1).bind fun _ l2 h2=>(qJ5 H d l2 (by omega)).bind fun e l3 h3=>(jB [41] [[59]] l3).bind fun _ l4 h4=>xP.ok _ (by omega)
theorem qL4(H:qXj rec L)(d:Int)(l:List Tok)(hl:l.length<=L):xP l.length (yC rec d l):=by
 unfold yC;refine(jB qV [] l).bind fun _ l1 h1=>?_
 split
 ·exact(jB [59] [] l1).bind fun _ l2 h2=>xP.ok _ (by omega)
 ·exact(qJ5 H d l1 (by omega)).bind fun e l2 h2=>(jB [59] [] l2).bind fun _ l3 h3=>xP.ok _ (by omega)
theorem qK5(H:qXj rec L)(word:List UInt8)(d:Int)(l:List Tok)(hl:l.length<=L):xP l.length (jK rec word d l):=by
 unfold jK;exact(jB word [[40]] l).bind fun _ l1 h1=>(qJ5 H d l1 (by omega)).bind fun e l2 h2=>(jB [41] [] l2).bind fun _ l3 h3=>(wR (H.block (d+1) l3 (by omega))).bind fun b l4 h4=>xP.ok _ (by omega)
theorem qPC(H:qXj rec L)(d:Int)(l:List Tok)(hl:l.length<=L):xP l.length (vF rec d l):=by
 unfold vF;refine(qK5 H kIf d l hl).bind fun t l1 h1=>?_
 split
 ·exact(jB zS [] l1).bind fun _ l2 h2=>(wR (H.block (d+1) l2 (by omega))).bind fun b l3 h3=>xP.ok _ (by omega)
 ·exact xP.ok _ h1
theorem qL5(l:List Tok):xP l.length (qQM l):=(qXS _ _ l).bind fun t l1 h1=>(jB [59] [] l1).bind fun _ l2 h2=>xP.ok _ (by omega)
theorem fine_stmt(H:qXj rec L)(d:Int)(l:List Tok)(hl:l.length<=L)(hn:l.length<=n):xP l.length (qQA rec n d l):=by
 unfold qQA;split
 ·exact qPC H d l hl
 split
 ·exact qK5 H _ d l hl
 split
 ·exact qL4 H d l hl
 split
 ·exact qL3 H d l hl
 split
 ·exact qL5 l
 ·exact qPA H d l hl hn
theorem qL2(H:qXj rec L)(d:Int)(l:List Tok)(hl:l.length<=L)(hn:l.length<=n):xP l.length (qQK rec n d l):=by
 unfold qQK;refine(jB [123] [] l).bind fun _ l1 h1=>?_
 exact(qJ6 n [] l1 (by omega) (fun l' h'=>fine_stmt H d l' (by omega) (by omega))).bind fun ts l2 h2=>(jB [125] [] l2).bind fun _ l3 h3=>xP.ok _ (by omega)
end
theorem fine_run:∀ (n:Nat),(∀ d l,2 * l.length+2<=n->xP l.length (qQd n .block d l))/\(∀ k d l,2 * l.length+2<=n->xP l.length (qQd n (.binary k) d l))/\∀ d l,2 * l.length+1<=n->xP l.length (qQd n .operand d l):=by
 intro n;induction n with
 | zero=>exact⟨fun d l h=>by omega,fun k d l h=>by omega,fun d l h=>by omega⟩
 | succ n ih =>
  have hR:∀ L,2 * L<=n->qXj (qQd n) L:=fun L hL=>⟨fun d l hl=>ih.1 d l (by omega),fun k d l hl=>ih.2.1 k d l (by omega),fun d l hl=>ih.2.2 d l (by omega)⟩
  refine⟨fun d l h=>?_,fun k d l h=>?_,fun d l h=>?_⟩
  ·exact qL2 (hR l.length (by omega)) d l (Nat.le_refl _) (by omega)
  ·exact qPB (hR l.length (by omega)) k d l (Nat.le_refl _) (by omega) (ih.2.2 d l (by omega))
  ·exact qUL (hR l.length (by omega)) d l (Nat.le_refl _)
theorem fine_item(n:Nat)(l:List Tok)(h:2 * l.length+2<=n):xP l.length (qZe n l):=by
 unfold qZe;refine(qXS _ _ l).bind fun t l1 h1=>?_
 split
 ·refine(qV0 (by omega) (fun l' h'=>qXS _ _ l')).bind fun ps l2 h2=>?_
  exact(wR ((fine_run n).1 (0+1) l2 (by omega))).bind fun b l3 h3=>xP.ok _ (by omega)
 split
 ·exact(jB [91] [] l1).bind fun _ l2 h2=>(qV1 l2).bind fun m l3 h3=>(jB [93] [] l3).bind fun _ l4 h4=>(jB [59] [] l4).bind fun _ l5 h5=>xP.ok _ (by omega)
 ·exact(jB [59] [] l1).bind fun _ l2 h2=>xP.ok _ (by omega)
theorem qP3(n:Nat)(l:List Tok)(h:2 * l.length+2<=n):xW n l≠.out:=by
 have:=(qJ6 (stop:=fun u=>u.kind == 3) n [] l (by omega) (fun l' h'=>fine_item n l' (by omega))).bind (m':=l.length+1) (f:=fun ts l'=>PR.ok (qQ.mk qY [] 0 (hdT l).line (hdT l).col ts) l') fun ts l' h'=>xP.ok _ h'
 exact this.1
theorem lex_long(s:ByteArray)(w:World)(hs:65536 < s.size) :
 Calls prog 8 #[.string s] w fun e w'=>e=.returned (.tuple #[.slice none 0 0, .int .i64 0, .int .i64 0, .int .i64 22])/\Below w.1.size w w':=by
 have hs':(65536:Int) < (s.size:Int):=by omega
 go_enter func8,ntmps8
 go_wp2
 exact bodyPost_ret (v:=.tuple #[.slice none 0 0, .int .i64 0, .int .i64 0, .int .i64 22]) (by simp[results,results8,go_sem]) rfl ⟨rfl,Below.refl _ _⟩
def qZ4(s:List UInt8):PR qQ:=if s.length<=65536 then qJq 200000 s else .bad 0 0 22
theorem qP5(s:List UInt8)(h:s.length<=65536):qJq 200000 s≠.out:=by
 unfold qJq;cases hr:qQD s 1 1 with
 | bad a b c=>simp
 | ok l =>
  have:=(qUh hr).2.1;exact qP3 _ _ (by omega)
theorem read_long(s:ByteArray)(w:World)(hs:65536 < s.size):Calls prog 21 #[.string s] w (qJ1 w (.bad 0 0 22)):=by
 have ha:=(Below.refl w.1.size w).alloc (Nat.le_refl _) jY;have H:=hI (lex_long s (w.alloc jY) hs);have HA:=hI ha;have HR:=hI (zI.new [] [] 0 0 0 (.slice none 0 0) w);clear ha;unfold jY at *;go_enter func21,ntmps21
 go_wp2_with fail
 refine(H.o).mono ?_;rintro e w1 ⟨rfl,hB⟩;have hR:=HR.o.below hB;have HG:=hI hB;have⟨r0,r1,r2,r3,r4,r5,_⟩:=hR.a;have⟨g0,g1,g2,g3,g4,g5,_⟩:=hR.b;have hsz:=hR.lt;clear hR hB H HR;go_wp2
 refine bodyPost_ret (v:=.tuple #[qXH, .int .i64 0, .int .i64 0, .int .i64 22]) (by simp[results,results21,go_sem,qXH, *]) rfl ?_;exact⟨rfl,qQb (qQU (zV (HA.o.trans (HG.o.mono HA.o.size)) none) (Nat.le_refl _) _ _ _ _ _ _)⟩
theorem read_all(s:ByteArray)(w:World)(ht:Tab3 w):Calls prog 21 #[.string s] w (qJ1 w (qZ4 s.data.toList)):=by
 have hl:s.data.toList.length=s.size:=(qQQ s).symm;unfold qZ4;by_cases h:s.data.toList.length<=65536
 ·rw[if_pos h];exact read_any 200000 (qP2 200000 (by omega)) s w (by omega) ht (qP5 _ h)
 ·rw[if_neg h];exact read_long s w (by omega)
theorem qVG(s:List UInt8):qZ4 s≠.out:=by
 unfold qZ4;split
 ·rename_i h;exact qP5 s h
 ·simp
theorem lex_len(n:Nat)(l:List UInt8)(ln c:Int)(ts:List Tok)(hn:l.length<=n)(h:qQD l ln c=.ok ts):0 < ts.length/\ts.length<=l.length+1/\(qZ5 (ts.map Tok.bare)).length<=2 * l.length:=by
 induction n generalizing l ln c ts with
 | zero =>
  obtain rfl:l=[]:=List.length_eq_zero_iff.mp (by omega);have e:qQD [] ln c=.ok [⟨3,[],0,ln,c⟩]:=rfl;rw[e]at h;cases h;exact⟨by simp,by simp,by simp[qZ5,Tok.bare]⟩
 | succ n ih =>
  rw[qJe]at h;have hls:(vO l ln c).1.length<=l.length:=qZT l.length l ln c;generalize vO l ln c=s at *;by_cases h1:s.1=[]
  ·rw[if_pos h1]at h;cases h;exact⟨by simp,by simp,by simp[qZ5,Tok.bare]⟩
  ·rw[if_neg h1]at h;by_cases he:wK s.1=0
   ·rw[if_pos he]at h;have hp:=qQW he;have hle:=wG s.1;cases hr:qQD (s.1.drop (zZ s.1)) (kU (s.1.take (zZ s.1)) s.2.1 s.2.2).1 (kU (s.1.take (zZ s.1)) s.2.1 s.2.2).2 with
    | bad a b c=>rw[hr]at h;cases h
    | ok ts' =>
     rw[hr]at h;cases h;have hd:(s.1.drop (zZ s.1)).length=s.1.length - zZ s.1:=List.length_drop;obtain⟨a1,a2,a3⟩:=ih _ _ _ ts' (by omega) hr;refine⟨by simp,by simp;omega,?_⟩;have hk:(qJX s.1 s.2.1 s.2.2).bare.kind=vA s.1:=rfl;have ht:(qJX s.1 s.2.1 s.2.2).bare.text=s.1.take (zZ s.1):=rfl;rw[List.map_cons,qZ5,if_neg (by rw[hk];exact qVA _),ht,lL,lO,List.length_take];omega
   ·rw[if_neg he]at h;cases h
theorem qPN(n:Nat)(l:List UInt8)(ln c:Int){a b code:Int}(hn:l.length<=n)(h:qQD l ln c=.bad a b code):code=20\/code=21:=by
 induction n generalizing l ln c with
 | zero =>
  obtain rfl:l=[]:=List.length_eq_zero_iff.mp (by omega);have e:qQD [] ln c=.ok [⟨3,[],0,ln,c⟩]:=rfl;rw[e]at h;cases h
 | succ n ih =>
  rw[qJe]at h;have hls:(vO l ln c).1.length<=l.length:=qZT l.length l ln c;generalize vO l ln c=s at *;by_cases h1:s.1=[]
  ·rw[if_pos h1]at h;cases h
  ·rw[if_neg h1]at h;by_cases he:wK s.1=0
   ·rw[if_pos he]at h;have hp:=qQW he;have hle:=wG s.1;have hd:(s.1.drop (zZ s.1)).length=s.1.length - zZ s.1:=List.length_drop;cases hr:qQD (s.1.drop (zZ s.1)) (kU (s.1.take (zZ s.1)) s.2.1 s.2.2).1 (kU (s.1.take (zZ s.1)) s.2.1 s.2.2).2 with
    | ok ts'=>rw[hr]at h;cases h
    | bad a' b' c' =>
     rw[hr]at h;cases h;exact ih _ _ _ (by omega) hr
   ·rw[if_neg he]at h;cases h;exact qU7 he
section
variable {D:Prop} {m:Nat}
end
section
variable {D:Prop}
end
theorem qUu:∀ (i:Nat) (l:List UInt8),0 < i->qQ0 i (l.take (xQ qQZ l))=true
 | _,[],_=>rfl
 | i,b :: r,hi=>by
  rw[xQ];by_cases h:qQZ (b.toNat:Int)=true
  ·rw[if_pos h,List.take_succ_cons,qQ0,qUu (i+1) r (by omega),bW];unfold qQZ at h;simp only[Bool.or_eq_true,decide_eq_true_eq]at h;rcases h with h | h
   ·rw[h];rfl
   ·have:qPv (b.toNat:Int)=true:=by
     unfold qQa at h;unfold qPv;simp only[decide_eq_true_eq];by_cases h1:(48:Int)<=b.toNat/\(b.toNat:Int)<=57
     ·exact h1
     ·rw[if_neg h1]at h;by_cases h2:(97:Int)<=b.toNat/\(b.toNat:Int)<=102
      ·rw[if_pos h2]at h;omega
      ·rw[if_neg h2]at h;by_cases h3:(65:Int)<=b.toNat/\(b.toNat:Int)<=70
       ·rw[if_pos h3]at h;omega
       ·rw[if_neg h3]at h;omega
    rw[this,show(i == 0)=false by simp;omega];simp
  ·rw[if_neg h];rfl
theorem qUm{base:Int}(hb:base=10\/base=16):∀ (l:List UInt8) (acc v:Int),xJ base acc l=some v->0<=acc->acc<=18446744073709551615 ->
 0<=v/\v<=18446744073709551615/\v < (acc+1) * ((16 ^ l.length:Nat):Int)
 | [],acc,v,h,h0,h1=>by
  rw[xJ]at h;cases h;refine⟨h0,h1,?_⟩;show acc < (acc+1) * ((16 ^ 0:Nat):Int)
  simp;omega
 | b :: r,acc,v,h,h0,h1=>by
  rw[xJ]at h;by_cases hc:base<=qQa (b.toNat:Int)\/(18446744073709551615 - qQa (b.toNat:Int)) / base < acc
  ·rw[if_pos hc]at h;cases h
  ·rw[if_neg hc]at h;rw[not_or]at hc;have hd:=qWP (b.toNat:Int);generalize qQa (b.toNat:Int)=d at *;have hm:0<=acc * base+d/\acc * base+d<=18446744073709551615/\acc * base+d+1<=(acc+1) * 16:=by
    rcases hb with rfl | rfl <;> omega
   obtain⟨a1,a2,a3⟩:=qUm hb r _ v h hm.1 hm.2.1;refine⟨a1,a2,Int.lt_of_lt_of_le a3 ?_⟩;rw[lO,Nat.pow_succ,Nat.mul_comm,Int.natCast_mul,<-Int.mul_assoc];exact Int.mul_le_mul_of_nonneg_right hm.2.2 (Int.natCast_nonneg _)
theorem qY3:∀ (k u:Nat),u < 10 ^ k->Lib.nDigits u<=k+1 - (if u=0 then 0 else 1)
 | 0,u,h=>by
  have:u=0:=by simpa using h
  subst this;rw[Lib.nDigits_small (by omega)];simp
 | k+1,u,h=>by
  by_cases hu:u < 10
  ·rw[Lib.nDigits_small hu];split <;> omega
  ·rw[Lib.nDigits_big hu];have:=qY3 k (u / 10) (by rw[Nat.pow_succ]at h;omega);rw[if_neg (by omega)]at this;rw[if_neg (by omega)];omega
theorem dec_len{u k:Nat}(h:u < 10 ^ k)(hk:1<=k):(Lib.decDigits u).length<=k:=by
 rw[Lib.decDigits_length];have:=qY3 k u h;by_cases hu:u=0
 ·subst hu;rw[Lib.nDigits_small (by omega)];exact hk
 ·rw[if_neg hu]at this;omega
theorem pow_16_10(k:Nat):16 ^ k<=10 ^ (2 * k):=by
 rw[Nat.pow_mul];exact Nat.pow_le_pow_left (by omega) k
theorem numL_ok{l:List UInt8}{v:Int}(h:qJg l=some v):0<=v/\v < 18446744073709551616/\(Lib.decDigits v.toNat).length<=2 * l.length:=by
 have key:∀ (base:Int) (x:List UInt8),(base=10\/base=16)->xJ base 0 x=some v->x≠[]->x.length<=l.length->0<=v/\v < 18446744073709551616/\(Lib.decDigits v.toNat).length<=2 * l.length:=by
  intro base x hb hx hne hle;obtain⟨a1,a2,a3⟩:=qUm hb x 0 v hx (by omega) (by omega);have h4:v.toNat < 16 ^ x.length:=by omega
  have h5:=pow_16_10 x.length;have hp:0 < x.length:=List.length_pos_iff.2 hne;have h6:=dec_len (u:=v.toNat) (k:=2 * x.length) (by omega) (by omega);exact⟨a1,by omega,by omega⟩
 unfold qJg at h;by_cases hh:Lib.hasPrefix l qWl=true
 ·rw[if_pos hh]at h;by_cases he:l.drop 2=[]
  ·rw[if_pos he]at h;cases h
  ·rw[if_neg he]at h;exact key 16 _ (.inr rfl) h he (by rw[List.length_drop];omega)
 ·rw[if_neg hh]at h;by_cases he:l=[]
  ·rw[if_pos he]at h;cases h
  ·rw[if_neg he]at h;exact key 10 _ (.inl rfl) h he (Nat.le_refl _)
theorem tok_ok{l:List UInt8}(ln c:Int)(h:wK l=0)(hl:l.length<=65536):qWC (qJX l ln c):=by
 have hp:=qQW h;have hle:=wG l;have hlen:(l.take (zZ l)).length=zZ l:=by rw[List.length_take];omega
 refine⟨fun hk=>?_,fun hk=>?_,?_,fun _=>?_⟩
 ·show qQ0 0 (l.take (zZ l))=true
  cases l with
  | nil=>rfl
  | cons b r =>
   have hk':vA (b :: r)=0:=hk;have hb:qZx (b.toNat:Int)=true:=by
    cases hb:qZx (b.toNat:Int)with
    | true=>rfl
    | false =>
     rw[vA,hb]at hk';by_cases hd:qQa (b.toNat:Int) < 10 <;> simp[hd]at hk'
   rw[zZ,if_pos hb,xQ,if_pos (by unfold qQZ;rw[hb];rfl),List.take_succ_cons,qQ0,hb,qUu 1 r (by omega)];rfl
 ·have hk':vA l=1:=hk;unfold wK at h;rw[if_neg (by omega),if_pos hk']at h;cases hn:qJg (l.take (zZ l))with
  | none=>rw[hn]at h;simp at h
  | some v =>
   have e:(qJX l ln c).num=v:=by show(if vA l=1 then(qJg (l.take (zZ l))).getD 0 else 0)=v;rw[if_pos hk',hn];rfl
   rw[e];exact numL_ok hn
 ·show(l.take (zZ l)).length<=65536
  omega
 ·show l.take (zZ l)≠[]
  intro e;rw[e]at hlen;simp at hlen;omega
theorem lex_toks(n:Nat)(l:List UInt8)(ln c:Int)(ts:List Tok)(hn:l.length<=n)(hs:l.length<=65536)(h:qQD l ln c=.ok ts):(∀ t∈ts,qWC t)/\ch ts<=l.length:=by
 have hend:∀ (ln c:Int) (t:Tok),t∈[(⟨3,[],0,ln,c⟩:Tok)]->qWC t:=fun ln c t ht=>by
  obtain rfl:t=⟨3,[],0,ln,c⟩:=by simpa using ht
  exact⟨fun h=>absurd (show(3:Int)=0 from h) (by decide),fun h=>absurd (show(3:Int)=1 from h) (by decide),by simp,fun h=>absurd rfl h⟩
 induction n generalizing l ln c ts with
 | zero =>
  obtain rfl:l=[]:=List.length_eq_zero_iff.mp (by omega);have e:qQD [] ln c=.ok [⟨3,[],0,ln,c⟩]:=rfl;rw[e]at h;cases h;exact⟨hend _ _,by simp[ch]⟩
 | succ n ih =>
  rw[qJe]at h;have hls:(vO l ln c).1.length<=l.length:=qZT l.length l ln c;generalize vO l ln c=s at *;by_cases h1:s.1=[]
  ·rw[if_pos h1]at h;cases h;exact⟨hend _ _,by simp[ch]⟩
  ·rw[if_neg h1]at h;by_cases he:wK s.1=0
   ·rw[if_pos he]at h;have hp:=qQW he;have hle:=wG s.1;cases hr:qQD (s.1.drop (zZ s.1)) (kU (s.1.take (zZ s.1)) s.2.1 s.2.2).1 (kU (s.1.take (zZ s.1)) s.2.1 s.2.2).2 with
    | bad a b c=>rw[hr]at h;cases h
    | ok ts' =>
     rw[hr]at h;cases h;have hd:(s.1.drop (zZ s.1)).length=s.1.length - zZ s.1:=List.length_drop;obtain⟨a1,a2⟩:=ih _ _ _ ts' (by omega) (by omega) hr;refine⟨fun t ht=>?_,?_⟩
     ·rcases List.mem_cons.1 ht with rfl | ht
      ·exact tok_ok _ _ he (by omega)
      ·exact a1 t ht
     ·have ht:(qJX s.1 s.2.1 s.2.2).text=s.1.take (zZ s.1):=rfl;rw[ch,ht,List.length_take];omega
   ·rw[if_neg he]at h;cases h
theorem qJB{void:Bool}{t:qQ}{ws:List (List UInt8)}(h:vY void t=some ws):∃ u r,t.kids=u :: r/\u.kind=zB/\u.num=0:=by
 unfold vY at h;split at h
 ·rename_i u r hk;obtain⟨h1,_⟩:=zN h;simp only[bE,beq_iff_eq]at h1;exact⟨u,r,hk,h1.1.1,h1.1.2.1⟩
 ·cases h
theorem qPV{t:qQ}{ws:List (List UInt8)}(h:qZ1 t=some ws):t.kids≠[]:=by
 obtain⟨_,h1⟩:=zN h;obtain⟨u,r,hk,_⟩:=qJB h1;rw[hk];simp
theorem lastT_cons(k x:List UInt8)(m ln co:Int)(u:qQ)(ps:List qQ)(b:qQ):yE (.mk k x m ln co (u :: (ps++[b])))=b:=by
 unfold yE;rw[show(qQ.mk k x m ln co (u :: (ps++[b]))).kids=(u :: ps)++[b]from rfl,List.getLastD_eq_getLast?,List.getLast?_concat];rfl
theorem qV3{n:Nat}{t:qQ}{ws:List (List UInt8)}(h:kA (qZB n) t=some ws)(hn:qZl t)(hl:ws.length<=900000):∃ u ps z,t.kids=u :: (ps++[z])/\(∀ a∈ps,a.text.length<=1000000/\a.kids≠[])/\qUz (yE t):=by
 obtain⟨k,x,m,ln,co,ks⟩:=t;have hN:=qQx hn;rcases ks with _ | ⟨u,_ | ⟨v,r⟩⟩
 ·simp[kA,qQ.kids]at h
 ·simp[kA,qQ.kids]at h
 ·have he:v :: r=(v :: r).dropLast++[(v :: r).getLast (List.cons_ne_nil v r)]:=(List.dropLast_concat_getLast _).symm;generalize (v :: r).dropLast=ps at he;generalize (v :: r).getLast (List.cons_ne_nil v r)=b at he;rw[he]at h hN ⊢;rw[fn_mk]at h;obtain⟨_,h1⟩:=zN h;obtain⟨_,y1,_,h2,rfl⟩:=qK h1;obtain⟨_,y2,_,h3,rfl⟩:=qK h2;obtain⟨y3,y4,h4,h5,rfl⟩:=qK h3;obtain⟨_,y5,_,h6,rfl⟩:=qK h5;simp only[lL]at hl;have hNe:=hN.2.2.2.2.2.mem;refine⟨u,ps,b,rfl,fun a ha=>?_,?_⟩
  ·obtain⟨w,hw⟩:=qKC h4 a ha;have hNa:=hNe a (by simp[ha]);refine⟨?_,qPV hw⟩;obtain⟨ak,ax,am,al,ac,aks⟩:=a;exact(qQx hNa).2.1
  ·rw[lastT_cons];exact qYd n b y5 h6 (by omega) (hNe b (by simp))
theorem global_of{t:qQ}{ws:List (List UInt8)}(h:qXa t=some ws)(hn:qZl t):(∃ u r,t.kids=u :: r)/\(((yE t).kind == zD)=false->(yE t).num=0)/\0<=(yE t).num/\(yE t).num < 18446744073709551616:=by
 obtain⟨k,x,m,ln,co,ks⟩:=t;have hN:=qQx hn;have hNe:=hN.2.2.2.2.2.mem;have hb:∀ u∈ks,0<=u.num/\u.num < 18446744073709551616:=fun u hu=>by
  have:=hNe u hu;obtain⟨uk,ux,um,ul,uc,uks⟩:=u;have:=qQx this;exact⟨this.2.2.1,this.2.2.2.1⟩
 rw[qKF]at h;obtain⟨_,h1⟩:=zN h;rcases ks with _ | ⟨u,_ | ⟨m',_ | ⟨z,r⟩⟩⟩
 ·cases h1
 ·obtain⟨y,_,h2,_⟩:=qK h1;obtain⟨u',r,hk',_,h3⟩:=qJB h2;simp only[qQ.kids,List.cons.injEq]at hk';obtain⟨rfl,rfl⟩:=hk';exact⟨⟨u,[],rfl⟩,fun _=>h3,hb u (by simp)⟩
 ·obtain⟨y,_,h2,_⟩:=qK h1;obtain⟨_,y2,_,h3,_⟩:=qK h2;obtain⟨_,y3,_,h4,_⟩:=qK h3;obtain⟨y4,_,h5,_⟩:=qK h4;obtain⟨h6,_⟩:=zN h5;simp only[bE]at h6;refine⟨⟨u,[m'],rfl⟩,fun e=>?_,hb m' (by simp)⟩;rw[show yE (.mk k x m ln co [u,m'])=m' from rfl,h6.1]at e;cases e
 ·cases h1
theorem pg_of{n:Nat}{t:qQ}{ws:List (List UInt8)}(h:qQO n t=some ws)(hn:qZl t)(hl:ws.length<=900000):PgOk t:=by
 obtain⟨k,x,m,ln,co,ks⟩:=t;have hN:=qQx hn;have hNe:=hN.2.2.2.2.2.mem;rw[qV9]at h;obtain⟨_,h1⟩:=zN h;have hk:∀ a∈ks,a.text.length<=1000000/\a.kids.length<=1000000:=fun a ha=>by
  have:=hNe a ha;obtain⟨ak,ax,am,al,ac,aks⟩:=a;have:=qQx this;exact⟨this.2.1,this.2.2.2.2.1⟩
 refine⟨hN.2.2.2.2.1,fun a ha=>?_,fun a ha hf=>?_⟩
 ·obtain⟨w,hw,hwl⟩:=qJM h1 a ha;refine⟨(hk a ha).1,(hk a ha).2,fun hf=>?_,fun hf=>?_⟩
  ·rw[hf]at hw;obtain⟨u,ps,z,e1,e2,_⟩:=qV3 hw (hNe a ha) (by omega);exact⟨u,ps,z,e1,e2⟩
  ·rw[hf]at hw;exact global_of hw (hNe a ha)
 ·obtain⟨w,hw,hwl⟩:=qJM h1 a ha;rw[hf]at hw;obtain⟨u,ps,z,e1,_,e3⟩:=qV3 hw (hNe a ha) (by omega);exact⟨by rw[e1];simp,(hk a ha).2,e3⟩
end Go.Proofs.YtiajhekdhhhghaaGreatDoor
namespace Go.Proofs.YtiajhekdhhhghaaGreatDoor.NZ
open Go Go.RowKit
def zJ{α:Type}(S:α->α->Prop):PR α->PR α->Prop
 | .ok a l, .ok b l'=>S a b/\Al l l'
 | .bad _ _ c, .bad _ _ c'=>c=c'/\c≠0
 | .out, .out=>True
 | _,_=>False
section
variable {α β:Type} {S:α->α->Prop} {T:β->β->Prop}
theorem zJ.ok{a b:α}{l l':List Tok}(h:S a b)(h':Al l l'):zJ S (.ok a l) (.ok b l'):=⟨h,h'⟩
theorem zJ.bind{p p':PR α}{f f':α->List Tok->PR β}(h:zJ S p p')(hf:∀ a b l l',S a b->Al l l'->zJ T (f a l) (f' b l')):zJ T (p.bind f) (p'.bind f'):=by
 cases p with
 | ok a l =>
  cases p' with
  | ok b l'=>exact hf a b l l' h.1 h.2
  | bad _ _ _=>exact h.elim
  | out=>exact h.elim
 | bad x y c =>
  cases p' with
  | ok b l'=>exact h.elim
  | bad _ _ _=>exact h
  | out=>exact h.elim
 | out =>
  cases p' with
  | ok b l'=>exact h.elim
  | bad _ _ _=>exact h.elim
  | out=>trivial
theorem zJ.ite{b b':Bool}{p q p' q':PR α}(hb:b=b')(h1:zJ S p p')(h2:zJ S q q'):zJ S (if b=true then p else q) (if b'=true then p' else q'):=by
 subst hb;cases b
 ·exact h2
 ·exact h1
end
theorem qW6(code:Int)(l l':List Tok)(hc:code≠0:=by decide):zJ xN (qWQ code l) (qWQ code l'):=⟨rfl,hc⟩
theorem xS{may may':Bool}{l l':List Tok}(hm:may=may')(h:Al l l'):zJ qKy (jV may l) (jV may' l'):=by
 subst hm;unfold Al at h;cases l with
 | nil =>
  cases l' with
  | nil=>exact⟨rfl,by decide⟩
  | cons t r=>simp at h
 | cons t r =>
  cases l' with
  | nil=>simp at h
  | cons t' r' =>
   simp only[List.map_cons,List.cons.injEq]at h;cases may
   ·exact⟨rfl,by decide⟩
   ·exact⟨h.1,h.2⟩
def UnitE(_ _:Unit):Prop:=True
theorem Al.text{l l':List Tok}(h:Al l l')(x:List UInt8):((hdT l).text == x)=((hdT l').text == x):=by rw[h.hd.text]
theorem Al.kind{l l':List Tok}(h:Al l l')(x:Int):((hdT l).kind == x)=((hdT l').kind == x):=by rw[h.hd.kind]
theorem Al.name{l l':List Tok}(h:Al l l'):kR (hdT l)=kR (hdT l'):=by unfold kR;rw[h.hd.kind,h.hd.text]
theorem Al.type{l l':List Tok}(h:Al l l'):yG (hdT l).text=yG (hdT l').text:=by rw[h.hd.text]
theorem zQ:∀ (xs:List (List UInt8)) {l l':List Tok},Al l l'->zJ UnitE (jL xs l) (jL xs l')
 | [],_,_,h=>⟨trivial,h⟩
 | x :: xs,_,_,h=>(xS (h.text x) h).bind fun _ _ _ _ _ h'=>zQ xs h'
theorem vJ{d:Int}{p p':Int->List Tok->PR qQ}{l l':List Tok}(h:zJ xN (p (d+1) l) (p' (d+1) l')):zJ xN (xX d p l) (xX d p' l'):=by
 unfold xX;by_cases hd:d=60
 ·rw[if_pos hd,if_pos hd];exact qW6 _ _ _
 ·rw[if_neg hd,if_neg hd];exact h
theorem qZA{stop:Tok->Bool}{p p':List Tok->PR qQ}(hs:∀ {t t'},qKy t t'->stop t=stop t')(hp:∀ {l l'},Al l l'->zJ xN (p l) (p' l')):∀ (n:Nat) {acc acc':List qQ} {l l':List Tok},qYQ acc acc'->Al l l'->zJ qYQ (vI stop p n acc l) (vI stop p' n acc' l')
 | 0,_,_,_,_,_,_=>trivial
 | n+1,acc,acc',l,l',ha,h=>by
  rw[vI,vI];exact zJ.ite (hs h.hd) (zJ.ok ha h) ((hp h).bind fun _ _ _ _ ht h'=>qZA hs hp n (wA ha (jC ht)) h')
theorem qQc{kind:List UInt8}{void void':Bool}(hv:void=void'){l l':List Tok}(h:Al l l'):zJ xN (zG kind void l) (zG kind void' l') :=
 (xS (by rw[hv,h.type]) h).bind fun _ _ _ _ ht h1=>(xS h1.name h1).bind fun _ _ _ _ hu h2=>zJ.ok (zR rfl hu.text rfl (jC (zR rfl ht.text rfl yL))) h2
theorem qXv{l l':List Tok}(h:Al l l'):zJ xN (wQ l) (wQ l'):=(xS (h.kind 1) h).bind fun _ _ _ _ ht h1=>zJ.ok (zR rfl rfl ht.num yL) h1
theorem qXu{n:Nat}{p p':List Tok->PR qQ}(hp:∀ {l l'},Al l l'->zJ xN (p l) (p' l')){l l':List Tok}(h:Al l l'):zJ qYQ (xT n p l) (xT n p' l'):=by
 unfold xT;refine(zQ [[40]] h).bind fun _ _ l1 l1' _ h1=>?_
 refine zJ.ite (h1.text [41]) ((zQ [[41]] h1).bind fun _ _ _ _ _ h2=>zJ.ok yL h2) ?_;refine(hp h1).bind fun _ _ _ _ ht h2=>?_
 refine(qZA (fun ht=>by rw[ht.text]) (fun hl=>(zQ [[44]] hl).bind fun _ _ _ _ _ h3=>hp h3) n (jC ht) h2).bind fun _ _ _ _ hts h3=>?_
 exact(zQ [[41]] h3).bind fun _ _ _ _ _ h4=>zJ.ok hts h4
section
variable {rec:NT->Int->List Tok->PR qQ} {n:Nat}
def qZa(rec:NT->Int->List Tok->PR qQ):Prop:=∀ x d {l l':List Tok},Al l l'->zJ xN (rec x d l) (rec x d l')
theorem qXw(H:qZa rec)(d:Int){l l':List Tok}(h:Al l l'):zJ xN (xF rec d l) (xF rec d l'):=by
 unfold xF;refine(xS h.name h).bind fun _ _ _ _ ht h1=>?_
 refine zJ.ite (h1.text [91]) ((zQ [[91]] h1).bind fun _ _ _ _ _ h2=>(vJ (H (.binary 0) (d+1) h2)).bind fun _ _ _ _ he h3=>(zQ [[93]] h3).bind fun _ _ _ _ _ h4=>zJ.ok (zR rfl ht.text rfl (jC he)) h4) ?_;exact zJ.ok (zR rfl ht.text rfl yL) h1
theorem qVL(H:qZa rec)(d:Int){l l':List Tok}(h:Al l l'):zJ xN (yJ rec d l) (yJ rec d l'):=by
 unfold yJ;refine(xS (h.text [40]) h).bind fun _ _ _ _ ht h1=>?_
 refine zJ.ite h1.type ((xS rfl h1).bind fun _ _ _ _ hu h2=>(zQ [[41]] h2).bind fun _ _ _ _ _ h3=>(vJ (H .operand (d+1) h3)).bind fun _ _ _ _ he h4=>zJ.ok (zR rfl hu.text rfl (jC he)) h4) ?_;exact(vJ (H (.binary 0) (d+1) h1)).bind fun _ _ _ _ he h2=>(zQ [[41]] h2).bind fun _ _ _ _ _ h3=>zJ.ok he h3
theorem qJR(H:qZa rec)(d:Int){l l':List Tok}(h:Al l l'):zJ xN (jU rec d l) (jU rec d l'):=by
 unfold jU;refine zJ.ite (h.kind 1) (qXv h) ?_;refine zJ.ite (by rw[h.hd.text]) ((xS rfl h).bind fun _ _ _ _ hu h1=>zJ.ok (zR hu.text rfl rfl yL) h1) ?_;refine zJ.ite (by rw[h.hd.text]) ((xS rfl h).bind fun _ _ _ _ hu h1=>(vJ (H .operand (d+1) h1)).bind fun _ _ _ _ he h2=>zJ.ok (zR rfl hu.text rfl (jC he)) h2) ?_;exact zJ.ite (h.text [40]) (qVL H d h) (qXw H d h)
theorem qZR(H:qZa rec)(k d:Int):∀ (m:Nat) {left left':qQ} {l l':List Tok},xN left left'->Al l l'->zJ xN (kX rec k d m left l) (kX rec k d m left' l')
 | 0,_,_,_,_,_,_=>trivial
 | m+1,left,left',l,l',hl,h=>by
  rw[kX,kX,h.hd.text];by_cases hk:xL (hdT l').text < k
  ·rw[if_pos hk,if_pos hk];exact zJ.ok hl h
  ·rw[if_neg hk,if_neg hk];exact(xS rfl h).bind fun _ _ _ _ ht h1=>(H _ d h1).bind fun _ _ _ _ hr h2=>qZR H k d m (zR rfl ht.text rfl (qZi hl hr)) h2
theorem qKL(H:qZa rec)(k d:Int){l l':List Tok}(h:Al l l'):zJ xN (qQy rec n k d l) (qQy rec n k d l'):=by
 unfold qQy;exact(H .operand d h).bind fun _ _ _ _ he h1=>qZR H k d n he h1
theorem qZz(H:qZa rec)(d:Int){l l':List Tok}(h:Al l l'):zJ xN (qQh rec d l) (qQh rec d l'):=H (.binary 0) d h
theorem qJQ(H:qZa rec)(d:Int){l l':List Tok}(h:Al l l'):zJ xN (qQz rec n d l) (qQz rec n d l'):=by
 unfold qQz;exact(xS h.name h).bind fun _ _ _ _ ht h1=>(qXu (fun hl=>vJ (H (.binary 0) (d+1) hl)) h1).bind fun _ _ _ _ hts h2=>zJ.ok (zR rfl ht.text rfl hts) h2
theorem Al.call{l l':List Tok}(h:Al l l'):qQR l=qQR l':=by
 unfold Al at h;match l,l',h with
 | [],[],_=>rfl
 | [],_ :: _,h=>simp at h
 | _ :: _,[],h=>simp at h
 | [t],[t'],_=>rfl
 | [t],_ :: _ :: _,h=>simp at h
 | _ :: _ :: _,[t],h=>simp at h
 | t :: u :: r,t' :: u' :: r',h =>
  simp only[List.map_cons,List.cons.injEq]at h;have h1:qKy t t':=h.1;have h2:qKy u u':=h.2.1;show(kR t && u.text == [40])=(kR t' && u'.text == [40])
  unfold kR;rw[h1.kind,h1.text,h2.text]
theorem qKK(H:qZa rec)(d:Int){l l':List Tok}(h:Al l l'):zJ xN (jJ rec n d l) (jJ rec n d l'):=by
 unfold jJ;refine zJ.ite h.call ((qJQ H d h).bind fun _ _ _ _ ht h1=>(zQ [[59]] h1).bind fun _ _ _ _ _ h2=>zJ.ok ht h2) ?_;refine(qXw H d h).bind fun _ _ _ _ hx h1=>(zQ [[61]] h1).bind fun _ _ _ _ _ h2=>?_
 refine zJ.ite (h2.text qW) ((zQ [qW,[40],[41]] h2).bind fun _ _ _ _ _ h3=>(zQ [[59]] h3).bind fun _ _ _ _ _ h4=>zJ.ok (zR rfl rfl rfl (jC hx)) h4) ?_;refine zJ.ite h2.call ((qJQ H d h2).bind fun _ _ _ _ hy h3=>(zQ [[59]] h3).bind fun _ _ _ _ _ h4=>zJ.ok (zR rfl rfl rfl (qZi hx hy)) h4) ?_;exact(qZz H d h2).bind fun _ _ _ _ hy h3=>(zQ [[59]] h3).bind fun _ _ _ _ _ h4=>zJ.ok (zR rfl rfl rfl (qZi hx hy)) h4
theorem qVI(H:qZa rec)(d:Int){l l':List Tok}(h:Al l l'):zJ xN (kL rec d l) (kL rec d l'):=by
 unfold kL;exact(xS rfl h).bind fun _ _ _ _ ht h1=>(zQ [[40]] h1).bind fun _ _ _ _ _ h2=>(qZz H d h2).bind fun _ _ _ _ he h3=>(zQ [[41],[59]] h3).bind fun _ _ _ _ _ h4=>zJ.ok (zR ht.text rfl rfl (jC he)) h4
theorem qVJ(H:qZa rec)(d:Int){l l':List Tok}(h:Al l l'):zJ xN (yC rec d l) (yC rec d l'):=by
 unfold yC;refine(zQ [qV] h).bind fun _ _ _ _ _ h1=>?_
 refine zJ.ite (h1.text [59]) ((zQ [[59]] h1).bind fun _ _ _ _ _ h2=>zJ.ok (zR rfl rfl rfl yL) h2) ?_;exact(qZz H d h1).bind fun _ _ _ _ he h2=>(zQ [[59]] h2).bind fun _ _ _ _ _ h3=>zJ.ok (zR rfl rfl rfl (jC he)) h3
theorem qZS(H:qZa rec)(word:List UInt8)(d:Int){l l':List Tok}(h:Al l l'):zJ xN (jK rec word d l) (jK rec word d l'):=by
 unfold jK;exact(zQ [word,[40]] h).bind fun _ _ _ _ _ h1=>(qZz H d h1).bind fun _ _ _ _ he h2=>(zQ [[41]] h2).bind fun _ _ _ _ _ h3=>(vJ (H .block (d+1) h3)).bind fun _ _ _ _ hb h4=>zJ.ok (zR rfl rfl rfl (qZi he hb)) h4
theorem qKM(H:qZa rec)(d:Int){l l':List Tok}(h:Al l l'):zJ xN (vF rec d l) (vF rec d l'):=by
 unfold vF;refine(qZS H kIf d h).bind fun t t' _ _ ht h1=>?_
 refine zJ.ite (h1.text zS) ((zQ [zS] h1).bind fun _ _ _ _ _ h2=>(vJ (H .block (d+1) h2)).bind fun _ _ _ _ hb h3=>zJ.ok ?_ h3) (zJ.ok ht h1);obtain⟨e1,e2,e3,e4⟩:=jN ht;exact zR e1 e2 e3 (wA e4 (jC hb))
theorem qVK{l l':List Tok}(h:Al l l'):zJ xN (qQM l) (qQM l'):=(qQc rfl h).bind fun _ _ _ _ ht h1=>(zQ [[59]] h1).bind fun _ _ _ _ _ h2=>zJ.ok ht h2
theorem qW8(H:qZa rec)(d:Int){l l':List Tok}(h:Al l l'):zJ xN (qQA rec n d l) (qQA rec n d l'):=by
 unfold qQA;refine zJ.ite (h.text kIf) (qKM H d h) ?_;refine zJ.ite (h.text qA) (qZS H qA d h) ?_;refine zJ.ite (h.text qV) (qVJ H d h) ?_;refine zJ.ite (by rw[h.hd.text]) (qVI H d h) ?_;exact zJ.ite h.type (qVK h) (qKK H d h)
theorem qVH(H:qZa rec)(d:Int){l l':List Tok}(h:Al l l'):zJ xN (qQK rec n d l) (qQK rec n d l'):=by
 unfold qQK;refine(zQ [[123]] h).bind fun _ _ _ _ _ h1=>?_
 exact(qZA (fun ht=>by rw[ht.text]) (fun hl=>qW8 H d hl) n yL h1).bind fun _ _ _ _ hts h2=>(zQ [[125]] h2).bind fun _ _ _ _ _ h3=>zJ.ok (zR rfl rfl rfl hts) h3
end
theorem qXb:∀ n,qZa (qQd n)
 | 0=>fun _ _ _ _ _=>trivial
 | n+1=>fun x d l l' h=>by
  cases x with
  | block=>exact qVH (qXb n) d h
  | binary k=>exact qKL (qXb n) k d h
  | operand=>exact qJR (qXb n) d h
theorem qW7(n:Nat){l l':List Tok}(h:Al l l'):zJ xN (qZe n l) (qZe n l'):=by
 unfold qZe;refine(qQc (h.text zA) h).bind fun t t' l1 l1' ht h1=>?_
 obtain⟨e1,e2,e3,e4⟩:=jN ht;refine zJ.ite (by rw[h.hd.text,h1.hd.text]) ((qXu (fun hl=>qQc rfl hl) h1).bind fun _ _ _ _ hps h2=>(vJ (qXb n .block (0+1) h2)).bind fun _ _ _ _ hb h3=>zJ.ok (zR rfl e2 e3 (wA (wA e4 hps) (jC hb))) h3) ?_;refine zJ.ite (h1.text [91]) ((zQ [[91]] h1).bind fun _ _ _ _ _ h2=>(qXv h2).bind fun _ _ _ _ hm h3=>(zQ [[93]] h3).bind fun _ _ _ _ _ h4=>(zQ [[59]] h4).bind fun _ _ _ _ _ h5=>zJ.ok (zR e1 e2 e3 (wA e4 (jC hm))) h5) ?_;exact(zQ [[59]] h1).bind fun _ _ _ _ _ h2=>zJ.ok ht h2
theorem rel_program(n:Nat){l l':List Tok}(h:Al l l'):zJ xN (xW n l) (xW n l'):=by
 unfold xW;exact(qZA (fun ht=>by rw[ht.kind]) (fun hl=>qW7 n hl) n yL h).bind fun _ _ _ _ hts h1=>zJ.ok (zR rfl rfl rfl hts) h1
end Go.Proofs.YtiajhekdhhhghaaGreatDoor.NZ
namespace Go.Proofs.YtiajhekdhhhghaaGreatDoor
open Tryz Go.Proofs.Tryz
open Go Go.RowKit
def qQ9(p:CR PrD)(w:World)(e:Ending)(w':World):Prop :=
 match p with
 | .ok r=>∃ v,e=.returned (.tuple #[v, .int .i64 0, .int .i64 0, .int .i64 0])/\qZ2 w.1.size r v w'/\Below w.1.size w w'
 | .bad ln co code=>e=.returned (.tuple #[qZX, .int .i64 ln, .int .i64 co, .int .i64 code])/\Below w.1.size w w'
theorem qQ9.okI{p:CR PrD}{r:PrD}{w w':World}{v:Value}(hp:p=.ok r)(h:qZ2 w.1.size r v w')(hb:Below w.1.size w w'):qQ9 p w (.returned (.tuple #[v, .int .i64 0, .int .i64 0, .int .i64 0])) w':=by
 rw[hp];exact⟨v,rfl,h,hb⟩
theorem qQ9.badI{p:CR PrD}{w w':World}{ln co code:Int}(hp:p=.bad ln co code)(hb:Below w.1.size w w'):qQ9 p w (.returned (.tuple #[qZX, .int .i64 ln, .int .i64 co, .int .i64 code])) w':=by
 rw[hp];exact⟨rfl,hb⟩
theorem qQ9.cases{p:CR PrD}{w w':World}{e:Ending}(h:qQ9 p w e w') :
 (∃ r v,p=.ok r/\e=.returned (.tuple #[v, .int .i64 0, .int .i64 0, .int .i64 0])/\qZ2 w.1.size r v w'/\Below w.1.size w w')\/∃ ln co code,p=.bad ln co code/\e=.returned (.tuple #[qZX, .int .i64 ln, .int .i64 co, .int .i64 code])/\Below w.1.size w w':=by
 cases p with
 | ok r=>obtain⟨v,h1,h2,h3⟩:=h;exact .inl ⟨r,v,rfl,h1,h2,h3⟩
 | bad ln co code=>exact .inr ⟨ln,co,code,rfl,h.1,h.2⟩
theorem qZZ.cases{p:CR PrD}{w w':World}{e:Ending}(h:qZZ p w e w') :
 (∃ r v,p=.ok r/\e=.returned (.tuple #[v, .agg #[.int .i64 0, .int .i64 0, .int .i64 0]])/\qZ2 w.1.size r v w'/\Below w.1.size w w')\/∃ ln co code,p=.bad ln co code/\e=.returned (.tuple #[qZX, .agg #[.int .i64 ln, .int .i64 co, .int .i64 code]])/\Below w.1.size w w':=by
 cases p with
 | ok r=>obtain⟨v,h1,h2,h3⟩:=h;exact .inl ⟨r,v,rfl,h1,h2,h3⟩
 | bad ln co code=>exact .inr ⟨ln,co,code,rfl,h.1,h.2⟩
theorem qZ2.shape{lo:Nat}{p:PrD}{v:Value}{w:World}(h:qZ2 lo p v w):∃ gq gc fq fc,v=.agg #[.slice gq p.globals.length gc, .slice fq p.funcs.length fc, .int .i64 p.main]:=by
 obtain⟨fs,bs,gv,fv,rfl,h1,h2,h3,h4,h5,_⟩:=h;have hfl:p.funcs.length=fs.length:=by rw[h4,qVf fs bs (by omega),h5]
 have e1:∃ q c,gv=.slice q p.globals.length c:=by
  rcases h1.2 with⟨rfl,h0⟩ | ⟨g,cap,cur,rfl,_⟩
  ·exact⟨none,0,by rw[h0]⟩
  ·exact⟨_,_,rfl⟩
 have e2:∃ q c,fv=.slice q p.funcs.length c:=by
  rw[hfl];rcases h2.2 with⟨rfl,h0⟩ | ⟨g,cap,cur,rfl,_⟩
  ·exact⟨none,0,by rw[h0]⟩
  ·exact⟨_,_,rfl⟩
 obtain⟨gq,gc,rfl⟩:=e1;obtain⟨fq,fc,rfl⟩:=e2;exact⟨gq,gc,fq,fc,rfl⟩
theorem qZ2.move{lo lo':Nat}{p:PrD}{v:Value}{w w':World}{P:Nat}(h:qZ2 lo p v w)(hk:jX w P 30)(hlo:P < lo/\lo'<=lo)(st:∀ k,k < w.1.size->k≠P->w'.1[k]? = w.1[k]?):qZ2 lo' p v w':=by
 have sK:∀ {b S},jX w b S->S≠30->w'.1[b]? = w.1[b]?:=fun k h1=>st _ k.lt (k.ne hk h1)
 obtain⟨fs,bs,gv,fv,e,h1,h2,h3,h4,h5,h6,h7⟩:=h;exact⟨fs,bs,gv,fv,e,zU h1 (fun g hg=>sK (zE h1 hg) (by decide)),zU h2 (fun g hg=>sK (zE h2 hg) (by decide)),fun f hf=>zU (h3 f hf) (fun g hg=>sK (zE (h3 f hf) hg) (by decide)),h4,h5,fun j hj=>jE.move (h6 j hj) (fun g hg hok=>⟨⟨by omega,hok.2⟩,st g hg (by omega)⟩),h7⟩
theorem qLY(n:Nat)(t:qQ)(v:Value)(w:World)(ws:List (List UInt8))(hc:qYA w)(h4:qWB w)(hl:xZ w (· < w.1.size) t v)(hN:qZl t)(he:qQO n t=some ws)(hlen:ws.length<=900000)(hsl:(qUv ws).length<=140737488355328) :
 Calls prog 22 #[qZ t v] w (qQ9 (qZb t) w):=by
 obtain⟨q0,vc,rfl,_,_⟩:=hl.shape;have ho:PgOk t:=pg_of he hN hlen;have ha:=bal (Below.refl w.1.size w) (qB t (.slice q0 t.kids.length vc));have hp:=qKx.new (w.alloc (qB t (.slice q0 t.kids.length vc)));have hkd:=jX.new (w.alloc (qB t (.slice q0 t.kids.length vc))) #[.slice none 0 0, .slice none 0 0, .int .i64 0] 30;have hb:=ha.trans ((bal (Below.refl _ (w.alloc (qB t (.slice q0 t.kids.length vc)))) (.cells #[.slice none 0 0, .slice none 0 0, .int .i64 0] 30)).mono ha.size);have hn:=(Hn.new t (.slice q0 t.kids.length vc) w).below (bal (Below.refl _ (w.alloc (qB t (.slice q0 t.kids.length vc)))) (.cells #[.slice none 0 0, .slice none 0 0, .int .i64 0] 30));have hsh:=show_any n t (.slice q0 t.kids.length vc) _ ws (h4.below hb) (xZ.move (fun g hg hok=>⟨Nat.lt_of_lt_of_le hg hb.size,hb.block g hg⟩) t _ hl) hN he (by omega) hsl;have HSH:=hI hsh;have HB:=hI hb;have HN:=hI hn;have HP:=hI hp;have HK:=hI hkd;have HC:=hI (fun(W:World) (h:Below w.1.size w W)=>qUH t (.slice q0 t.kids.length vc) W (hc.below h) (xZ.move (fun g hg hok=>⟨Nat.lt_of_lt_of_le hg h.size,h.block g hg⟩) t _ hl) ho);clear hc h4 hl hN he ho ha hb hn hsh hp hlen hsl hkd;generalize qZb t=p at *;simp only[qS,qZ,qB]at *;go_enter func22,ntmps22
 go_wp2_with fail
 refine(HSH.o).mono ?_;rintro e w3 ⟨rfl,hb3⟩;have HB3:=hI (HB.o.trans (hb3.mono HB.o.size));have hs3:=hb3.size;have N3:=HN.o.below hb3;have P3:=hI (HP.o.turn (hb3.block _ (by simp)));have K3:=HK.o.turn (hb3.block _ (by simp));rw[World.size_alloc]at K3;have K3:=hI K3;obtain⟨c0,c1,c2,c3,c4,c5⟩:=N3.cells;have hl3:=N3.lt;have HC3:=hI (HC.o w3 HB3.o);clear hb3 HSH HC HB HN HP HK;have hs3':w.1.size+1 < w3.1.size:=by simp at hs3;omega
 go_wp2_with fail
 refine(HC3.o).mono ?_;intro e w4 hq;rcases hq.cases with⟨r,v,rfl,rfl,hr,hb4⟩ | ⟨ln,co,code,rfl,rfl,hb4⟩
 ·obtain⟨gq,gc,fq,fc,rfl⟩:=hr.shape;have HR:=hI hr;have HB4:=hI (HB3.o.trans (hb4.mono HB3.o.size));have K4:=hI (K3.o.turn (hb4.block _ hs3'));have P4:=P3.o.turn (hb4.block _ (qJ P3.o.c0));rw[World.size_alloc]at P4;have⟨r0,r1,r2,_⟩:=P4.a;have⟨g0,g1,g2,_⟩:=P4.b;have hlt:=qJ r0;clear hq hr hb4 P4 HC3 P3;simp only at hlt;have hA:=(bal (Below.refl w4.1.size w4) (.cells #[.slice gq r.globals.length gc, .slice fq r.funcs.length fc, .int .i64 r.main] 30)).trans ((bal (Below.refl _ (w4.alloc (.cells #[.slice gq r.globals.length gc, .slice fq r.funcs.length fc, .int .i64 r.main] 30))) (.cells #[.int .i64 0, .int .i64 0, .int .i64 0] 97)).mono (by simp));have z0:=(hA.cell (p:=⟨w.1.size+1,0,none⟩) hlt).trans r0;have z1:=(hA.cell (p:=⟨w.1.size+1,1,none⟩) hlt).trans r1;have z2:=(hA.cell (p:=⟨w.1.size+1,2,none⟩) hlt).trans r2;have f0:=(hA.frozen (p:=⟨w.1.size+1,0,none⟩) hlt).trans g0;have f1:=(hA.frozen (p:=⟨w.1.size+1,1,none⟩) hlt).trans g1;have f2:=(hA.frozen (p:=⟨w.1.size+1,2,none⟩) hlt).trans g2;have HA:=hI hA;have hne:¬w.1.size+1=w4.1.size:=by omega
  have hne2:¬w.1.size=w4.1.size:=by omega
  have hne3:¬w4.1.size=w.1.size+1:=by omega
  clear hA;go_wp2
  go_region
  go_wp2
  refine bodyPost_ret (v:=.tuple #[.agg #[.slice gq r.globals.length gc, .slice fq r.funcs.length fc, .int .i64 r.main], .int .i64 0, .int .i64 0, .int .i64 0]) (by simp[results,results22,go_sem, *]) rfl ?_;refine qQ9.okI rfl (HR.o.move K4.o ⟨hs3',by omega⟩ fun k hk hne4=>?_) (jR (jR (jR (HB4.o.trans (HA.o.mono HB4.o.size)) (by omega) _) (by omega) _) (by omega) _).drew;show(World.setCell _ _ _).1[k]? = _
  rw[hS _ _ _ _ hne4,hS _ _ _ _ hne4,hS _ _ _ _ hne4];exact HA.o.block k hk
 ·have HB4:=hI (HB3.o.trans (hb4.mono HB3.o.size));have P4:=P3.o.turn (hb4.block _ (qJ P3.o.c0));rw[World.size_alloc]at P4;have⟨r0,r1,r2,_⟩:=P4.a;have⟨g0,g1,g2,_⟩:=P4.b;have hlt:=qJ r0;clear hq hb4 P4 HC3 P3;simp only at hlt;unfold qZX;have hA:=(bal (Below.refl w4.1.size w4) (.cells #[.slice none 0 0, .slice none 0 0, .int .i64 0] 30)).trans ((bal (Below.refl _ (w4.alloc (.cells #[.slice none 0 0, .slice none 0 0, .int .i64 0] 30))) (.cells #[.int .i64 ln, .int .i64 co, .int .i64 code] 97)).mono (by simp));have z0:=(hA.cell (p:=⟨w.1.size+1,0,none⟩) hlt).trans r0;have z1:=(hA.cell (p:=⟨w.1.size+1,1,none⟩) hlt).trans r1;have z2:=(hA.cell (p:=⟨w.1.size+1,2,none⟩) hlt).trans r2;have f0:=(hA.frozen (p:=⟨w.1.size+1,0,none⟩) hlt).trans g0;have f1:=(hA.frozen (p:=⟨w.1.size+1,1,none⟩) hlt).trans g1;have f2:=(hA.frozen (p:=⟨w.1.size+1,2,none⟩) hlt).trans g2;have HA:=hI hA;have hne:¬w.1.size+1=w4.1.size:=by omega
  have hne2:¬w.1.size=w4.1.size:=by omega
  have hne3:¬w4.1.size=w.1.size+1:=by omega
  clear hA;go_wp2
  go_region
  go_wp2
  refine bodyPost_ret (v:=.tuple #[.agg #[.slice none 0 0, .slice none 0 0, .int .i64 0], .int .i64 ln, .int .i64 co, .int .i64 code]) (by simp[results,results22,go_sem, *]) rfl ?_;exact qQ9.badI rfl (jR (jR (jR (HB4.o.trans (HA.o.mono HB4.o.size)) (by omega) _) (by omega) _) (by omega) _).drew
def qXN(s:List UInt8):CR PrD :=
 match qZ4 s with
 | .ok t _=>qZb t
 | .bad a b c=>.bad a b c
 | .out=>.bad 0 0 0
theorem qMq{s:List UInt8}{t:qQ}{l:List Tok}(h:qZ4 s=.ok t l):qZl t/\∃ n ws,qQO n t=some ws/\ws.length<=458752/\(qUv ws).length<=458752:=by
 unfold qZ4 at h;split at h
 ·rename_i hs;unfold qJq at h;split at h
  ·cases h
  ·rename_i ts hx;obtain⟨ht1,ht2⟩:=lex_toks _ s 1 1 ts (Nat.le_refl _) hs hx;obtain⟨hN,hd,ws,hw,hwb,hwl⟩:=prog_words 200000 ts ⟨ht1,by omega⟩ t l h;have hsl:=show_len ws;have hwn:=qPM ws;exact⟨hN,_,ws,hw,by omega,by show(Lib.join ws [32]).length<=458752;omega⟩
 ·cases h
theorem qLq{s:List UInt8}{a b c:Int}(h:qZ4 s=.bad a b c):c≠0:=by
 unfold qZ4 at h;split at h
 ·rename_i hs;unfold qJq at h;split at h
  ·rename_i ln co code hx;injection h with e1 e2 e3;rcases qPN _ _ _ _ (Nat.le_refl _) hx with h | h <;> omega
  ·rename_i ts hx;have:=NZ.rel_program 200000 (l:=ts) (l':=ts) rfl;rw[h]at this;exact this.2
 ·injection h with e1 e2 e3;omega
theorem qKb(s:ByteArray)(w:World)(hc:qYA w)(h4:qWB w):Calls prog 9 #[.string s] w (qQ9 (qXN s.data.toList) w):=by
 have hp:=bal (Below.refl w.1.size w) (.cells #[.slice none 0 0, .slice none 0 0, .int .i64 0] 30);have HP:=hI (qKx.new w);have HK:=hI (jX.new w #[.slice none 0 0, .slice none 0 0, .int .i64 0] 30);have HB:=hI hp;have HR:=hI (read_all s _ (h4.below hp).1);have HC:=hI (fun(W:World) (h:Below w.1.size w W)=>hc.below h);have H4:=hI (fun(W:World) (h:Below w.1.size w W)=>h4.below h);have HO:=qVG s.data.toList;have hs0:(w.alloc (.cells #[.slice none 0 0, .slice none 0 0, .int .i64 0] 30)).1.size=w.1.size+1:=by simp
 clear hp hc h4;cases hr:qZ4 s.data.toList with
 | out=>exact absurd hr HO
 | bad a b c =>
  have hcode:=qLq hr;have hcb:(c != 0)=true:=by simpa using hcode
  have HRC:=hI (show qXN s.data.toList=.bad a b c by simp only[qXN,hr]);rw[hr]at HR;clear HO hr hcode HC H4;go_enter func9,ntmps9
  go_wp2_with fail
  refine(HR.o).mono ?_;rintro e w1 ⟨rfl,hb1⟩;have HB1:=hI (HB.o.trans (hb1.mono HB.o.size));have P1:=HP.o.turn (hb1.block _ (by omega));have⟨r0,r1,r2,_⟩:=P1.a;have⟨g0,g1,g2,_⟩:=P1.b;have hlt:=qJ r0;simp only at hlt;have hne:¬w.1.size=w1.1.size:=by omega
  have hne3:¬w1.1.size=w.1.size:=by omega
  clear hb1 P1 HP HR HB HK;unfold qXH;go_wp2
  refine bodyPost_ret (v:=.tuple #[.agg #[.slice none 0 0, .slice none 0 0, .int .i64 0], .int .i64 a, .int .i64 b, .int .i64 c]) (by simp[results,results9,go_sem, *]) rfl ?_;exact qQ9.badI HRC.o (bal (jR (jR (jR HB1.o (by omega) _) (by omega) _) (by omega) _) _)
 | ok t l =>
  obtain⟨hN,n,ws,hw,hwl,hsl⟩:=qMq hr;have HRC:=hI (show qXN s.data.toList=qZb t by simp only[qXN,hr]);rw[hr]at HR;have HCK:=hI (fun(v:Value) (W:World) (h:Below w.1.size w W) (hL:xZ W (· < W.1.size) t v)=>qLY n t v W ws (HC.o W h) (H4.o W h) hL hN hw (by omega) (by omega));clear HO hr hN hw hwl hsl HC H4;rw[HRC.o];generalize qZb t=p at *;go_enter func9,ntmps9
  go_wp2_with fail
  refine(HR.o).mono ?_;rintro e w1 ⟨v,rfl,hbd,hb1⟩;have hL:xZ w1 (· < w1.1.size) t v:=xZ.move (fun g hg _=>⟨hg,rfl⟩) t v hbd.lies;obtain⟨qa,ca,rfl,_,_⟩:=hL.shape;have ha:=bal (Below.refl w1.1.size w1) (.cells (qS t (.slice qa t.kids.length ca)).toArray 57);have hb2:=HB.o.trans ((hb1.trans (ha.mono hb1.size)).mono HB.o.size);have P1:=hI (HP.o.turn ((hb1.trans (ha.mono hb1.size)).block _ (by omega)));have K1:=hI (HK.o.turn ((hb1.trans (ha.mono hb1.size)).block _ (by omega)));have HC2:=hI (HCK.o (.slice qa t.kids.length ca) _ hb2 (xZ.move (fun g hg hok=>⟨Nat.lt_of_lt_of_le hg ha.size,ha.block g hg⟩) _ _ hL));have HB2:=hI hb2;have hs1:=hb1.size;have hs2:(w1.alloc (.cells (qS t (.slice qa t.kids.length ca)).toArray 57)).1.size=w1.1.size+1:=by simp
  clear hbd hb1 hL ha hb2 HP HK HR HCK HB;simp only[qS,qZ]at *;go_wp2_with fail
  refine(HC2.o).mono ?_;intro e w4 hq;rcases hq.cases with⟨r,v,rfl,rfl,hr,hb4⟩ | ⟨ln,co,code,rfl,rfl,hb4⟩
  ·have hlo:w.1.size < (w1.alloc (.cells #[.string ⟨t.kind.toArray⟩, .string ⟨t.text.toArray⟩, .int .u64 t.num, .int .i64 t.line, .int .i64 t.col, .slice qa t.kids.length ca] 57)).1.size:=by omega
   obtain⟨gq,gc,fq,fc,rfl⟩:=hr.shape;have HR:=hI hr;have HB4:=hI (HB2.o.trans (hb4.mono HB2.o.size));have K4:=hI (K1.o.turn (hb4.block _ hlo));have P4:=P1.o.turn (hb4.block _ hlo);have⟨r0,r1,r2,_⟩:=P4.a;have⟨g0,g1,g2,_⟩:=P4.b;have hlt:=qJ r0;clear hq hr hb4 P4 HC2 P1 K1;simp only at hlt;go_wp2
   refine bodyPost_ret (v:=.tuple #[.agg #[.slice gq r.globals.length gc, .slice fq r.funcs.length fc, .int .i64 r.main], .int .i64 0, .int .i64 0, .int .i64 0]) (by simp[results,results9,go_sem, *]) rfl ?_;refine qQ9.okI rfl (HR.o.move K4.o ⟨hlo,by omega⟩ fun k hk hne4=>?_) (jR (jR (jR HB4.o (by omega) _) (by omega) _) (by omega) _);rw[hS _ _ _ _ hne4,hS _ _ _ _ hne4,hS _ _ _ _ hne4]
  ·have hlo:w.1.size < (w1.alloc (.cells #[.string ⟨t.kind.toArray⟩, .string ⟨t.text.toArray⟩, .int .u64 t.num, .int .i64 t.line, .int .i64 t.col, .slice qa t.kids.length ca] 57)).1.size:=by omega
   have HB4:=hI (HB2.o.trans (hb4.mono HB2.o.size));have P4:=P1.o.turn (hb4.block _ hlo);have⟨r0,r1,r2,_⟩:=P4.a;have⟨g0,g1,g2,_⟩:=P4.b;have hlt:=qJ r0;clear hq hb4 P4 HC2 P1 K1;simp only at hlt;unfold qZX;go_wp2
   refine bodyPost_ret (v:=.tuple #[.agg #[.slice none 0 0, .slice none 0 0, .int .i64 0], .int .i64 ln, .int .i64 co, .int .i64 code]) (by simp[results,results9,go_sem, *]) rfl ?_;exact qQ9.badI rfl (jR (jR (jR HB4.o (by omega) _) (by omega) _) (by omega) _)
def qYz{α β:Type}(f:α->β->List Value):List α->List β->List Value
 | t :: ts,v :: vs=>f t v++qYz f ts vs
 | _,_=>[]
theorem zipR_at{α β:Type}{f:α->β->List Value}{n:Nat}(hf:∀ a b,(f a b).length=n):∀ (L:List α) (M:List β) (i k:Nat) (hi:i < L.length) (hj:i < M.length),k < n->(qYz f L M)[i * n+k]? = (f L[i] M[i])[k]?
 | t :: ts,v :: vs,0,k,_,_,hk=>by
  rw[qYz,Nat.zero_mul,Nat.zero_add,List.getElem?_append_left (by rw[hf];exact hk)];rfl
 | t :: ts,v :: vs,i+1,k,hi,hj,hk=>by
  rw[qYz,List.getElem?_append_right (by rw[hf,Nat.add_mul];omega)];have e:(i+1) * n+k - (f t v).length=i * n+k:=by rw[hf,Nat.add_mul];omega
  rw[e];exact zipR_at hf ts vs i k (by simpa using hi) (by simpa using hj) hk
 | [],_,i,_,hi,_,_=>by simp at hi
 | _ :: _,[],i,_,_,hj,_=>by simp at hj
theorem qP8:∀ (L:List Ex) (M:List Value),qVM L M=qYz exC L M
 | [],_=>by simp[qVM,qYz]
 | _ :: _,[]=>rfl
 | t :: ts,v :: vs=>by rw[qVM,qYz,qP8 ts vs]
theorem qP9:∀ (L:List Sx) (M:List qQg),qVN L M=qYz sxC L M
 | [],_=>by simp[qVN,qYz]
 | _ :: _,[]=>rfl
 | t :: ts,v :: vs=>by rw[qVN,qYz,qP9 ts vs]
theorem qLn{α β:Type}{f:α->β->List Value}{n:Nat}(hf:∀ a b,(f a b).length=n){w:World}{base T m:Nat}{v:Value}{L:List α}{M:List β}{g:Nat}(h:w.ownsRow base T n v m (qYz f L M))(hg:v.ownBlock=some g)
 {i k:Nat} (hi:i < L.length) (hj:i < M.length) (hk:k < n) {u:Value} (hu:(f L[i] M[i])[k]? = some u):w.cell? ⟨g,i * n+k,none⟩=some u:=by
 have:=h.cells hg (i * n+k) u (by rw[zipR_at hf L M i k hi hj hk];exact hu);rw[Lib.add_plain,Nat.zero_add]at this;exact this
theorem yN.at{w:World}{ok:Nat->Prop}:∀ {ts:List Ex} {vs:List Value},yN w ok ts vs->∀ i (h:i < ts.length) (h':i < vs.length),qQF w ok ts[i] vs[i]
 | _ :: _,_ :: _,hL,0,_,_=>hL.1
 | _ :: _,_ :: _,hL,i+1,h,h'=>yN.at hL.2 i (by simpa using h) (by simpa using h')
 | [],_,_,_,h,_=>by simp at h
 | _ :: _,[],hL,_,_,_=>hL.elim
theorem yZ.at{w:World}{ok:Nat->Prop}:∀ {ts:List Sx} {vs:List qQg},yZ w ok ts vs->∀ i (h:i < ts.length) (h':i < vs.length),wL w ok ts[i] vs[i]
 | _ :: _,_ :: _,hL,0,_,_=>hL.1
 | _ :: _,_ :: _,hL,i+1,h,h'=>yZ.at hL.2 i (by simpa using h) (by simpa using h')
 | [],_,_,_,h,_=>by simp at h
 | _ :: _,[],hL,_,_,_=>hL.elim
def Ex.op:Ex->List UInt8 | .mk op _ _ _ _ _ _ _=>op
def Ex.num:Ex->Int | .mk _ _ n _ _ _ _ _=>n
def Ex.var:Ex->Int | .mk _ _ _ v _ _ _ _=>v
def Ex.glob:Ex->Bool | .mk _ _ _ _ g _ _ _=>g
def Ex.line:Ex->Int | .mk _ _ _ _ _ l _ _=>l
def Ex.col:Ex->Int | .mk _ _ _ _ _ _ c _=>c
def Sx.op:Sx->List UInt8 | .mk op _ _ _ _ _ _ _=>op
def Sx.line:Sx->Int | .mk _ l _ _ _ _ _ _=>l
def Sx.col:Sx->Int | .mk _ _ c _ _ _ _ _=>c
def Sx.target:Sx->List Ex | .mk _ _ _ t _ _ _ _=>t
def Sx.exprs:Sx->List Ex | .mk _ _ _ _ e _ _ _=>e
def Sx.fn:Sx->Int | .mk _ _ _ _ _ f _ _=>f
def Sx.thn:Sx->List Sx | .mk _ _ _ _ _ _ t _=>t
def Sx.els:Sx->List Sx | .mk _ _ _ _ _ _ _ e=>e
structure CEx(g o:Nat)(e:Ex)(v:Value)(w:World):Prop where
 c0:w.cell? ⟨g,o,none⟩=some (.string ⟨e.op.toArray⟩)
 c1:w.cell? ⟨g,o+1,none⟩=some (.int .i64 e.ty.1)
 c2:w.cell? ⟨g,o+2,none⟩=some (.bool e.ty.2)
 c3:w.cell? ⟨g,o+3,none⟩=some (.int .u64 e.num)
 c4:w.cell? ⟨g,o+4,none⟩=some (.int .i64 e.var)
 c5:w.cell? ⟨g,o+5,none⟩=some (.bool e.glob)
 c6:w.cell? ⟨g,o+6,none⟩=some (.int .i64 e.line)
 c7:w.cell? ⟨g,o+7,none⟩=some (.int .i64 e.col)
 c8:w.cell? ⟨g,o+8,none⟩=some (v)
theorem CEx.a{g o:Nat}{e:Ex}{v:Value}{w:World}(h:CEx g o e v w):w.cell? ⟨g,o,none⟩=some (.string ⟨e.op.toArray⟩)/\w.cell? ⟨g,o+1,none⟩=some (.int .i64 e.ty.1)/\w.cell? ⟨g,o+2,none⟩=some (.bool e.ty.2)/\w.cell? ⟨g,o+3,none⟩=some (.int .u64 e.num)/\w.cell? ⟨g,o+4,none⟩=some (.int .i64 e.var)/\w.cell? ⟨g,o+5,none⟩=some (.bool e.glob)/\w.cell? ⟨g,o+6,none⟩=some (.int .i64 e.line)/\w.cell? ⟨g,o+7,none⟩=some (.int .i64 e.col)/\w.cell? ⟨g,o+8,none⟩=some (v)/\True:=⟨h.c0,h.c1,h.c2,h.c3,h.c4,h.c5,h.c6,h.c7,h.c8,trivial⟩
theorem CEx.move{g o:Nat}{e:Ex}{v:Value}{w w':World}(h:CEx g o e v w)(hg:w'.1[g]? = w.1[g]?):CEx g o e v w' :=
 ⟨(cB hg).trans h.c0,(cB hg).trans h.c1,(cB hg).trans h.c2,(cB hg).trans h.c3,(cB hg).trans h.c4,(cB hg).trans h.c5,(cB hg).trans h.c6,(cB hg).trans h.c7,(cB hg).trans h.c8⟩
structure CSx(g o:Nat)(e:Sx)(v:qQg)(w:World):Prop where
 c0:w.cell? ⟨g,o,none⟩=some (.string ⟨e.op.toArray⟩)
 c1:w.cell? ⟨g,o+1,none⟩=some (.int .i64 e.line)
 c2:w.cell? ⟨g,o+2,none⟩=some (.int .i64 e.col)
 c3:w.cell? ⟨g,o+3,none⟩=some (v.tv)
 c4:w.cell? ⟨g,o+4,none⟩=some (v.ev)
 c5:w.cell? ⟨g,o+5,none⟩=some (.int .i64 e.fn)
 c6:w.cell? ⟨g,o+6,none⟩=some (v.hv)
 c7:w.cell? ⟨g,o+7,none⟩=some (v.lv)
theorem CSx.a{g o:Nat}{e:Sx}{v:qQg}{w:World}(h:CSx g o e v w):w.cell? ⟨g,o,none⟩=some (.string ⟨e.op.toArray⟩)/\w.cell? ⟨g,o+1,none⟩=some (.int .i64 e.line)/\w.cell? ⟨g,o+2,none⟩=some (.int .i64 e.col)/\w.cell? ⟨g,o+3,none⟩=some (v.tv)/\w.cell? ⟨g,o+4,none⟩=some (v.ev)/\w.cell? ⟨g,o+5,none⟩=some (.int .i64 e.fn)/\w.cell? ⟨g,o+6,none⟩=some (v.hv)/\w.cell? ⟨g,o+7,none⟩=some (v.lv)/\True:=⟨h.c0,h.c1,h.c2,h.c3,h.c4,h.c5,h.c6,h.c7,trivial⟩
theorem CSx.move{g o:Nat}{e:Sx}{v:qQg}{w w':World}(h:CSx g o e v w)(hg:w'.1[g]? = w.1[g]?):CSx g o e v w' :=
 ⟨(cB hg).trans h.c0,(cB hg).trans h.c1,(cB hg).trans h.c2,(cB hg).trans h.c3,(cB hg).trans h.c4,(cB hg).trans h.c5,(cB hg).trans h.c6,(cB hg).trans h.c7⟩
structure FVals where
 vv:Value
 bv:Value
def fdV(f:qQ2)(x:FVals):Value:=.agg #[.string ⟨f.name.toArray⟩, .int .i64 f.t.1, .bool f.t.2, .int .i64 f.params,x.vv,x.bv]
structure CFn(g o:Nat)(e:qQ2)(v:FVals)(w:World):Prop where
 c0:w.cell? ⟨g,o,none⟩=some (.string ⟨e.name.toArray⟩)
 c1:w.cell? ⟨g,o+1,none⟩=some (.int .i64 e.t.1)
 c2:w.cell? ⟨g,o+2,none⟩=some (.bool e.t.2)
 c3:w.cell? ⟨g,o+3,none⟩=some (.int .i64 e.params)
 c4:w.cell? ⟨g,o+4,none⟩=some (v.vv)
 c5:w.cell? ⟨g,o+5,none⟩=some (v.bv)
theorem CFn.a{g o:Nat}{e:qQ2}{v:FVals}{w:World}(h:CFn g o e v w):w.cell? ⟨g,o,none⟩=some (.string ⟨e.name.toArray⟩)/\w.cell? ⟨g,o+1,none⟩=some (.int .i64 e.t.1)/\w.cell? ⟨g,o+2,none⟩=some (.bool e.t.2)/\w.cell? ⟨g,o+3,none⟩=some (.int .i64 e.params)/\w.cell? ⟨g,o+4,none⟩=some (v.vv)/\w.cell? ⟨g,o+5,none⟩=some (v.bv)/\True:=⟨h.c0,h.c1,h.c2,h.c3,h.c4,h.c5,trivial⟩
theorem CFn.move{g o:Nat}{e:qQ2}{v:FVals}{w w':World}(h:CFn g o e v w)(hg:w'.1[g]? = w.1[g]?):CFn g o e v w' :=
 ⟨(cB hg).trans h.c0,(cB hg).trans h.c1,(cB hg).trans h.c2,(cB hg).trans h.c3,(cB hg).trans h.c4,(cB hg).trans h.c5⟩
structure CVr(g o:Nat)(e:qI)(v:Unit)(w:World):Prop where
 c0:w.cell? ⟨g,o,none⟩=some (.string ⟨e.name.toArray⟩)
 c1:w.cell? ⟨g,o+1,none⟩=some (.int .i64 e.t.1)
 c2:w.cell? ⟨g,o+2,none⟩=some (.bool e.t.2)
 c3:w.cell? ⟨g,o+3,none⟩=some (.int .i64 e.size)
theorem CVr.a{g o:Nat}{e:qI}{v:Unit}{w:World}(h:CVr g o e v w):w.cell? ⟨g,o,none⟩=some (.string ⟨e.name.toArray⟩)/\w.cell? ⟨g,o+1,none⟩=some (.int .i64 e.t.1)/\w.cell? ⟨g,o+2,none⟩=some (.bool e.t.2)/\w.cell? ⟨g,o+3,none⟩=some (.int .i64 e.size)/\True:=⟨h.c0,h.c1,h.c2,h.c3,trivial⟩
theorem CVr.move{g o:Nat}{e:qI}{v:Unit}{w w':World}(h:CVr g o e v w)(hg:w'.1[g]? = w.1[g]?):CVr g o e v w' :=
 ⟨(cB hg).trans h.c0,(cB hg).trans h.c1,(cB hg).trans h.c2,(cB hg).trans h.c3⟩
def qWx(B:Nat)(w:World)(es:List Ex)(q:Option Addr):Prop:=es=[]\/∃ g,q=some ⟨g,0,none⟩/\g < B/\g < w.1.size/\∀ i (h:i < es.length),∃ v,qQF w (· < B) es[i] v/\CEx g (i * 9) es[i] v w
theorem qU.at{B:Nat}{w:World}{es:List Ex}{v:Value}(h:qU w (· < B) es v):∃ q c,v=.slice q es.length c/\es.length<=maxLen/\qWx B w es q:=by
 obtain⟨vs,h1,h2,h3⟩:=h;have hlen:=yN.length es vs h3;rw[qP8]at h2;rcases h2.2 with⟨rfl,h0⟩ | ⟨g,cap,cur,rfl,_,hg,h4,h5,_⟩
 ·exact⟨none,0,by rw[h0],by unfold maxLen;omega, .inl (List.length_eq_zero_iff.1 h0)⟩
 ·refine⟨_,cap,rfl,by omega, .inr ⟨g,rfl,h1 g rfl,(h2.lt g rfl).2,fun i hi=>?_⟩⟩;have hj:i < vs.length:=by omega
  have hl:=yN.at h3 i hi hj;have hat:=fun(k:Nat) (u:Value) (hk:k < 9) (hu:(exC es[i] vs[i])[k]? = some u)=>qLn exC_len h2 (g:=g) rfl hi hj hk hu
  refine⟨vs[i],hl,?_⟩;generalize es[i]=e at *;obtain⟨op,t,n,va,gl,l,c,ks⟩:=e;exact⟨hat 0 _ (by omega) rfl,hat 1 _ (by omega) rfl,hat 2 _ (by omega) rfl,hat 3 _ (by omega) rfl,hat 4 _ (by omega) rfl,hat 5 _ (by omega) rfl,hat 6 _ (by omega) rfl,hat 7 _ (by omega) rfl,hat 8 _ (by omega) rfl⟩
theorem qQF.keep{B:Nat}{w w':World}{e:Ex}{v:Value}(h:qQF w (· < B) e v)(hb:Below B w w'):qQF w' (· < B) e v:=qQF.move (fun g _ hg=>⟨hg,hb.block g hg⟩) e v h
theorem qWx.keep{B:Nat}{w w':World}{es:List Ex}{q:Option Addr}(h:qWx B w es q)(hb:Below B w w'):qWx B w' es q:=by
 rcases h with h | ⟨g,h1,h2,h3,h4⟩
 ·exact .inl h
 ·exact .inr ⟨g,h1,h2,Nat.lt_of_lt_of_le h3 hb.size,fun i hi=>by obtain⟨v,a,b⟩:=h4 i hi;exact⟨v,a.keep hb,b.move (hb.block g h2)⟩⟩
theorem qQF.at{B:Nat}{w:World}{e:Ex}{v:Value}(h:qQF w (· < B) e v):∃ q c,v=.slice q e.kids.length c/\e.kids.length<=maxLen/\qWx B w e.kids q:=((qVr e v).1 h).at
def qVt(B:Nat)(w:World)(ss:List Sx)(q:Option Addr):Prop:=ss=[]\/∃ g,q=some ⟨g,0,none⟩/\g < B/\g < w.1.size/\∀ i (h:i < ss.length),∃ v,wL w (· < B) ss[i] v/\CSx g (i * 8) ss[i] v w
theorem jE.at{B:Nat}{w:World}{ss:List Sx}{v:Value}(h:jE w (· < B) ss v):∃ q c,v=.slice q ss.length c/\ss.length<=maxLen/\qVt B w ss q:=by
 obtain⟨vs,h1,h2,h3⟩:=h;have hlen:=yZ.length ss vs h3;rw[qP9]at h2;rcases h2.2 with⟨rfl,h0⟩ | ⟨g,cap,cur,rfl,_,hg,h4,h5,_⟩
 ·exact⟨none,0,by rw[h0],by unfold maxLen;omega, .inl (List.length_eq_zero_iff.1 h0)⟩
 ·refine⟨_,cap,rfl,by omega, .inr ⟨g,rfl,h1 g rfl,(h2.lt g rfl).2,fun i hi=>?_⟩⟩;have hj:i < vs.length:=by omega
  have hl:=yZ.at h3 i hi hj;have hat:=fun(k:Nat) (u:Value) (hk:k < 8) (hu:(sxC ss[i] vs[i])[k]? = some u)=>qLn sxC_len h2 (g:=g) rfl hi hj hk hu
  refine⟨vs[i],hl,?_⟩;generalize ss[i]=e at *;obtain⟨op,l,c,tg,es,fn,th,el⟩:=e;exact⟨hat 0 _ (by omega) rfl,hat 1 _ (by omega) rfl,hat 2 _ (by omega) rfl,hat 3 _ (by omega) rfl,hat 4 _ (by omega) rfl,hat 5 _ (by omega) rfl,hat 6 _ (by omega) rfl,hat 7 _ (by omega) rfl⟩
theorem wL.keep{B:Nat}{w w':World}{e:Sx}{v:qQg}(h:wL w (· < B) e v)(hb:Below B w w'):wL w' (· < B) e v:=wL.move (fun g _ hg=>⟨hg,hb.block g hg⟩) e v h
theorem qVt.keep{B:Nat}{w w':World}{ss:List Sx}{q:Option Addr}(h:qVt B w ss q)(hb:Below B w w'):qVt B w' ss q:=by
 rcases h with h | ⟨g,h1,h2,h3,h4⟩
 ·exact .inl h
 ·exact .inr ⟨g,h1,h2,Nat.lt_of_lt_of_le h3 hb.size,fun i hi=>by obtain⟨v,a,b⟩:=h4 i hi;exact⟨v,a.keep hb,b.move (hb.block g h2)⟩⟩
theorem wL.at{B:Nat}{w:World}{e:Sx}{v:qQg}(h:wL w (· < B) e v):∃ q1 c1 q2 c2 q3 c3 q4 c4,v=⟨.slice q1 e.target.length c1, .slice q2 e.exprs.length c2, .slice q3 e.thn.length c3, .slice q4 e.els.length c4⟩ /\
 qWx B w e.target q1/\qWx B w e.exprs q2/\qVt B w e.thn q3/\qVt B w e.els q4/\e.target.length<=maxLen/\e.exprs.length<=maxLen/\e.thn.length<=maxLen/\e.els.length<=maxLen:=by
 obtain⟨op,l,c,tg,es,fn,th,el⟩:=e;obtain⟨h1,h2,h3,h4⟩:=h;obtain⟨q1,c1,e1,l1,a1⟩:=h1.at
 obtain⟨q2,c2,e2,l2,a2⟩:=h2.at
 obtain⟨q3,c3,e3,l3,a3⟩:=jE.at (ss:=th) h3;obtain⟨q4,c4,e4,l4,a4⟩:=jE.at (ss:=el) h4;obtain⟨tv,ev,hv,lv⟩:=v;simp only at e1 e2 e3 e4;subst e1 e2 e3 e4;exact⟨q1,c1,q2,c2,q3,c3,q4,c4,rfl,a1,a2,a3,a4,l1,l2,l3,l4⟩
def qYC(B:Nat)(w:World)(vs:List qI)(q:Option Addr):Prop:=vs=[]\/∃ g,q=some ⟨g,0,none⟩/\g < B/\g < w.1.size/\∀ i (h:i < vs.length),CVr g (i * 4) vs[i] () w
theorem qQI.at{B:Nat}{w:World}{vs:List qI}{v:Value}(h:qQI w 0 vs v)(hB:w.1.size<=B):∃ q c,v=.slice q vs.length c/\vs.length<=maxLen/\qYC B w vs q:=by
 have h2:w.ownsRow 0 42 4 v vs.length (xD qQe vs):=h;rcases h2.2 with⟨rfl,h0⟩ | ⟨g,cap,cur,rfl,_,hg,h4,h5,_⟩
 ·exact⟨none,0,by rw[h0],by unfold maxLen;omega, .inl (List.length_eq_zero_iff.1 h0)⟩
 ·refine⟨_,cap,rfl,by omega, .inr ⟨g,rfl,Nat.lt_of_lt_of_le (h2.lt g rfl).2 hB,(h2.lt g rfl).2,fun i hi=>?_⟩⟩;have hat:=fun(k:Nat) (u:Value) (hk:k < 4) (hu:(qQe vs[i])[k]? = some u)=>qQm qJ0 h2 (g:=g) rfl hi hk hu
  exact⟨hat 0 _ (by omega) rfl,hat 1 _ (by omega) rfl,hat 2 _ (by omega) rfl,hat 3 _ (by omega) rfl⟩
theorem qYC.keep{B:Nat}{w w':World}{vs:List qI}{q:Option Addr}(h:qYC B w vs q)(hb:Below B w w'):qYC B w' vs q:=by
 rcases h with h | ⟨g,h1,h2,h3,h4⟩
 ·exact .inl h
 ·exact .inr ⟨g,h1,h2,Nat.lt_of_lt_of_le h3 hb.size,fun i hi=>(h4 i hi).move (hb.block g h2)⟩
def qLB(B:Nat)(w:World)(fs:List qQ2)(q:Option Addr):Prop:=fs=[]\/∃ g,q=some ⟨g,0,none⟩/\g < B/\g < w.1.size/\∀ i (h:i < fs.length),∃ qv cv qb cb,CFn g (i * 6) fs[i] ⟨.slice qv fs[i].vars.length cv, .slice qb fs[i].body.length cb⟩ w/\qYC B w fs[i].vars qv/\fs[i].vars.length<=64/\qVt B w fs[i].body qb/\fs[i].body.length<=maxLen
theorem qLB.keep{B:Nat}{w w':World}{fs:List qQ2}{q:Option Addr}(h:qLB B w fs q)(hb:Below B w w'):qLB B w' fs q:=by
 rcases h with h | ⟨g,h1,h2,h3,h4⟩
 ·exact .inl h
 ·exact .inr ⟨g,h1,h2,Nat.lt_of_lt_of_le h3 hb.size,fun i hi=>by obtain⟨qv,cv,qb,cb,a,b,c,d,e⟩:=h4 i hi;exact⟨qv,cv,qb,cb,a.move (hb.block g h2),b.keep hb,c,d.keep hb,e⟩⟩
theorem outD_at:∀ (fs:List FnM) (bs:List (List Sx)) (i:Nat) (h:i < (qXt fs bs).length) (hf:i < fs.length),(qXt fs bs)[i]=mkD fs[i] (bs.getD i [])
 | f :: fs,b :: bs,0,_,_=>rfl
 | f :: fs,b :: bs,i+1,h,hf=>by
  simp only[qXt,List.getElem_cons_succ,List.getD_cons_succ];exact outD_at fs bs i (by simpa[qXt]using h) (by simpa using hf)
 | [],_,i,h,hf=>by simp at hf
 | _ :: _,[],i,h,_=>by simp[qXt]at h
structure qPb(B:Nat)(p:PrD)(gq fq:Option Addr)(w:World):Prop where
 gs:qYC B w p.globals gq
 fs:qLB B w p.funcs fq
 gl:p.globals.length<=64
 fl:p.funcs.length<=16
 ma:∃ i:Nat,p.main=i/\i < p.funcs.length
theorem qPb.keep{B:Nat}{p:PrD}{gq fq:Option Addr}{w w':World}(h:qPb B p gq fq w)(hb:Below B w w'):qPb B p gq fq w':=⟨h.gs.keep hb,h.fs.keep hb,h.gl,h.fl,h.ma⟩
def prV(p:PrD)(gq fq:Option Addr)(gc fc:Nat):Value:=.agg #[.slice gq p.globals.length gc, .slice fq p.funcs.length fc, .int .i64 p.main]
theorem qZ2.at{lo:Nat}{p:PrD}{v:Value}{w:World}(h:qZ2 lo p v w):∃ gq gc fq fc,v=prV p gq fq gc fc/\qPb w.1.size p gq fq w:=by
 obtain⟨fs,bs,gv,fv,rfl,h1,h2,h3,h4,h5,h6,h7,h8,h9,i,h10,h11⟩:=h;have hfl:p.funcs.length=fs.length:=by rw[h4,qVf fs bs (by omega),h5]
 obtain⟨gq,gc,rfl,_,hg⟩:=h1.at (Nat.le_refl _);refine⟨gq,gc,?_⟩;have key:∃ fq fc,fv=.slice fq fs.length fc/\qLB w.1.size w p.funcs fq:=by
  rcases h2.2 with⟨rfl,h0⟩ | ⟨g,cap,cur,rfl,_⟩
  ·exact⟨none,0,by rw[h0], .inl (List.length_eq_zero_iff.1 (by omega))⟩
  ·refine⟨_,cap,rfl, .inr ⟨g,rfl,(h2.lt g rfl).2,(h2.lt g rfl).2,fun j hj=>?_⟩⟩;have hjf:j < fs.length:=by omega
   obtain⟨qv,cv,ev,_,av⟩:=(h3 fs[j] (List.getElem_mem hjf)).at (Nat.le_refl _);have hb:=h6 j (by omega);rw[show fs.getD j noF=fs[j] by simp[List.getD_eq_getElem?_getD,hjf]]at hb;obtain⟨qb,cb,eb,lb,ab⟩:=jE.at (hb.move (ok':=(· < w.1.size)) (w':=w) (fun g hg _=>⟨hg,rfl⟩));have hc:=qZv h2 hjf;have hv64:=h9 fs[j] (List.getElem_mem hjf);have e:p.funcs[j]=mkD fs[j] (bs.getD j []):=by
    have:=outD_at fs bs j (by rw[qVf fs bs (by omega)];omega) hjf;simp only[h4];exact this
   rw[e];obtain⟨c0,c1,c2,c3,c4,c5⟩:=hc;rw[ev]at c4;rw[eb]at c5;exact⟨qv,cv,qb,cb,⟨c0,c1,c2,c3,c4,c5⟩,av,hv64,ab,lb⟩
 obtain⟨fq,fc,rfl,hf⟩:=key;exact⟨fq,fc,by rw[prV,hfl],hg,hf,h7,by omega,i,h10,by omega⟩
def qYi(a b:qI):Bool:=a.name == b.name && ((a.t.1 == b.t.1 && a.t.2 == b.t.2) && a.size == b.size)
def kC:List qI->List qI->Bool
 | [],us=>us.isEmpty
 | t :: ts,us=>match us with
  | []=>false
  | u :: us=>qYi t u && kC ts us
mutual
def qKs:Ex->Ex->Bool
 | .mk op t n v g l c ks,b=>op == b.op && ((t.1 == b.ty.1 && t.2 == b.ty.2) && (n == b.num && (v == b.var && (g == b.glob && (l == b.line && (c == b.col && yO ks b.kids))))))
def yO:List Ex->List Ex->Bool
 | [],us=>us.isEmpty
 | t :: ts,us=>match us with
  | []=>false
  | u :: us=>qKs t u && yO ts us
end
mutual
def qKu:Sx->Sx->Bool
 | .mk op l c tg es fn th el,b=>op == b.op && (l == b.line && (c == b.col && (fn == b.fn && (yO tg b.target && (yO es b.exprs && (yA th b.thn && yA el b.els))))))
def yA:List Sx->List Sx->Bool
 | [],us=>us.isEmpty
 | t :: ts,us=>match us with
  | []=>false
  | u :: us=>qKu t u && yA ts us
end
def qYf(a b:qQ2):Bool:=a.name == b.name && ((a.t.1 == b.t.1 && a.t.2 == b.t.2) && (a.params == b.params && (kC a.vars b.vars && yA a.body b.body)))
def wS:List qQ2->List qQ2->Bool
 | [],us=>us.isEmpty
 | t :: ts,us=>match us with
  | []=>false
  | u :: us=>qYf t u && wS ts us
def qLv(a b:PrD):Bool:=a.main == b.main && (kC a.globals b.globals && wS a.funcs b.funcs)
theorem qYj:∀ (ts us:List qI),kC ts us=true->ts.length=us.length
 | [],us,h=>by cases us with | nil=>rfl | cons u r=>simp[kC]at h
 | t :: ts,us,h=>by
  cases us with
  | nil=>simp[kC]at h
  | cons u r =>
   simp only[kC,bE]at h;simp[qYj ts r h.2]
theorem qLH{ts us:List qI}{i:Nat}(h:i < ts.length)(h':i < us.length):kC (ts.drop i) (us.drop i)=(qYi ts[i] us[i] && kC (ts.drop (i+1)) (us.drop (i+1))):=by
 rw[List.drop_eq_getElem_cons h,List.drop_eq_getElem_cons h',kC]
theorem qLz{ts us:List qI}{i:Nat}(h:¬i < ts.length)(hl:ts.length=us.length):kC (ts.drop i) (us.drop i)=true:=by
 rw[List.drop_eq_nil_of_le (by omega),List.drop_eq_nil_of_le (by omega),kC];rfl
theorem qYe:∀ (ts us:List Ex),yO ts us=true->ts.length=us.length
 | [],us,h=>by cases us with | nil=>rfl | cons u r=>simp[yO]at h
 | t :: ts,us,h=>by
  cases us with
  | nil=>simp[yO]at h
  | cons u r =>
   simp only[yO,bE]at h;simp[qYe ts r h.2]
theorem qLE{ts us:List Ex}{i:Nat}(h:i < ts.length)(h':i < us.length):yO (ts.drop i) (us.drop i)=(qKs ts[i] us[i] && yO (ts.drop (i+1)) (us.drop (i+1))):=by
 rw[List.drop_eq_getElem_cons h,List.drop_eq_getElem_cons h',yO]
theorem qLt{ts us:List Ex}{i:Nat}(h:¬i < ts.length)(hl:ts.length=us.length):yO (ts.drop i) (us.drop i)=true:=by
 rw[List.drop_eq_nil_of_le (by omega),List.drop_eq_nil_of_le (by omega),yO];rfl
theorem qYh:∀ (ts us:List Sx),yA ts us=true->ts.length=us.length
 | [],us,h=>by cases us with | nil=>rfl | cons u r=>simp[yA]at h
 | t :: ts,us,h=>by
  cases us with
  | nil=>simp[yA]at h
  | cons u r =>
   simp only[yA,bE]at h;simp[qYh ts r h.2]
theorem qLG{ts us:List Sx}{i:Nat}(h:i < ts.length)(h':i < us.length):yA (ts.drop i) (us.drop i)=(qKu ts[i] us[i] && yA (ts.drop (i+1)) (us.drop (i+1))):=by
 rw[List.drop_eq_getElem_cons h,List.drop_eq_getElem_cons h',yA]
theorem qLx{ts us:List Sx}{i:Nat}(h:¬i < ts.length)(hl:ts.length=us.length):yA (ts.drop i) (us.drop i)=true:=by
 rw[List.drop_eq_nil_of_le (by omega),List.drop_eq_nil_of_le (by omega),yA];rfl
theorem qYg:∀ (ts us:List qQ2),wS ts us=true->ts.length=us.length
 | [],us,h=>by cases us with | nil=>rfl | cons u r=>simp[wS]at h
 | t :: ts,us,h=>by
  cases us with
  | nil=>simp[wS]at h
  | cons u r =>
   simp only[wS,bE]at h;simp[qYg ts r h.2]
theorem qLF{ts us:List qQ2}{i:Nat}(h:i < ts.length)(h':i < us.length):wS (ts.drop i) (us.drop i)=(qYf ts[i] us[i] && wS (ts.drop (i+1)) (us.drop (i+1))):=by
 rw[List.drop_eq_getElem_cons h,List.drop_eq_getElem_cons h',wS]
theorem qLu{ts us:List qQ2}{i:Nat}(h:¬i < ts.length)(hl:ts.length=us.length):wS (ts.drop i) (us.drop i)=true:=by
 rw[List.drop_eq_nil_of_le (by omega),List.drop_eq_nil_of_le (by omega),wS];rfl
theorem sameV_refl(a:qI):qYi a a=true:=by simp[qYi]
theorem qJU:∀ l:List qI,kC l l=true
 | []=>rfl
 | a :: r=>by simp only[kC,bE];exact⟨sameV_refl a,qJU r⟩
mutual
theorem sameE_refl:∀ e:Ex,qKs e e=true
 | .mk op t n v g l c ks=>by
  have:=qJT ks;simp[qKs,Ex.op,Ex.ty,Ex.num,Ex.var,Ex.glob,Ex.line,Ex.col,Ex.kids,this]
theorem qJT:∀ l:List Ex,yO l l=true
 | []=>rfl
 | a :: r=>by simp only[yO,bE];exact⟨sameE_refl a,qJT r⟩
end
mutual
theorem sameS_refl:∀ e:Sx,qKu e e=true
 | .mk op l c tg es fn th el=>by
  have h1:=qXO th;have h2:=qXO el;simp[qKu,Sx.op,Sx.line,Sx.col,Sx.target,Sx.exprs,Sx.fn,Sx.thn,Sx.els,qJT,h1,h2]
theorem qXO:∀ l:List Sx,yA l l=true
 | []=>rfl
 | a :: r=>by simp only[yA,bE];exact⟨sameS_refl a,qXO r⟩
end
theorem sameF_refl(a:qQ2):qYf a a=true:=by simp[qYf,qJU,qXO]
theorem qWc:∀ l:List qQ2,wS l l=true
 | []=>rfl
 | a :: r=>by simp only[wS,bE];exact⟨sameF_refl a,qWc r⟩
theorem qLw(p:PrD):qLv p p=true:=by simp[qLv,qJU,qWc]
def xM(b:Bool)(w:World)(e:Ending)(w':World):Prop:=e=.returned (.bool b)/\Below w.1.size w w'
theorem qMu{t:Ex}{ks:List Ex}(h:t∈ks)(op:List UInt8)(ty:Ty)(n v:Int)(g:Bool)(l c:Int):SizeOf.sizeOf t < SizeOf.sizeOf (Ex.mk op ty n v g l c ks):=by
 have:=List.sizeOf_lt_of_mem h;simp only[Ex.mk.sizeOf_spec];omega
theorem thn_size{t:Sx}{e:Sx}(h:t∈e.thn):SizeOf.sizeOf t < SizeOf.sizeOf e:=by
 obtain⟨op,l,c,tg,es,fn,th,el⟩:=e;have:=List.sizeOf_lt_of_mem (show t∈th from h);simp only[Sx.mk.sizeOf_spec];omega
theorem els_size{t:Sx}{e:Sx}(h:t∈e.els):SizeOf.sizeOf t < SizeOf.sizeOf e:=by
 obtain⟨op,l,c,tg,es,fn,th,el⟩:=e;have:=List.sizeOf_lt_of_mem (show t∈el from h);simp only[Sx.mk.sizeOf_spec];omega
def AlERel(ts us:List Ex)(w:World)(i:Value)(wr:World):Prop :=
 ∃ k:Nat,k<=ts.length/\i=.int .i64 k/\yO (ts.drop k) (us.drop k)=yO ts us/\Below w.1.size w wr
theorem qWE(B:Nat)(ts us:List Ex)(q q':Option Addr)(c c':Nat)(w:World)(hB:B<=w.1.size)(h1:qWx B w ts q)(h2:qWx B w us q')(hn1:ts.length<=maxLen)(hn2:us.length<=maxLen)
 (hrec:∀ t∈ts,∀ (u:Ex) (v v':Value) (w:World),B<=w.1.size->qQF w (· < B) t v->qQF w (· < B) u v'->Calls prog 70 #[exV t v,exV u v'] w (xM (qKs t u) w)) :
 Calls prog 69 #[.slice q ts.length c, .slice q' us.length c', .func (.func 70) #[] #[]] w (xM (yO ts us) w):=by
 have H1:=hI h1;have H2:=hI h2;have HR:=hI hrec;have hcf:∀ (args:Array Value) (w:World),(callFunc 70 args).run prog w=.ok (.enter 70 args) w:=fun _ _=>rfl
 unfold maxLen at hn1 hn2;clear h1 h2 hrec;unfold xM;by_cases hl:ts.length=us.length
 ·have hlb:(((ts.length:Nat):Int) != ((us.length:Nat):Int))=false:=by simp[hl]
  rw[<-hl];rw[<-hl]at hlb hn2;have HL:=hI hl;clear hl;go_enter func69,ntmps69
  go_wp2_with fail
  go_loopw [15] (fun i wr=>AlERel ts us w i wr) (fun i _=>ts.length - (intOf i).toNat)
  case atStart=>exact⟨0,Nat.zero_le _,rfl,by simp,Below.refl _ _⟩
  case round =>
   obtain⟨k,hk,rfl,hs,hb⟩:=hrel;have HS:=hI hs;have HBB:=hI hb;clear hs hb;by_cases hlt:k < ts.length
   ·have hlt':k < us.length:=by have:=HL.o;omega
    obtain⟨g,rfl,hgB,hgr,hR1⟩:=(H1.o.keep (HBB.o.mono hB)).resolve_left (fun e=>by rw[e]at hlt;simp at hlt);obtain⟨g',rfl,hgB',hgr',hR2⟩:=(H2.o.keep (HBB.o.mono hB)).resolve_left (fun e=>by rw[e]at hlt';simp at hlt');have hbs:B<=wr.1.size:=by have:=HBB.o.size;omega
    obtain⟨v1,l1,C1⟩:=hR1 k hlt;obtain⟨v2,l2,C2⟩:=hR2 k hlt';have⟨k0,k1,k2,k3,k4,k5,k6,k7,k8,_⟩:=C1.a;have⟨j0,j1,j2,j3,j4,j5,j6,j7,j8,_⟩:=C2.a;have HC:=hI (fun(W:World) (h:Below wr.1.size wr W)=>HR.o ts[k] (List.getElem_mem _) us[k] v1 v2 W (Nat.le_trans hbs h.size) (l1.keep (h.mono hbs)) (l2.keep (h.mono hbs)));have hstep:=qLE hlt hlt';have HST:=hI hstep;clear hstep;clear C1 C2 hR1 hR2 l1 l2;generalize ts[k]=t at *;generalize us[k]=u at *;obtain⟨op,ty,n,va,gl,l,co,ks⟩:=t;obtain⟨op',ty',n',va',gl',l',co',ks'⟩:=u;simp only[Ex.op,Ex.ty,Ex.num,Ex.var,Ex.glob,Ex.line,Ex.col,exV]at k0 k1 k2 k3 k4 k5 k6 k7 k8 j0 j1 j2 j3 j4 j5 j6 j7 j8 HC;generalize hT:Ex.mk op ty n va gl l co ks=t at *;generalize hU:Ex.mk op' ty' n' va' gl' l' co' ks'=u at *;generalize hst:qKs t u=b at *;have hk63:(k:Int) < (ts.length:Nat):=by omega
    have hk0:(0:Int)<=(k:Int):=by omega
    go_wp2_with fail
    refine wRg (S:=fun w'=>Below wr.1.size wr w') 9 ?_;refine wTk 0 18 (.func (.func 70) #[] #[]) ?_ (bD wr) ?_
    ·intro _ y;go_simp
    refine wTk 1 19 (.slice (some ⟨g,0,none⟩) ts.length c) ?_ (bD wr) ?_
    ·intro _ y;go_simp
    refine wTk 2 20 (.int .i64 k) ?_ (bD wr) ?_
    ·intro _ y;go_simp
    refine wTk 3 21 (.pointer (some ⟨g,k * 9,none⟩)) ?_ (bD wr) ?_
    ·intro _ y;go_simp
    refine wTk 4 22 (.agg #[.string ⟨op.toArray⟩, .int .i64 ty.1, .bool ty.2, .int .u64 n, .int .i64 va, .bool gl, .int .i64 l, .int .i64 co,v1]) ?_ (bD wr) ?_
    ·intro _ y;obtain⟨k0,k1,k2,k3,k4,k5,k6,k7⟩:=kP8 y k0 k1 k2 k3 k4 k5 k6 k7;have k8:=kP y k8;go_simp
    refine wTk 5 23 (.slice (some ⟨g',0,none⟩) ts.length c') ?_ (bD wr) ?_
    ·intro _ y;go_simp
    refine wTk 6 24 (.int .i64 k) ?_ (bD wr) ?_
    ·intro _ y;go_simp
    refine wTk 7 25 (.pointer (some ⟨g',k * 9,none⟩)) ?_ (bD wr) ?_
    ·intro _ y;go_simp
    refine wTk 8 26 (.agg #[.string ⟨op'.toArray⟩, .int .i64 ty'.1, .bool ty'.2, .int .u64 n', .int .i64 va', .bool gl', .int .i64 l', .int .i64 co',v2]) ?_ (bD wr) ?_
    ·intro _ y;obtain⟨j0,j1,j2,j3,j4,j5,j6,j7⟩:=kP8 y j0 j1 j2 j3 j4 j5 j6 j7;have j8:=kP y j8;go_simp
    refine wOn 9 fun K hK=>?_
    go_simp;refine(HC.o _ (Below.refl _ _).drew).mono ?_;rintro e w3 ⟨rfl,hb3⟩;have hb9:=zF hb3;have HB9:=hI hb9;clear hb3;refine kD hK ?_;clear hK K;refine wOn 10 fun K hK=>?_
    go_simp;refine kD hK ?_;clear hK K;refine wDn ?_ _;clear hb9;cases b
    ·go_wp2
     go_ret;refine⟨?_,HBB.o.trans (HB9.o.mono HBB.o.size)⟩;rw[<-HS.o,HST.o];rfl
    ·go_wp2
     go_roundw
     case rel=>exact⟨k+1,by omega,by go_num,by rw[<-HS.o,HST.o,bT],HBB.o.trans (HB9.o.mono HBB.o.size)⟩
     case measure=>simp[intOf];omega
   ·have hend:=qLt hlt HL.o;go_wp2
    go_ret;refine⟨?_,HBB.o⟩;rw[<-HS.o,hend];rfl
 ·have hlb:(((ts.length:Nat):Int) != ((us.length:Nat):Int))=true:=by simp;omega
  have hs:yO ts us=false:=by
   cases h:yO ts us
   ·rfl
   ·exact absurd (qYe ts us h) hl
  rw[hs];clear hl;go_enter func69,ntmps69
  go_wp2
  go_ret;exact⟨rfl,Below.refl _ _⟩
theorem qYL(B:Nat)(a b:Ex)(v v':Value)(w:World)(hB:B<=w.1.size)(ha:qQF w (· < B) a v)(hb:qQF w (· < B) b v')
 (hrec:∀ t∈a.kids,∀ (u:Ex) (v v':Value) (w:World),B<=w.1.size->qQF w (· < B) t v->qQF w (· < B) u v'->Calls prog 70 #[exV t v,exV u v'] w (xM (qKs t u) w)) :
 Calls prog 70 #[exV a v,exV b v'] w (xM (qKs a b) w):=by
 obtain⟨q,c,rfl,hm,hka⟩:=ha.at
 obtain⟨q',c',rfl,hm',hkb⟩:=hb.at
 obtain⟨op,ty,n,va,gl,l,co,ks⟩:=a;obtain⟨op',ty',n',va',gl',l',co',ks'⟩:=b;simp only[Ex.kids]at *;have h2:=(bal (Below.refl w.1.size w) (.cells (exC (.mk op ty n va gl l co ks) (.slice q ks.length c)).toArray 76)).trans ((bal (Below.refl _ (w.alloc (.cells (exC (.mk op ty n va gl l co ks) (.slice q ks.length c)).toArray 76))) (.cells (exC (.mk op' ty' n' va' gl' l' co' ks') (.slice q' ks'.length c')).toArray 76)).mono (by simp));have HE:=hI (qWE B ks ks' q q' c c' _ (Nat.le_trans hB h2.size) (hka.keep (h2.mono hB)) (hkb.keep (h2.mono hB)) hm hm' hrec);have H2:=hI h2;have hst:qKs (.mk op ty n va gl l co ks) (.mk op' ty' n' va' gl' l' co' ks')=(op == op' && ((ty.1 == ty'.1 && ty.2 == ty'.2) && (n == n' && (va == va' && (gl == gl' && (l == l' && (co == co' && yO ks ks'))))))):=rfl;rw[hst];clear h2 ha hb hka hkb hrec hst hm hm';unfold xM at *;simp only[exC,exV]at *;cases e0:(op == op');case false =>
  go_enter func70,ntmps70
  go_wp2
  go_ret;exact⟨rfl,H2.o⟩
 case true =>
 obtain⟨t1,t2⟩:=ty;obtain⟨t1',t2'⟩:=ty';simp only at *;by_cases a1:t1=t1'
 case neg =>
  rw[show(t1 == t1')=false by simpa using a1];go_enter func70,ntmps70
  go_wp2
  go_ret;exact⟨rfl,H2.o⟩
 case pos =>
 subst a1;by_cases a2:t2=t2'
 case neg =>
  rw[show(t1 == t1)=true by simp,show(t2 == t2')=false by simpa using a2];go_enter func70,ntmps70
  go_wp2
  go_ret;exact⟨rfl,H2.o⟩
 case pos =>
 subst a2;rw[show(t1 == t1)=true by simp,show(t2 == t2)=true by simp];cases e2:(n == n');case false =>
  go_enter func70,ntmps70
  go_wp2
  go_ret;exact⟨rfl,H2.o⟩
 case true =>
 cases e3:(va == va');case false =>
  go_enter func70,ntmps70
  go_wp2
  go_ret;exact⟨rfl,H2.o⟩
 case true =>
 cases e4:(gl == gl');case false =>
  go_enter func70,ntmps70
  go_wp2
  go_ret;exact⟨rfl,H2.o⟩
 case true =>
 cases e5:(l == l');case false =>
  go_enter func70,ntmps70
  go_wp2
  go_ret;exact⟨rfl,H2.o⟩
 case true =>
 cases e6:(co == co');case false =>
  go_enter func70,ntmps70
  go_wp2
  go_ret;exact⟨rfl,H2.o⟩
 case true =>
  go_enter func70,ntmps70
  go_wp2_with fail
  refine(HE.o).mono ?_;rintro e w3 ⟨rfl,hb3⟩;go_wp2
  go_ret;exact⟨rfl,H2.o.trans (hb3.mono H2.o.size)⟩
theorem qU2(B:Nat):∀ (n:Nat) (a:Ex),SizeOf.sizeOf a < n->∀ (b:Ex) (va vb:Value) (w:World),B<=w.1.size->qQF w (· < B) a va->qQF w (· < B) b vb->Calls prog 70 #[exV a va,exV b vb] w (xM (qKs a b) w):=by
 intro n;induction n with
 | zero=>intro a h;omega
 | succ n ih =>
  intro a h b va vb w hB ha hb;refine qYL B a b va vb w hB ha hb fun t ht u v v' w1 h1 h2 h3=>ih t ?_ u v v' w1 h1 h2 h3
  obtain⟨op,ty,m,v,g,l,c,ks⟩:=a;have:=qMu (t:=t) (ks:=ks) ht op ty m v g l c;omega
theorem qKt(B:Nat)(es us:List Ex)(q q':Option Addr)(c c':Nat)(w:World)(hB:B<=w.1.size)(h1:qWx B w es q)(h2:qWx B w us q')(hn1:es.length<=maxLen)(hn2:us.length<=maxLen) :
 Calls prog 69 #[.slice q es.length c, .slice q' us.length c', .func (.func 70) #[] #[]] w (xM (yO es us) w) :=
 qWE B es us q q' c c' w hB h1 h2 hn1 hn2 fun t _ u v v' w1 hB1 l1 l2=>qU2 B _ t (Nat.lt_succ_self _) u v v' w1 hB1 l1 l2
def SlE(B:Nat)(es:List Ex):Prop:=∀ (us:List Ex) (q q':Option Addr) (c c':Nat) (w:World),B<=w.1.size->qWx B w es q->qWx B w us q'->es.length<=maxLen->us.length<=maxLen ->
 Calls prog 49 #[.slice q es.length c, .slice q' us.length c'] w (xM (yO es us) w)
theorem qLK(B:Nat)(ts:List Ex)(hrec:∀ t∈ts,SlE B t.kids):SlE B ts:=by
 intro us q q' c c' w hB h1 h2 hn1 hn2;have H1:=hI h1;have H2:=hI h2;have HR:=hI hrec;unfold maxLen at hn1 hn2;clear h1 h2 hrec;unfold xM;by_cases hl:ts.length=us.length
 ·have hlb:(((ts.length:Nat):Int) != ((us.length:Nat):Int))=false:=by simp[hl]
  rw[<-hl];rw[<-hl]at hlb hn2;have HL:=hI hl;clear hl;go_enter func49,ntmps49
  go_wp2_with fail
  go_loopw [5] (fun i wr=>AlERel ts us w i wr) (fun i _=>ts.length - (intOf i).toNat)
  case atStart=>exact⟨0,Nat.zero_le _,rfl,by simp,Below.refl _ _⟩
  case round =>
   obtain⟨k,hk,rfl,hs,hb⟩:=hrel;have HS:=hI hs;have HBB:=hI hb;clear hs hb;by_cases hlt:k < ts.length
   ·have hlt':k < us.length:=by have:=HL.o;omega
    obtain⟨g,rfl,hgB,hgr,hR1⟩:=(H1.o.keep (HBB.o.mono hB)).resolve_left (fun e=>by rw[e]at hlt;simp at hlt);obtain⟨g',rfl,hgB',hgr',hR2⟩:=(H2.o.keep (HBB.o.mono hB)).resolve_left (fun e=>by rw[e]at hlt';simp at hlt');obtain⟨v1,l1,C1⟩:=hR1 k hlt;obtain⟨v2,l2,C2⟩:=hR2 k hlt';obtain⟨q1,c1,rfl,m1,a1⟩:=l1.at
    obtain⟨q2,c2,rfl,m2,a2⟩:=l2.at
    have⟨k0,k1,k2,k3,k4,k5,k6,k7,k8,_⟩:=C1.a;have⟨j0,j1,j2,j3,j4,j5,j6,j7,j8,_⟩:=C2.a;have hbs:B<=wr.1.size:=by have:=HBB.o.size;omega
    have HC:=hI (fun(W:World) (h:Below wr.1.size wr W)=>HR.o ts[k] (List.getElem_mem _) us[k].kids q1 q2 c1 c2 W (Nat.le_trans hbs h.size) (a1.keep (h.mono hbs)) (a2.keep (h.mono hbs)) m1 m2);have hstep:=qLE hlt hlt';have HST:=hI hstep;clear hstep C1 C2 hR1 hR2 l1 l2 a1 a2 m1 m2;generalize ts[k]=t at *;generalize us[k]=u at *;have hk63:(k:Int) < (ts.length:Nat):=by omega
    have hk0:(0:Int)<=(k:Int):=by omega
    have HBY:=hI (fun a b:Obj=>(((Below.refl wr.1.size wr).alloc (Nat.le_refl _) a).alloc (by simp) b).drew);have HBX:=hI (fun a b:Obj=>HBB.o.trans ((HBY.o a b).mono HBB.o.size));obtain⟨op,⟨t1,t2⟩,n,va,gl,l,co,ks⟩:=t;obtain⟨op',⟨t1',t2'⟩,n',va',gl',l',co',ks'⟩:=u;have hsv:qKs (.mk op (t1,t2) n va gl l co ks) (.mk op' (t1',t2') n' va' gl' l' co' ks')=(op == op' && ((t1 == t1' && t2 == t2') && (n == n' && (va == va' && (gl == gl' && (l == l' && (co == co' && yO ks ks'))))))):=rfl;have HSV:=hI hsv;clear hsv;simp only[Ex.op,Ex.ty,Ex.num,Ex.var,Ex.glob,Ex.line,Ex.col,Ex.kids]at k0 k1 k2 k3 k4 k5 k6 k7 k8 j0 j1 j2 j3 j4 j5 j6 j7 j8 HC;generalize yO ks ks'=b at *;go_wp2_with fail
    go_region
    all_goals
     by_cases e0:op=op'
     case neg =>
      go_wp2
      go_ret;exact⟨by rw[<-HS.o,HST.o,HSV.o];simp[e0],HBX.o _ _⟩
     case pos =>
     subst e0;by_cases e1:t1=t1'
     case neg =>
      go_wp2
      go_ret;exact⟨by rw[<-HS.o,HST.o,HSV.o];simp[e1],HBX.o _ _⟩
     case pos =>
     subst e1;by_cases e2:t2=t2'
     case neg =>
      go_wp2
      go_ret;exact⟨by rw[<-HS.o,HST.o,HSV.o];simp[e2],HBX.o _ _⟩
     case pos =>
     subst e2;by_cases e3:n=n'
     case neg =>
      go_wp2
      go_ret;exact⟨by rw[<-HS.o,HST.o,HSV.o];simp[e3],HBX.o _ _⟩
     case pos =>
     subst e3;by_cases e4:va=va'
     case neg =>
      go_wp2
      go_ret;exact⟨by rw[<-HS.o,HST.o,HSV.o];simp[e4],HBX.o _ _⟩
     case pos =>
     subst e4;by_cases e5:gl=gl'
     case neg =>
      go_wp2
      go_ret;exact⟨by rw[<-HS.o,HST.o,HSV.o];simp[e5],HBX.o _ _⟩
     case pos =>
     subst e5;by_cases e6:l=l'
     case neg =>
      go_wp2
      go_ret;exact⟨by rw[<-HS.o,HST.o,HSV.o];simp[e6],HBX.o _ _⟩
     case pos =>
     subst e6;by_cases e7:co=co'
     case neg =>
      go_wp2
      go_ret;exact⟨by rw[<-HS.o,HST.o,HSV.o];simp[e7],HBX.o _ _⟩
     case pos =>
     subst e7;go_wp2_with fail
     refine(HC.o _ (HBY.o _ _)).mono ?_;rintro e w3 ⟨rfl,hb3⟩;have HB3:=hI ((HBX.o _ _).trans (hb3.mono (HBX.o _ _).size));clear hb3;cases b
     ·go_wp2
      go_ret;exact⟨by rw[<-HS.o,HST.o,HSV.o];simp,HB3.o⟩
     ·go_wp2
      go_roundw
      case rel=>exact⟨k+1,by omega,by go_num,by rw[<-HS.o,HST.o,HSV.o];simp,HB3.o⟩
      case measure=>simp[intOf];omega
   ·have hend:=qLt hlt HL.o;go_wp2
    go_ret;refine⟨?_,HBB.o⟩;rw[<-HS.o,hend];rfl
 ·have hlb:(((ts.length:Nat):Int) != ((us.length:Nat):Int))=true:=by simp;omega
  have hs:yO ts us=false:=by
   cases h:yO ts us
   ·rfl
   ·exact absurd (qYe ts us h) hl
  rw[hs];clear hl;go_enter func49,ntmps49
  go_wp2
  go_ret;exact⟨rfl,Below.refl _ _⟩
end Go.Proofs.YtiajhekdhhhghaaGreatDoor
