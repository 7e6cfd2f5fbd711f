/- Walks. -/
import Derived.Test.YtiajhekdhhhghaaGreatDoorMah
set_option linter.all false
set_option maxHeartbeats 8000000
set_option maxRecDepth 100000
namespace Go.Proofs.YtiajhekdhhhghaaGreatDoor
open Tryz Go.Proofs.Tryz
open Go Go.RowKit
theorem st_assign(k x:List UInt8)(m ln co:Int)(ks:List qQ)(hkl:k.length<=1000000)(h1:(k == qP)=true)(hks:∃ a b,ks=[a,b]/\wfE a=true/\wfE b=true):qUB (.mk k x m ln co ks):=by
 intro M fs v w h hL hl;obtain⟨q,c,rfl,hc1,hc2,hK⟩:=hl.kids;have hbl:=bal (bal (Below.refl w.1.size w) (qB (.mk k x m ln co ks) (.slice q ks.length c))) (sxO [] 0 0 (.slice none 0 0) (.slice none 0 0) 0 (.slice none 0 0) (.slice none 0 0));have HBL:=hI hbl;have HN:=hI ((Bx.new (.mk k x m ln co ks) (.slice q ks.length c) w).below (bal (Below.refl _ _) (sxO [] 0 0 (.slice none 0 0) (.slice none 0 0) 0 (.slice none 0 0) (.slice none 0 0))));have HT:=hI (jO.new [] 0 0 (.slice none 0 0) (.slice none 0 0) 0 (.slice none 0 0) (.slice none 0 0) (w.alloc (qB (.mk k x m ln co ks) (.slice q ks.length c))));simp only[World.size_alloc]at HT;have HKT0:=hI (show jX ((w.alloc (qB (.mk k x m ln co ks) (.slice q ks.length c))).alloc (sxO [] 0 0 (.slice none 0 0) (.slice none 0 0) 0 (.slice none 0 0) (.slice none 0 0))) (w.1.size+1) 73 from by
  have:=jO.kind (op:=[]) (l:=0) (c:=0) (tv:=.slice none 0 0) (ev:=.slice none 0 0) (fn:=0) (hv:=.slice none 0 0) (lv:=.slice none 0 0) (w.alloc (qB (.mk k x m ln co ks) (.slice q ks.length c)));simpa using this)
 have HM:=hI (show M.at fs ((w.alloc (qB (.mk k x m ln co ks) (.slice q ks.length c))).alloc (sxO [] 0 0 (.slice none 0 0) (.slice none 0 0) 0 (.slice none 0 0) (.slice none 0 0)))from h.below hbl);have HM0:=hI h;have HLI:=hI hl;have hsz:((w.alloc (qB (.mk k x m ln co ks) (.slice q ks.length c))).alloc (sxO [] 0 0 (.slice none 0 0) (.slice none 0 0) 0 (.slice none 0 0) (.slice none 0 0))).1.size=w.1.size+2:=by simp
 have HSC:=hI (qVP M.gs (fs.map (·.h)) (fs.getD M.ci noF).h.t k x m ln co ks (M.own fs));have HK:=hI hK;have hF0:M.L<=w.1.size:=hL;clear h hl hK hbl;simp only[qZ,qB,sxO,qS,qQ.kind,qQ.text,qQ.num,qQ.line,qQ.col,qQ.kids]at *;go_enter func122,ntmps122
 go_wp2
 generalize ((w.alloc _).alloc _)=W at *;have HSZ:=hI hsz;clear hsz;obtain⟨n0,n1,n2,n3,n4,n5⟩:=HN.o.cells;refine qXG (fun a N=>(((((((((a.put (some 7) (.pointer (some ⟨w.1.size,0,none⟩))).put (some 8) (.string ⟨k.toArray⟩)).put (some 9) (.string ⟨k.toArray⟩)).put (some 10) (.pointer (some ⟨w.1.size,3,none⟩))).put (some 11) (.int .i64 ln)).put (some 12) (.pointer (some ⟨w.1.size,4,none⟩))).put (some 13) (.int .i64 co)).put (some 14) (.agg #[.string ⟨k.toArray⟩, .int .i64 ln, .int .i64 co, .slice none 0 0, .slice none 0 0, .int .i64 0, .slice none 0 0, .slice none 0 0])).put (some 5) (.pointer (some ⟨N,0,none⟩)))) (fun N w'=>StIn W k ln co N w') ?_ ?_
 ·refine wRg (S:=fun w'=>Below W.1.size W w') 99 ?_;refine wTk 0 7 (.pointer (some ⟨w.1.size,0,none⟩)) ?_ (bD W) ?_
  ·intro _ y;go_simp
  refine wTk 1 8 (.string ⟨k.toArray⟩) ?_ (bD W) ?_
  ·intro _ y;obtain⟨n0,n3,n4⟩:=kP3 y n0 n3 n4;go_simp
  refine wTk 3 10 (.pointer (some ⟨w.1.size,3,none⟩)) ?_ (bD W) ?_
  ·intro _ y;go_simp
  refine wTk 4 11 (.int .i64 ln) ?_ (bD W) ?_
  ·intro _ y;obtain⟨n0,n3,n4⟩:=kP3 y n0 n3 n4;go_simp
  refine wTk 5 12 (.pointer (some ⟨w.1.size,4,none⟩)) ?_ (bD W) ?_
  ·intro _ y;go_simp
  refine wTk 6 13 (.int .i64 co) ?_ (bD W) ?_
  ·intro _ y;obtain⟨n0,n3,n4⟩:=kP3 y n0 n3 n4;go_simp
  refine wE (i:=2) (j:=8) rfl rfl (by kernel_rfl) (by rfl) (by rfl) (fun K hK=>?_) (fun K hK=>?_)
  ·go_simp;refine(yP ⟨k.toArray⟩ _ (by simpa[ByteArray.size]using hkl)).mono ?_;rintro e w3 ⟨rfl,hb3⟩;have hb3:=zF hb3;refine kK hK hb3 ?_;clear hK K;refine wTk 7 14 (.agg #[.string ⟨k.toArray⟩, .int .i64 ln, .int .i64 co, .slice none 0 0, .slice none 0 0, .int .i64 0, .slice none 0 0, .slice none 0 0]) ?_ (hb3) ?_
   ·intro _ y;go_simp
   refine wOn 8 fun K hK=>?_
   go_simp;refine kK hK (bal hb3 _) ?_;clear hK K;refine wOn 9 fun K hK=>?_
   go_simp;refine kK hK (bal hb3 _) ?_;clear hK K;refine wDn ?_ _;exact⟨w3.1.size,by simp only[Act.put,pZa,pZb,pZc],bal hb3 (sxO k ln co (.slice none 0 0) (.slice none 0 0) 0 (.slice none 0 0) (.slice none 0 0)),jO.new k ln co (.slice none 0 0) (.slice none 0 0) 0 (.slice none 0 0) (.slice none 0 0) w3,jO.kind w3,hb3.size⟩
  ·go_simp;refine kK hK (bal (Below.refl W.1.size W).drew (.cells #[.string ⟨#[]⟩, .int .i64 0, .int .i64 0, .slice none 0 0, .slice none 0 0, .int .i64 0, .slice none 0 0, .slice none 0 0] 73)) ?_;clear hK K;refine wOn 2 fun K hK=>?_
   go_simp;refine(yP ⟨k.toArray⟩ _ (by simpa[ByteArray.size]using hkl)).mono ?_;rintro e w3 ⟨rfl,hb3⟩;have hb4:=(bal (Below.refl W.1.size W).drew (.cells #[.string ⟨#[]⟩, .int .i64 0, .int .i64 0, .slice none 0 0, .slice none 0 0, .int .i64 0, .slice none 0 0, .slice none 0 0] 73)).trans (hb3.mono (by simp));refine kK hK hb4 ?_;clear hK K;refine wTk 7 14 (.agg #[.string ⟨k.toArray⟩, .int .i64 ln, .int .i64 co, .slice none 0 0, .slice none 0 0, .int .i64 0, .slice none 0 0, .slice none 0 0]) ?_ (hb4) ?_
   ·intro _ y;go_simp
   have hb3:Below (W.alloc (sxO [] 0 0 (.slice none 0 0) (.slice none 0 0) 0 (.slice none 0 0) (.slice none 0 0))).1.size (W.alloc (sxO [] 0 0 (.slice none 0 0) (.slice none 0 0) 0 (.slice none 0 0) (.slice none 0 0))) w3:=⟨hb3.os,hb3.tape,hb3.output,hb3.size,hb3.block⟩;have sb:=(jO.new [] 0 0 (.slice none 0 0) (.slice none 0 0) 0 (.slice none 0 0) (.slice none 0 0) W).below hb3;have kd:jX w3 W.1.size 73:=(jO.kind (op:=[]) (l:=0) (c:=0) (tv:=.slice none 0 0) (ev:=.slice none 0 0) (fn:=0) (hv:=.slice none 0 0) (lv:=.slice none 0 0) W).turn (hb3.block _ (by simp));have⟨z0,z1,z2,z3,z4,z5,z6,z7,_⟩:=sb.a;have⟨zf0,zf1,zf2,zf3,zf4,zf5,zf6,zf7,_⟩:=sb.b;refine wOn 9 fun K hK=>?_
   go_simp;refine kK hK (set8 hb4 (Nat.le_refl _) _ _ _ _ _ _ _ _) ?_;clear hK K;refine wDn ?_ _;exact⟨W.1.size,by simp only[Act.put,pZa,pZb,pZc],set8 hb4 (Nat.le_refl _) _ _ _ _ _ _ _ _,sb.set8,(((((((kd.set _ _ _).set _ _ _).set _ _ _).set _ _ _).set _ _ _).set _ _ _).set _ _ _).set _ _ _,Nat.le_refl _⟩
 ·intro NS w5 hIq;obtain⟨hb5,hS5,hkd,hNS⟩:=hIq;try simp only[Act.put,pZa,pZb,pZc]
  have hsz:=HSZ.o;have HS5:=hI (show SIn M fs k x m ln co ks q c NS k (.slice none 0 0) (.slice none 0 0) 0 w w5 from
   have hW:=HBL.o.trans (hb5.mono (by omega))
   ⟨hW,⟨by omega,hS5.lt⟩,hF0,HM.o.below hb5,HN.o.below hb5,HT.o.below hb5,(show jX W (w.1.size+1) 73 from HKT0.o).turn (hb5.block _ (by omega)),hS5,hkd,HK.o.keep (hW.mono hL),xZ.move (fun g hg hok=>⟨hok,hW.block g hg⟩) _ _ HLI.o,Mem.vlt HM0.o⟩)
  clear hb5 hS5 hkd hsz hNS n0 n1 n2 n3 n4 n5 HM HN HT HKT0 HM0 HK HLI HBL HSZ;clear W;have h1':=h1;obtain⟨a,b,rfl,ha,hb⟩:=hks;have HP:=hI (HSC.o.trans (by rw[if_pos h1];rfl:_=(wJ ⟨M.gs,M.own fs⟩ a).bind fun p=>(qQT ⟨M.gs,M.own fs⟩ b p.ty).bind fun e=>.ok (.mk k ln co [p] [e] 0 [] [],M.own fs)));obtain⟨g,off,rfl,hRN⟩:=HS5.o.ka.resolve_left (by simp);have hgL:=hRN.1;obtain⟨qa,na,ca,hla,hca⟩:=hRN.2 0 (by simp);simp only[List.getElem_cons_zero]at hla hca;have⟨k0,k1,k2,k3,k4,k5,_⟩:=hca.a;simp only[Nat.zero_mul,Nat.add_zero]at k0 k1 k2 k3 k4 k5;obtain⟨ak,ax,am,aln,aco,aks⟩:=a;have HTG:=hI (qKO ak ax am aln aco aks ha M.B M.L ⟨M.gs,M.own fs⟩ (.slice qa na ca) w5 HS5.o.ea HS5.o.le hla);simp only[qZ,qS,qQ.kind,qQ.text,qQ.num,qQ.line,qQ.col,qQ.kids,List.length]at *;have hcc:(2:Int)<=(c:Nat):=by omega
  obtain⟨n0,n1,n2,n3,n4,n5⟩:=HS5.o.nd.cells;unfold qP at h1;clear HSC;go_wp2_with fail
  refine(HTG.o).mono ?_;rintro e w6 hX;rcases hX.cases with⟨p,u,hp,rfl,⟨kv,rfl,hles⟩,hb6⟩ | ⟨l',c',code,hp,rfl,hb6⟩;rotate_left
  ·exact⟨rfl,(HS5.o.below hb6).bad (by rw[HP.o,hp];rfl)⟩
  have HS6:=hI (HS5.o.below hb6);have hsz5:=HS5.o.sz;have HLE:=hI hles;have HPp:=hI hp;have hs6:=hb6.size;have HB6:=hI hb6;obtain⟨pop,⟨pT0,pT1⟩,pn,pv,pg,pl,pc,pk⟩:=p;obtain⟨uq,uc,rfl⟩:=hles.shape;obtain⟨n0,n1,n2,n3,n4,n5⟩:=HS6.o.nd.cells;have s3:=HS6.o.sb.c3;have sf3:=HS6.o.sb.f 3 nL;have hsz6:=HS6.o.sz;have hNw:¬NS=w6.1.size:=by omega
  have hNw1:¬NS=w6.1.size+1:=by omega
  have hwn:¬w6.1.size=NS:=by omega
  have hwn1:¬w6.1.size+1=NS:=by omega
  clear hX hp hles hb6 HTG k0 k1 k2 k3 k4 k5 hla hca;simp only[exV,Ex.kids]at *;go_wp2
  have HS7:=hI (HS6.o.setT (.slice (some ⟨w6.1.size+1,0,none⟩) 1 1));have HLE7:=hI (qU.setN (N:=NS) HLE.o hsz5.2 (o:=3) (.slice (some ⟨w6.1.size+1,0,none⟩) 1 1));have hszV:(w6.setCell ⟨NS,3,none⟩ (.slice (some ⟨w6.1.size+1,0,none⟩) 1 1)).1.size=w6.1.size:=by simp
  generalize (w6.setCell ⟨NS,3,none⟩ (.slice (some ⟨w6.1.size+1,0,none⟩) 1 1))=V at *;have HBV:=hI (bal (bal (Below.refl V.1.size V) (exO pop (pT0,pT1) pn pv pg pl pc (.slice uq pk.length uc))) (exO pop (pT0,pT1) pn pv pg pl pc (.slice uq pk.length uc)));have HS8:=hI (HS7.o.below HBV.o);have HE8:=hI ((qQf.new pop (pT0,pT1) pn pv pg pl pc (.slice uq pk.length uc) V).below (bal (Below.refl _ _) (exO pop (pT0,pT1) pn pv pg pl pc (.slice uq pk.length uc))));have HLE8:=hI (qU.single (w:=V.alloc (exO pop (pT0,pT1) pn pv pg pl pc (.slice uq pk.length uc))) (ok:=fun g=>NS+1<=g) (p:=.mk pop (pT0,pT1) pn pv pg pl pc pk) (qU.mono (HLE7.o.below (bal (Below.refl V.1.size V) (exO pop (pT0,pT1) pn pv pg pl pc (.slice uq pk.length uc)))) (fun g hg=>by omega)) (by simp;omega));simp only[World.size_alloc,hszV,exO,exC,Ex.kids]at HE8 HLE8 HS8;have hsW:((V.alloc (.cells #[.string ⟨pop.toArray⟩, .int .i64 pT0, .bool pT1, .int .u64 pn, .int .i64 pv, .bool pg, .int .i64 pl, .int .i64 pc, .slice uq pk.length uc] 76)).alloc (.cells #[.string ⟨pop.toArray⟩, .int .i64 pT0, .bool pT1, .int .u64 pn, .int .i64 pv, .bool pg, .int .i64 pl, .int .i64 pc, .slice uq pk.length uc] 76)).1.size=w6.1.size+2:=by simp[hszV]
  clear s3 sf3 n0 n1 n2 n3 n4 n5 HS6 HS7 HLE HLE7 HB6 HBV HS5 hRN;generalize ((V.alloc _).alloc _)=W at *;obtain⟨n0,n1,n2,n3,n4,n5⟩:=HS8.o.nd.cells;have t0:=HE8.o.c1;have t1:=HE8.o.c2;obtain⟨g',off',e,hRN⟩:=HS8.o.ka.resolve_left (by simp);injection e with e;injection e with e1 e2;subst e1 e2;obtain⟨qb,nb,cb,hlb,hcb⟩:=hRN.2 1 (by simp);simp only[List.getElem_cons_succ,List.getElem_cons_zero]at hlb hcb;have⟨k0,k1,k2,k3,k4,k5,_⟩:=hcb.a;simp only[Nat.one_mul,Nat.add_zero]at k0 k1 k2 k3 k4 k5;have HXB:=hI (fun w' hw'=>exp_all b hb M.B M.L ⟨M.gs,M.own fs⟩ (.slice qb nb cb) (pT0,pT1) w' (EAt.below HS8.o.ea hw') (Nat.le_trans HS8.o.le hw'.size) (xZ.move (fun g hg hok=>⟨hok,hw'.block g hg⟩) _ _ hlb));obtain⟨bk,bx,bm,bln,bco,bks⟩:=b;simp only[qZ,qS,tyV,qQ.kind,qQ.text,qQ.num,qQ.line,qQ.col,qQ.kids,List.length]at *;clear hlb hcb hRN;refine wRg (S:=fun w'=>Below W.1.size W w') 10 ?_;refine wTk 0 31 (.pointer (some ⟨M.B,0,none⟩)) ?_ (bD W) ?_
  ·intro _ y;go_simp
  refine wTk 1 32 (.pointer (some ⟨w.1.size,5,none⟩)) ?_ (bD W) ?_
  ·intro _ y;go_simp
  refine wTk 2 33 (.slice (some ⟨g,off,none⟩) 2 c) ?_ (bD W) ?_
  ·intro _ y;have n5:=kP y n5;go_simp
  refine wTk 3 34 (.pointer (some ⟨g,off+6,none⟩)) ?_ (bD W) ?_
  ·intro _ y;go_simp
  refine wTk 4 35 (.agg #[.string ⟨bk.toArray⟩, .string ⟨bx.toArray⟩, .int .u64 bm, .int .i64 bln, .int .i64 bco, .slice qb nb cb]) ?_ (bD W) ?_
  ·intro _ y;obtain⟨k0,k1,k2,k3,k4,k5⟩:=kP6 y k0 k1 k2 k3 k4 k5;go_simp
  refine wTk 5 36 (.pointer (some ⟨w6.1.size,1,none⟩)) ?_ (bD W) ?_
  ·intro _ y;go_simp
  refine wTk 6 37 (.agg #[.int .i64 pT0, .bool pT1]) ?_ (bD W) ?_
  ·intro _ y;have t0:=kP y t0;have t1:=kP y t1;go_simp
  refine wOn 7 fun K hK=>?_
  go_simp;refine(HXB.o _ (Below.refl _ _).drew).mono ?_;rintro e w9 hX;rcases hX.cases with⟨p2,u,hp,rfl,⟨kv,rfl,hles⟩,hb9⟩ | ⟨l',c',code,hp,rfl,hb9⟩;rotate_left
  ·exact⟨rfl,(HS8.o.below (zF hb9)).bad (by rw[HP.o,HPp.o];simp only[CR.bind,Ex.ty];rw[hp])⟩
  have hb9:=zF hb9;have HS9:=hI (HS8.o.below hb9);have HLT:=hI (HLE8.o.below hb9);have HLX:=hI (hles.mono (ok':=fun g=>W.1.size<=g) (fun g hg=>hg));have HPx:=hI hp;obtain⟨xop,⟨xT0,xT1⟩,xn,xv,xg,xl,xc,xk⟩:=p2;obtain⟨vq,vc,rfl⟩:=hles.shape;have s4:=HS9.o.sb.c4;have sf4:=HS9.o.sb.f 4 nL;have hs9:=hb9.size;have hsz9:=HS9.o.sz;have hN9:¬NS=w9.1.size:=by omega
  have h9N:¬w9.1.size=NS:=by omega
  simp only[exV,Ex.kids]at *;refine kK hK hb9 ?_;clear hK K;refine wOn 8 fun K hK=>?_
  go_simp;refine kK hK (bal hb9 _) ?_;clear hK K;refine wOn 9 fun K hK=>?_
  go_simp;refine kK hK (bal hb9 _) ?_;clear hK K;refine wOn 10 fun K hK=>?_
  go_simp;refine kD hK ?_;clear hK K;refine wDn ?_ _;have HS10:=hI (HS9.o.setE (.slice (some ⟨w9.1.size,0,none⟩) 1 1));have HLT10:=hI (qU.setN (N:=NS) HLT.o (by omega) (o:=4) (.slice (some ⟨w9.1.size,0,none⟩) 1 1));have HLX10:=hI (qU.setN (N:=NS) HLX.o (by omega) (o:=4) (.slice (some ⟨w9.1.size,0,none⟩) 1 1));have hszU:(w9.setCell ⟨NS,4,none⟩ (.slice (some ⟨w9.1.size,0,none⟩) 1 1)).1.size=w9.1.size:=by simp
  have HQ:=hI (HP.o.trans (by rw[HPp.o];simp only[CR.bind,Ex.ty];rw[HPx.o]:_=.ok (.mk k ln co [.mk pop (pT0,pT1) pn pv pg pl pc pk] [.mk xop (xT0,xT1) xn xv xg xl xc xk] 0 [] [],M.own fs)));clear s4 sf4 n0 n1 n2 n3 n4 n5 k0 k1 k2 k3 k4 k5 t0 t1 HLT HLX HS9 HS8 HE8 HLE8 HXB hX hp hles HP HPp HPx;generalize (w9.setCell ⟨NS,4,none⟩ (.slice (some ⟨w9.1.size,0,none⟩) 1 1))=U at *;have HBU:=hI (bal (Below.refl U.1.size U) (exO xop (xT0,xT1) xn xv xg xl xc (.slice vq xk.length vc)));have HS11:=hI (HS10.o.below HBU.o);have HL1:=hI (qU.mono (HLT10.o.below HBU.o) (ok':=fun g=>w.1.size+2<=g) (fun g hg=>by omega));have HL2:=hI (qU.single (w:=U) (ok:=fun g=>w.1.size+2<=g) (p:=.mk xop (xT0,xT1) xn xv xg xl xc xk) (qU.mono HLX10.o (fun g hg=>by omega)) (show w.1.size+2<=U.1.size by omega));simp only[exO,exC,hszU]at HS11 HL1 HL2;clear HS10 HLT10 HLX10 HBU;generalize (U.alloc _)=Z at *;have⟨r0,r1,r2,r3,r4,r5,r6,r7,_⟩:=HS11.o.rt.a;have⟨rf0,rf1,rf2,rf3,rf4,rf5,rf6,rf7,_⟩:=HS11.o.rt.b;have⟨s0,s1,s2,s3,s4,s5,s6,s7,_⟩:=HS11.o.sb.a;have rl:=HS11.o.rt.lt;go_wp2
  exact bodyPost_ret (v:=sxV (.mk k ln co [.mk pop (pT0,pT1) pn pv pg pl pc pk] [.mk xop (xT0,xT1) xn xv xg xl xc xk] 0 [] []) ⟨.slice (some ⟨w6.1.size+1,0,none⟩) 1 1, .slice (some ⟨w9.1.size,0,none⟩) 1 1, .slice none 0 0, .slice none 0 0⟩) (by simp[results,results122,go_sem,sxV,r0,r1,r2,r3,r4,r5,r6,r7,rl]) rfl (HS11.o.fin HQ.o HL1.o HL2.o _ _ _ _ _ _ _ _)
theorem st_nondet(k x:List UInt8)(m ln co:Int)(ks:List qQ)(hkl:k.length<=1000000)(h1:(k == qP)=false)(h2:(k == qW)=true)(hks:∃ a,ks=[a]/\wfE a=true):qUB (.mk k x m ln co ks):=by
 intro M fs v w h hL hl;obtain⟨q,c,rfl,hc1,hc2,hK⟩:=hl.kids;have hbl:=bal (bal (Below.refl w.1.size w) (qB (.mk k x m ln co ks) (.slice q ks.length c))) (sxO [] 0 0 (.slice none 0 0) (.slice none 0 0) 0 (.slice none 0 0) (.slice none 0 0));have HBL:=hI hbl;have HN:=hI ((Bx.new (.mk k x m ln co ks) (.slice q ks.length c) w).below (bal (Below.refl _ _) (sxO [] 0 0 (.slice none 0 0) (.slice none 0 0) 0 (.slice none 0 0) (.slice none 0 0))));have HT:=hI (jO.new [] 0 0 (.slice none 0 0) (.slice none 0 0) 0 (.slice none 0 0) (.slice none 0 0) (w.alloc (qB (.mk k x m ln co ks) (.slice q ks.length c))));simp only[World.size_alloc]at HT;have HKT0:=hI (show jX ((w.alloc (qB (.mk k x m ln co ks) (.slice q ks.length c))).alloc (sxO [] 0 0 (.slice none 0 0) (.slice none 0 0) 0 (.slice none 0 0) (.slice none 0 0))) (w.1.size+1) 73 from by
  have:=jO.kind (op:=[]) (l:=0) (c:=0) (tv:=.slice none 0 0) (ev:=.slice none 0 0) (fn:=0) (hv:=.slice none 0 0) (lv:=.slice none 0 0) (w.alloc (qB (.mk k x m ln co ks) (.slice q ks.length c)));simpa using this)
 have HM:=hI (show M.at fs ((w.alloc (qB (.mk k x m ln co ks) (.slice q ks.length c))).alloc (sxO [] 0 0 (.slice none 0 0) (.slice none 0 0) 0 (.slice none 0 0) (.slice none 0 0)))from h.below hbl);have HM0:=hI h;have HLI:=hI hl;have hsz:((w.alloc (qB (.mk k x m ln co ks) (.slice q ks.length c))).alloc (sxO [] 0 0 (.slice none 0 0) (.slice none 0 0) 0 (.slice none 0 0) (.slice none 0 0))).1.size=w.1.size+2:=by simp
 have HSC:=hI (qVP M.gs (fs.map (·.h)) (fs.getD M.ci noF).h.t k x m ln co ks (M.own fs));have HK:=hI hK;have hF0:M.L<=w.1.size:=hL;clear h hl hK hbl;simp only[qZ,qB,sxO,qS,qQ.kind,qQ.text,qQ.num,qQ.line,qQ.col,qQ.kids]at *;go_enter func122,ntmps122
 go_wp2
 generalize ((w.alloc _).alloc _)=W at *;have HSZ:=hI hsz;clear hsz;obtain⟨n0,n1,n2,n3,n4,n5⟩:=HN.o.cells;refine qXG (fun a N=>(((((((((a.put (some 7) (.pointer (some ⟨w.1.size,0,none⟩))).put (some 8) (.string ⟨k.toArray⟩)).put (some 9) (.string ⟨k.toArray⟩)).put (some 10) (.pointer (some ⟨w.1.size,3,none⟩))).put (some 11) (.int .i64 ln)).put (some 12) (.pointer (some ⟨w.1.size,4,none⟩))).put (some 13) (.int .i64 co)).put (some 14) (.agg #[.string ⟨k.toArray⟩, .int .i64 ln, .int .i64 co, .slice none 0 0, .slice none 0 0, .int .i64 0, .slice none 0 0, .slice none 0 0])).put (some 5) (.pointer (some ⟨N,0,none⟩)))) (fun N w'=>StIn W k ln co N w') ?_ ?_
 ·refine wRg (S:=fun w'=>Below W.1.size W w') 99 ?_;refine wTk 0 7 (.pointer (some ⟨w.1.size,0,none⟩)) ?_ (bD W) ?_
  ·intro _ y;go_simp
  refine wTk 1 8 (.string ⟨k.toArray⟩) ?_ (bD W) ?_
  ·intro _ y;obtain⟨n0,n3,n4⟩:=kP3 y n0 n3 n4;go_simp
  refine wTk 3 10 (.pointer (some ⟨w.1.size,3,none⟩)) ?_ (bD W) ?_
  ·intro _ y;go_simp
  refine wTk 4 11 (.int .i64 ln) ?_ (bD W) ?_
  ·intro _ y;obtain⟨n0,n3,n4⟩:=kP3 y n0 n3 n4;go_simp
  refine wTk 5 12 (.pointer (some ⟨w.1.size,4,none⟩)) ?_ (bD W) ?_
  ·intro _ y;go_simp
  refine wTk 6 13 (.int .i64 co) ?_ (bD W) ?_
  ·intro _ y;obtain⟨n0,n3,n4⟩:=kP3 y n0 n3 n4;go_simp
  refine wE (i:=2) (j:=8) rfl rfl (by kernel_rfl) (by rfl) (by rfl) (fun K hK=>?_) (fun K hK=>?_)
  ·go_simp;refine(yP ⟨k.toArray⟩ _ (by simpa[ByteArray.size]using hkl)).mono ?_;rintro e w3 ⟨rfl,hb3⟩;have hb3:=zF hb3;refine kK hK hb3 ?_;clear hK K;refine wTk 7 14 (.agg #[.string ⟨k.toArray⟩, .int .i64 ln, .int .i64 co, .slice none 0 0, .slice none 0 0, .int .i64 0, .slice none 0 0, .slice none 0 0]) ?_ (hb3) ?_
   ·intro _ y;go_simp
   refine wOn 8 fun K hK=>?_
   go_simp;refine kK hK (bal hb3 _) ?_;clear hK K;refine wOn 9 fun K hK=>?_
   go_simp;refine kK hK (bal hb3 _) ?_;clear hK K;refine wDn ?_ _;exact⟨w3.1.size,by simp only[Act.put,pZa,pZb,pZc],bal hb3 (sxO k ln co (.slice none 0 0) (.slice none 0 0) 0 (.slice none 0 0) (.slice none 0 0)),jO.new k ln co (.slice none 0 0) (.slice none 0 0) 0 (.slice none 0 0) (.slice none 0 0) w3,jO.kind w3,hb3.size⟩
  ·go_simp;refine kK hK (bal (Below.refl W.1.size W).drew (.cells #[.string ⟨#[]⟩, .int .i64 0, .int .i64 0, .slice none 0 0, .slice none 0 0, .int .i64 0, .slice none 0 0, .slice none 0 0] 73)) ?_;clear hK K;refine wOn 2 fun K hK=>?_
   go_simp;refine(yP ⟨k.toArray⟩ _ (by simpa[ByteArray.size]using hkl)).mono ?_;rintro e w3 ⟨rfl,hb3⟩;have hb4:=(bal (Below.refl W.1.size W).drew (.cells #[.string ⟨#[]⟩, .int .i64 0, .int .i64 0, .slice none 0 0, .slice none 0 0, .int .i64 0, .slice none 0 0, .slice none 0 0] 73)).trans (hb3.mono (by simp));refine kK hK hb4 ?_;clear hK K;refine wTk 7 14 (.agg #[.string ⟨k.toArray⟩, .int .i64 ln, .int .i64 co, .slice none 0 0, .slice none 0 0, .int .i64 0, .slice none 0 0, .slice none 0 0]) ?_ (hb4) ?_
   ·intro _ y;go_simp
   have hb3:Below (W.alloc (sxO [] 0 0 (.slice none 0 0) (.slice none 0 0) 0 (.slice none 0 0) (.slice none 0 0))).1.size (W.alloc (sxO [] 0 0 (.slice none 0 0) (.slice none 0 0) 0 (.slice none 0 0) (.slice none 0 0))) w3:=⟨hb3.os,hb3.tape,hb3.output,hb3.size,hb3.block⟩;have sb:=(jO.new [] 0 0 (.slice none 0 0) (.slice none 0 0) 0 (.slice none 0 0) (.slice none 0 0) W).below hb3;have kd:jX w3 W.1.size 73:=(jO.kind (op:=[]) (l:=0) (c:=0) (tv:=.slice none 0 0) (ev:=.slice none 0 0) (fn:=0) (hv:=.slice none 0 0) (lv:=.slice none 0 0) W).turn (hb3.block _ (by simp));have⟨z0,z1,z2,z3,z4,z5,z6,z7,_⟩:=sb.a;have⟨zf0,zf1,zf2,zf3,zf4,zf5,zf6,zf7,_⟩:=sb.b;refine wOn 9 fun K hK=>?_
   go_simp;refine kK hK (set8 hb4 (Nat.le_refl _) _ _ _ _ _ _ _ _) ?_;clear hK K;refine wDn ?_ _;exact⟨W.1.size,by simp only[Act.put,pZa,pZb,pZc],set8 hb4 (Nat.le_refl _) _ _ _ _ _ _ _ _,sb.set8,(((((((kd.set _ _ _).set _ _ _).set _ _ _).set _ _ _).set _ _ _).set _ _ _).set _ _ _).set _ _ _,Nat.le_refl _⟩
 ·intro NS w5 hIq;obtain⟨hb5,hS5,hkd,hNS⟩:=hIq;try simp only[Act.put,pZa,pZb,pZc]
  have hsz:=HSZ.o;have HS5:=hI (show SIn M fs k x m ln co ks q c NS k (.slice none 0 0) (.slice none 0 0) 0 w w5 from
   have hW:=HBL.o.trans (hb5.mono (by omega))
   ⟨hW,⟨by omega,hS5.lt⟩,hF0,HM.o.below hb5,HN.o.below hb5,HT.o.below hb5,(show jX W (w.1.size+1) 73 from HKT0.o).turn (hb5.block _ (by omega)),hS5,hkd,HK.o.keep (hW.mono hL),xZ.move (fun g hg hok=>⟨hok,hW.block g hg⟩) _ _ HLI.o,Mem.vlt HM0.o⟩)
  clear hb5 hS5 hkd hsz hNS n0 n1 n2 n3 n4 n5 HM HN HT HKT0 HM0 HK HLI HBL HSZ;clear W;obtain⟨a,rfl,ha⟩:=hks;have HP:=hI (HSC.o.trans (by rw[h1,h2];rfl:_=(wJ ⟨M.gs,M.own fs⟩ a).bind fun p=>.ok (.mk k ln co [p] [] 0 [] [],M.own fs)));obtain⟨g,off,rfl,hRN⟩:=HS5.o.ka.resolve_left (by simp);have hgL:=hRN.1;obtain⟨qa,na,ca,hla,hca⟩:=hRN.2 0 (by simp);simp only[List.getElem_cons_zero]at hla hca;have⟨k0,k1,k2,k3,k4,k5,_⟩:=hca.a;simp only[Nat.zero_mul,Nat.add_zero]at k0 k1 k2 k3 k4 k5;obtain⟨ak,ax,am,aln,aco,aks⟩:=a;have HTG:=hI (qKO ak ax am aln aco aks ha M.B M.L ⟨M.gs,M.own fs⟩ (.slice qa na ca) w5 HS5.o.ea HS5.o.le hla);simp only[qZ,qS,qQ.kind,qQ.text,qQ.num,qQ.line,qQ.col,qQ.kids,List.length]at *;have hcc:(1:Int)<=(c:Nat):=by omega
  obtain⟨n0,n1,n2,n3,n4,n5⟩:=HS5.o.nd.cells;unfold qP at h1;unfold qW at h2;clear HSC;go_wp2_with fail
  refine(HTG.o).mono ?_;rintro e w6 hX;rcases hX.cases with⟨p,u,hp,rfl,⟨kv,rfl,hles⟩,hb6⟩ | ⟨l',c',code,hp,rfl,hb6⟩;rotate_left
  ·exact⟨rfl,(HS5.o.below hb6).bad (by rw[HP.o,hp];rfl)⟩
  have HS6:=hI (HS5.o.below hb6);have hsz5:=HS5.o.sz;have HLE:=hI hles;have hs6:=hb6.size;obtain⟨pop,⟨pT0,pT1⟩,pn,pv,pg,pl,pc,pk⟩:=p;have HQ:=hI (HP.o.trans (by rw[hp];rfl:_=.ok (.mk k ln co [.mk pop (pT0,pT1) pn pv pg pl pc pk] [] 0 [] [],M.own fs)));obtain⟨uq,uc,rfl⟩:=hles.shape;obtain⟨n0,n1,n2,n3,n4,n5⟩:=HS6.o.nd.cells;have⟨r0,r1,r2,r3,r4,r5,r6,r7,_⟩:=HS6.o.rt.a;have⟨rf0,rf1,rf2,rf3,rf4,rf5,rf6,rf7,_⟩:=HS6.o.rt.b;have⟨s0,s1,s2,s3,s4,s5,s6,s7,_⟩:=HS6.o.sb.a;have rl:=HS6.o.rt.lt;have sf3:=HS6.o.sb.f 3 nL;have hsz6:=HS6.o.sz;have hNw:¬NS=w6.1.size:=by omega
  have hwn:¬w6.1.size=NS:=by omega
  have hNr:¬NS=w.1.size+1:=by omega
  have hrN:¬w.1.size+1=NS:=by omega
  have hrw:¬w.1.size+1=w6.1.size:=by omega
  have hwr:¬w6.1.size=w.1.size+1:=by omega
  clear hX hp hles hb6 HTG k0 k1 k2 k3 k4 k5 hla hca;simp only[exV,Ex.kids]at *;have HS7:=hI (HS6.o.setT (.slice (some ⟨w6.1.size,0,none⟩) 1 1));have HLE7:=hI (qU.setN (N:=NS) HLE.o hsz5.2 (o:=3) (.slice (some ⟨w6.1.size,0,none⟩) 1 1));have hszV:(w6.setCell ⟨NS,3,none⟩ (.slice (some ⟨w6.1.size,0,none⟩) 1 1)).1.size=w6.1.size:=by simp
  have HBV:=hI (bal (Below.refl (w6.setCell ⟨NS,3,none⟩ (.slice (some ⟨w6.1.size,0,none⟩) 1 1)).1.size (w6.setCell ⟨NS,3,none⟩ (.slice (some ⟨w6.1.size,0,none⟩) 1 1))) (exO pop (pT0,pT1) pn pv pg pl pc (.slice uq pk.length uc)));have HS11:=hI (HS7.o.below HBV.o);have HL1:=hI (qU.single (ok:=fun g=>w.1.size+2<=g) (p:=.mk pop (pT0,pT1) pn pv pg pl pc pk) (qU.mono HLE7.o (fun g hg=>by omega)) (show w.1.size+2<=(w6.setCell ⟨NS,3,none⟩ (.slice (some ⟨w6.1.size,0,none⟩) 1 1)).1.size by rw[hszV];omega));simp only[exO,exC,hszV]at HS11 HL1;go_wp2
  refine bodyPost_ret (v:=sxV (.mk k ln co [.mk pop (pT0,pT1) pn pv pg pl pc pk] [] 0 [] []) ⟨.slice (some ⟨w6.1.size,0,none⟩) 1 1, .slice none 0 0, .slice none 0 0, .slice none 0 0⟩) (by simp[results,results122,go_sem,sxV,r0,r1,r2,r3,r4,r5,r6,r7,rl]) rfl ?_;have HF:=hI (HS11.o.fin HQ.o HL1.o (qU.nil _ _));rw[<-comm8 _ _ _ (by rw[hszV];omega)];exact HF.o _ _ _ _ _ _ _ _
theorem qWK{fs:List FnM}{t:qQ}{hd:kI}{i:Nat}(h:wI (fs.map (fun f=>f.h)) t=.ok (hd,i)):∃ hi:i < fs.length,hd=fs[i].h/\t.kids.length=fs[i].h.params.length:=by
 unfold wI at h;cases hl:qQN t.text 0 (fs.map (·.h))with
 | none=>rw[hl]at h;cases h
 | some r =>
  obtain⟨h',i'⟩:=r;rw[hl]at h;obtain⟨e1,e2,hiL,rfl⟩:=qJK hl;have hi:i' < fs.length:=by simpa using hiL
  by_cases hn:t.kids.length=(fs.map (fun f:FnM=>f.h))[i'].params.length
  ·simp only[jQ,hn,decide_true,if_true,CR.bind]at h;injection h with h;injection h with ha hb;subst hb;exact⟨hi,by rw[<-ha];simp,by simpa using hn⟩
  ·simp only[jQ,hn,decide_false,CR.bind]at h;cases h
theorem st_call(k x:List UInt8)(m ln co:Int)(ks:List qQ)(hkl:k.length<=1000000)(h1:(k == qP)=false)(h2:(k == qW)=false)(h3:(k == zW)=true)(hks:qZV ks=true/\ks.length<=1000000/\x.length<=1000000):qUB (.mk k x m ln co ks):=by
 intro M fs v w h hL hl;obtain⟨q,c,rfl,hc1,hc2,hK⟩:=hl.kids;have hbl:=bal (bal (Below.refl w.1.size w) (qB (.mk k x m ln co ks) (.slice q ks.length c))) (sxO [] 0 0 (.slice none 0 0) (.slice none 0 0) 0 (.slice none 0 0) (.slice none 0 0));have HBL:=hI hbl;have HN:=hI ((Bx.new (.mk k x m ln co ks) (.slice q ks.length c) w).below (bal (Below.refl _ _) (sxO [] 0 0 (.slice none 0 0) (.slice none 0 0) 0 (.slice none 0 0) (.slice none 0 0))));have HT:=hI (jO.new [] 0 0 (.slice none 0 0) (.slice none 0 0) 0 (.slice none 0 0) (.slice none 0 0) (w.alloc (qB (.mk k x m ln co ks) (.slice q ks.length c))));simp only[World.size_alloc]at HT;have HKT0:=hI (show jX ((w.alloc (qB (.mk k x m ln co ks) (.slice q ks.length c))).alloc (sxO [] 0 0 (.slice none 0 0) (.slice none 0 0) 0 (.slice none 0 0) (.slice none 0 0))) (w.1.size+1) 73 from by
  have:=jO.kind (op:=[]) (l:=0) (c:=0) (tv:=.slice none 0 0) (ev:=.slice none 0 0) (fn:=0) (hv:=.slice none 0 0) (lv:=.slice none 0 0) (w.alloc (qB (.mk k x m ln co ks) (.slice q ks.length c)));simpa using this)
 have HM:=hI (show M.at fs ((w.alloc (qB (.mk k x m ln co ks) (.slice q ks.length c))).alloc (sxO [] 0 0 (.slice none 0 0) (.slice none 0 0) 0 (.slice none 0 0) (.slice none 0 0)))from h.below hbl);have HM0:=hI h;have HLI:=hI hl;have hsz:((w.alloc (qB (.mk k x m ln co ks) (.slice q ks.length c))).alloc (sxO [] 0 0 (.slice none 0 0) (.slice none 0 0) 0 (.slice none 0 0) (.slice none 0 0))).1.size=w.1.size+2:=by simp
 have HSC:=hI (qVP M.gs (fs.map (·.h)) (fs.getD M.ci noF).h.t k x m ln co ks (M.own fs));have HK:=hI hK;have hF0:M.L<=w.1.size:=hL;clear h hl hK hbl;simp only[qZ,qB,sxO,qS,qQ.kind,qQ.text,qQ.num,qQ.line,qQ.col,qQ.kids]at *;go_enter func122,ntmps122
 go_wp2
 generalize ((w.alloc _).alloc _)=W at *;have HSZ:=hI hsz;clear hsz;obtain⟨n0,n1,n2,n3,n4,n5⟩:=HN.o.cells;refine qXG (fun a N=>(((((((((a.put (some 7) (.pointer (some ⟨w.1.size,0,none⟩))).put (some 8) (.string ⟨k.toArray⟩)).put (some 9) (.string ⟨k.toArray⟩)).put (some 10) (.pointer (some ⟨w.1.size,3,none⟩))).put (some 11) (.int .i64 ln)).put (some 12) (.pointer (some ⟨w.1.size,4,none⟩))).put (some 13) (.int .i64 co)).put (some 14) (.agg #[.string ⟨k.toArray⟩, .int .i64 ln, .int .i64 co, .slice none 0 0, .slice none 0 0, .int .i64 0, .slice none 0 0, .slice none 0 0])).put (some 5) (.pointer (some ⟨N,0,none⟩)))) (fun N w'=>StIn W k ln co N w') ?_ ?_
 ·refine wRg (S:=fun w'=>Below W.1.size W w') 99 ?_;refine wTk 0 7 (.pointer (some ⟨w.1.size,0,none⟩)) ?_ (bD W) ?_
  ·intro _ y;go_simp
  refine wTk 1 8 (.string ⟨k.toArray⟩) ?_ (bD W) ?_
  ·intro _ y;obtain⟨n0,n3,n4⟩:=kP3 y n0 n3 n4;go_simp
  refine wTk 3 10 (.pointer (some ⟨w.1.size,3,none⟩)) ?_ (bD W) ?_
  ·intro _ y;go_simp
  refine wTk 4 11 (.int .i64 ln) ?_ (bD W) ?_
  ·intro _ y;obtain⟨n0,n3,n4⟩:=kP3 y n0 n3 n4;go_simp
  refine wTk 5 12 (.pointer (some ⟨w.1.size,4,none⟩)) ?_ (bD W) ?_
  ·intro _ y;go_simp
  refine wTk 6 13 (.int .i64 co) ?_ (bD W) ?_
  ·intro _ y;obtain⟨n0,n3,n4⟩:=kP3 y n0 n3 n4;go_simp
  refine wE (i:=2) (j:=8) rfl rfl (by kernel_rfl) (by rfl) (by rfl) (fun K hK=>?_) (fun K hK=>?_)
  ·go_simp;refine(yP ⟨k.toArray⟩ _ (by simpa[ByteArray.size]using hkl)).mono ?_;rintro e w3 ⟨rfl,hb3⟩;have hb3:=zF hb3;refine kK hK hb3 ?_;clear hK K;refine wTk 7 14 (.agg #[.string ⟨k.toArray⟩, .int .i64 ln, .int .i64 co, .slice none 0 0, .slice none 0 0, .int .i64 0, .slice none 0 0, .slice none 0 0]) ?_ (hb3) ?_
   ·intro _ y;go_simp
   refine wOn 8 fun K hK=>?_
   go_simp;refine kK hK (bal hb3 _) ?_;clear hK K;refine wOn 9 fun K hK=>?_
   go_simp;refine kK hK (bal hb3 _) ?_;clear hK K;refine wDn ?_ _;exact⟨w3.1.size,by simp only[Act.put,pZa,pZb,pZc],bal hb3 (sxO k ln co (.slice none 0 0) (.slice none 0 0) 0 (.slice none 0 0) (.slice none 0 0)),jO.new k ln co (.slice none 0 0) (.slice none 0 0) 0 (.slice none 0 0) (.slice none 0 0) w3,jO.kind w3,hb3.size⟩
  ·go_simp;refine kK hK (bal (Below.refl W.1.size W).drew (.cells #[.string ⟨#[]⟩, .int .i64 0, .int .i64 0, .slice none 0 0, .slice none 0 0, .int .i64 0, .slice none 0 0, .slice none 0 0] 73)) ?_;clear hK K;refine wOn 2 fun K hK=>?_
   go_simp;refine(yP ⟨k.toArray⟩ _ (by simpa[ByteArray.size]using hkl)).mono ?_;rintro e w3 ⟨rfl,hb3⟩;have hb4:=(bal (Below.refl W.1.size W).drew (.cells #[.string ⟨#[]⟩, .int .i64 0, .int .i64 0, .slice none 0 0, .slice none 0 0, .int .i64 0, .slice none 0 0, .slice none 0 0] 73)).trans (hb3.mono (by simp));refine kK hK hb4 ?_;clear hK K;refine wTk 7 14 (.agg #[.string ⟨k.toArray⟩, .int .i64 ln, .int .i64 co, .slice none 0 0, .slice none 0 0, .int .i64 0, .slice none 0 0, .slice none 0 0]) ?_ (hb4) ?_
   ·intro _ y;go_simp
   have hb3:Below (W.alloc (sxO [] 0 0 (.slice none 0 0) (.slice none 0 0) 0 (.slice none 0 0) (.slice none 0 0))).1.size (W.alloc (sxO [] 0 0 (.slice none 0 0) (.slice none 0 0) 0 (.slice none 0 0) (.slice none 0 0))) w3:=⟨hb3.os,hb3.tape,hb3.output,hb3.size,hb3.block⟩;have sb:=(jO.new [] 0 0 (.slice none 0 0) (.slice none 0 0) 0 (.slice none 0 0) (.slice none 0 0) W).below hb3;have kd:jX w3 W.1.size 73:=(jO.kind (op:=[]) (l:=0) (c:=0) (tv:=.slice none 0 0) (ev:=.slice none 0 0) (fn:=0) (hv:=.slice none 0 0) (lv:=.slice none 0 0) W).turn (hb3.block _ (by simp));have⟨z0,z1,z2,z3,z4,z5,z6,z7,_⟩:=sb.a;have⟨zf0,zf1,zf2,zf3,zf4,zf5,zf6,zf7,_⟩:=sb.b;refine wOn 9 fun K hK=>?_
   go_simp;refine kK hK (set8 hb4 (Nat.le_refl _) _ _ _ _ _ _ _ _) ?_;clear hK K;refine wDn ?_ _;exact⟨W.1.size,by simp only[Act.put,pZa,pZb,pZc],set8 hb4 (Nat.le_refl _) _ _ _ _ _ _ _ _,sb.set8,(((((((kd.set _ _ _).set _ _ _).set _ _ _).set _ _ _).set _ _ _).set _ _ _).set _ _ _).set _ _ _,Nat.le_refl _⟩
 ·intro NS w5 hIq;obtain⟨hb5,hS5,hkd,hNS⟩:=hIq;try simp only[Act.put,pZa,pZb,pZc]
  have hsz:=HSZ.o;have HS5:=hI (show SIn M fs k x m ln co ks q c NS k (.slice none 0 0) (.slice none 0 0) 0 w w5 from
   have hW:=HBL.o.trans (hb5.mono (by omega))
   ⟨hW,⟨by omega,hS5.lt⟩,hF0,HM.o.below hb5,HN.o.below hb5,HT.o.below hb5,(show jX W (w.1.size+1) 73 from HKT0.o).turn (hb5.block _ (by omega)),hS5,hkd,HK.o.keep (hW.mono hL),xZ.move (fun g hg hok=>⟨hok,hW.block g hg⟩) _ _ HLI.o,Mem.vlt HM0.o⟩)
  clear hb5 hS5 hkd hsz hNS n0 n1 n2 n3 n4 n5 HM HN HT HKT0 HM0 HK HLI HBL HSZ;clear W;obtain⟨hwk,hkl2,hxl⟩:=hks;have HP:=hI (HSC.o.trans (by rw[h1,h2,h3];rfl:_=(wI (fs.map (·.h)) (.mk k x m ln co ks)).bind fun h=>(wM ⟨M.gs,M.own fs⟩ ks h.1.params).bind fun es=>.ok (.mk k ln co [] es h.2 [] [],M.own fs)));have HCD:=hI (qWL M.B M.gs fs M.ci (.mk k x m ln co ks) (.slice q ks.length c) w5 HS5.o.ra hxl ⟨_,_,rfl⟩ hkl2);have HWK:=hI hwk;simp only[qZ,qS,qQ.kind,qQ.text,qQ.num,qQ.line,qQ.col,qQ.kids]at HCD;obtain⟨n0,n1,n2,n3,n4,n5⟩:=HS5.o.nd.cells;unfold qP at h1;unfold qW at h2;unfold zW at h3;clear HSC hwk;go_wp2_with fail
  refine(HCD.o).mono ?_;rintro e w6 hX;rcases hX.cases with⟨r,u,hp,rfl,rfl,hb6⟩ | ⟨l',c',code,hp,rfl,hb6⟩;rotate_left
  ·exact⟨rfl,(HS5.o.below hb6).bad (by rw[HP.o,hp];rfl)⟩
  obtain⟨hd,i⟩:=r;obtain⟨hi,rfl,hln⟩:=qWK hp;have HS6:=hI (HS5.o.below hb6);have HI:=hI hi;have HLN:=hI hln;have HQ:=hI (HP.o.trans (by rw[hp];rfl:_=(wM ⟨M.gs,M.own fs⟩ ks fs[i].h.params).bind fun es=>.ok (.mk k ln co [] es i [] [],M.own fs)));have hsz5:=HS5.o.sz;have hs6:=hb6.size;obtain⟨n0,n1,n2,n3,n4,n5⟩:=HS6.o.nd.cells;have s5:=HS6.o.sb.c5;have sf5:=HS6.o.sb.f 5 nL;have hsz6:=HS6.o.sz;have hNw:¬NS=w.1.size:=by omega
  have hwN:¬w.1.size=NS:=by omega
  clear hX hp hb6 HCD hln;go_wp2_with fail
  have HS7:=hI (HS6.o.setF i);have hszV:(w6.setCell ⟨NS,5,none⟩ (.int .i64 i)).1.size=w6.1.size:=by simp
  generalize (w6.setCell ⟨NS,5,none⟩ (.int .i64 i))=V at *;refine(qPg M.B M.L M.gs fs M.ci i ks q c V HWK.o HS7.o.ra hi HLN.o HS7.o.le HS7.o.ka).mono ?_;rintro e w8 hX;rcases hX.cases with⟨es,u,hp,rfl,hles,hb8⟩ | ⟨l',c',code,hp,rfl,hb8⟩;rotate_left
  ·exact⟨rfl,(HS7.o.below hb8).bad (HQ.o.trans (congrArg (fun z:CR (List Ex)=>z.bind fun es=>CR.ok (Sx.mk k ln co [] es i [] [],M.own fs)) hp))⟩
  have HS8:=hI (HS7.o.below hb8);have HL8:=hI (hles.mono (ok':=fun g=>NS+1<=g) (fun g hg=>by omega));have HF:=hI (HQ.o.trans (congrArg (fun z:CR (List Ex)=>z.bind fun es=>CR.ok (Sx.mk k ln co [] es i [] [],M.own fs)) hp:_=.ok (.mk k ln co [] es i [] [],M.own fs)));obtain⟨uq,uc,rfl⟩:=hles.shape;have hs8:=hb8.size;have HS9:=hI (HS8.o.setE (.slice uq es.length uc));have HL9:=hI ((qU.setN (N:=NS) HL8.o (by omega) (o:=4) (.slice uq es.length uc)).mono (ok':=fun g=>w.1.size+2<=g) (fun g hg=>by omega));have s4:=HS8.o.sb.c4;have sf4:=HS8.o.sb.f 4 nL;have sz8:=HS8.o.sz;clear n0 n1 n2 n3 n4 n5 s5 sf5 hX hp hles hb8 HS6 HS7;have⟨r0,r1,r2,r3,r4,r5,r6,r7,_⟩:=HS8.o.rt.a;have⟨rf0,rf1,rf2,rf3,rf4,rf5,rf6,rf7,_⟩:=HS8.o.rt.b;have⟨s0,s1,s2,s3,s4,s5,s6,s7,_⟩:=HS8.o.sb.a;have rl:=HS8.o.rt.lt;have hNr:¬NS=w.1.size+1:=by omega
  have hrN:¬w.1.size+1=NS:=by omega
  go_wp2
  exact bodyPost_ret (v:=sxV (.mk k ln co [] es i [] []) ⟨.slice none 0 0, .slice uq es.length uc, .slice none 0 0, .slice none 0 0⟩) (by simp[results,results122,go_sem,sxV,r0,r1,r2,r3,r4,r5,r6,r7,rl, *]) rfl (HS9.o.fin HF.o (qU.nil _ _) HL9.o _ _ _ _ _ _ _ _)
theorem qVq{P:Program}{ops:Array Oper}{Q:Exit->Act->World->Prop}{md:Region.Mode}{S:World->Prop}{tail:Nat->Bool}{i j l:Nat}{o o' o2:Oper}{fuel:Nat}{listed:Array Bool}{a:Act}{w:World}(hi:ops[i]? = some o)(hj:ops[j]? = some o')(hl:ops[l]? = some o2)(hr:Region.ready md ops listed=[i,j,l])(hw:Region.wanted o (yielded ops a.tmps)=true)(hw':Region.wanted o' (yielded ops a.tmps)=true)(hw2:Region.wanted o2 (yielded ops a.tmps)=true)
 (h:∀ K:Act->World->Prop,Shut (∀ a' w',(tail i=false->S w')->vR P md ops Q S tail fuel (listed.setIfInBounds i true) a' w'->K a' w')->o.wp P a w K Q)
 (h':∀ K:Act->World->Prop,Shut (∀ a' w',(tail j=false->S w')->vR P md ops Q S tail fuel (listed.setIfInBounds j true) a' w'->K a' w')->o'.wp P a w K Q)
 (h2:∀ K:Act->World->Prop,Shut (∀ a' w',(tail l=false->S w')->vR P md ops Q S tail fuel (listed.setIfInBounds l true) a' w'->K a' w')->o2.wp P a w K Q):vR P md ops Q S tail (fuel+1) listed a w:=by
 refine⟨fun h0=>(by rw[hr]at h0;cases h0),fun k hk=>?_⟩;rw[hr]at hk;have hk':k=i\/k=j\/k=l:=by simpa using hk
 rcases hk' with rfl | rfl | rfl
 ·unfold wpOp;simp only[hi,hw,if_true];exact .inl (h _ (fun a' w' h1 h2=>⟨h1,h2⟩))
 ·unfold wpOp;simp only[hj,hw',if_true];exact .inl (h' _ (fun a' w' h1 h2=>⟨h1,h2⟩))
 ·unfold wpOp;simp only[hl,hw2,if_true];exact .inl (h2 _ (fun a' w' h1 h2=>⟨h1,h2⟩))
def CutX{X:Type}(F:Act->X->Act)(a:Act)(I:X->World->Prop)(J:List PanicEntry->World->Prop)(e:Exit)(a':Act)(w':World):Prop :=
 match e with
 | .normal=>∃ x,a'=F a x/\I x w'
 | .panic c=>a'.defers=[]/\J c w'
 | _=>False
theorem wp_cutX{P:Program}{c:Code}{Q:Exit->Act->World->Prop}{a:Act}{w:World}{X:Type}(F:Act->X->Act)(I:X->World->Prop)(J:List PanicEntry->World->Prop)(h:c.wp P (CutX F a I J) a w)(k:∀ x w',I x w'->Q .normal (F a x) w')(kp:∀ ch a' w',a'.defers=[]->J ch w'->Q (.panic ch) a' w'):c.wp P Q a w:=by
 refine wp_mono h ?_;intro e a' w' hq;cases e with
 | normal =>
  obtain⟨N,rfl,hIq⟩:=hq;exact k N w' hIq
 | exit id=>exact hq.elim
 | goto l=>exact hq.elim
 | ret=>exact hq.elim
 | panic ch=>exact kp _ _ _ hq.1 hq.2
 | outgrown=>exact hq.elim
theorem qPs(a b:Int)(c d:Bool):decide (((a,c):Ty)=(b,d))=(decide (a=b) && decide (c=d)):=by
 simp[Prod.mk.injEq]
def qVk(E:Env)(fs:List kI)(a b:qQ):CR (Ex×Nat×List Ex) :=
 (wJ E a).bind fun p=>(wI fs b).bind fun h=>(jQ (decide (h.1.t=p.ty)) b 41).bind fun _=>(wM E b.kids h.1.params).bind fun es=>.ok (p,h.2,es)
structure QIn(M:Mem)(fs:List FnM)(k x:List UInt8)(m ln co:Int)(ks:List qQ)(q:Option Addr)(cp NS:Nat)(op:List UInt8)(sl sc:Int)(tv ev:Value)(fn:Int)(w wr:World):Prop where
 gr:w.grownBy wr (some NS)
 mm:M.at fs wr
 nd:Bx w.1.size (.mk k x m ln co ks) (.slice q ks.length cp) wr
 sb:jO NS op sl sc tv ev fn (.slice none 0 0) (.slice none 0 0) wr
 kn:jX wr NS 73
 ka:yD M.L wr ks q
 hN:M.L<=NS/\NS < w.1.size
 hL:M.L<=w.1.size
 sz:w.1.size+1<=wr.1.size
section
variable {M:Mem} {fs:List FnM} {k x:List UInt8} {m ln co:Int} {ks:List qQ} {q:Option Addr} {cp NS:Nat} {op:List UInt8} {sl sc:Int} {tv ev:Value} {fn:Int} {w wr wr':World}
theorem QIn.below(h:QIn M fs k x m ln co ks q cp NS op sl sc tv ev fn w wr)(hb:Below wr.1.size wr wr'):QIn M fs k x m ln co ks q cp NS op sl sc tv ev fn w wr' :=
 have s:=h.sz;have hL:=h.hL
 ⟨qR h.gr (zV hb _),h.mm.below hb,h.nd.below hb,h.sb.below hb,h.kn.turn (hb.block _ h.kn.lt),h.ka.keep (hb.mono (by omega)),h.hN,h.hL,Nat.le_trans h.sz hb.size⟩
theorem QIn.store{op':List UInt8}{tv' ev':Value}{fn':Int}(h:QIn M fs k x m ln co ks q cp NS op sl sc tv ev fn w wr)(o:Nat)(u:Value)(hs:jO NS op' sl sc tv' ev' fn' (.slice none 0 0) (.slice none 0 0) (wr.setCell ⟨NS,o,none⟩ u)):QIn M fs k x m ln co ks q cp NS op' sl sc tv' ev' fn' w (wr.setCell ⟨NS,o,none⟩ u) :=
 have s:=h.hN
 ⟨vC h.gr u,Mem.setS h.mm h.kn s.1 o u,(hS wr ⟨NS,o,none⟩ u _ (by show w.1.size≠NS;omega)).trans h.nd,hs,h.kn.set _ _ _,h.ka.keep (jR (Below.refl _ _) s.1 u),h.hN,h.hL,by simpa using h.sz⟩
theorem QIn.setT(h:QIn M fs k x m ln co ks q cp NS op sl sc tv ev fn w wr)(u:Value):QIn M fs k x m ln co ks q cp NS op sl sc u ev fn w (wr.setCell ⟨NS,3,none⟩ u):=h.store 3 u (h.sb.setT u)
theorem QIn.setE(h:QIn M fs k x m ln co ks q cp NS op sl sc tv ev fn w wr)(u:Value):QIn M fs k x m ln co ks q cp NS op sl sc tv u fn w (wr.setCell ⟨NS,4,none⟩ u):=h.store 4 u (h.sb.setE u)
theorem QIn.setF(h:QIn M fs k x m ln co ks q cp NS op sl sc tv ev fn w wr)(n:Int):QIn M fs k x m ln co ks q cp NS op sl sc tv ev n w (wr.setCell ⟨NS,5,none⟩ (.int .i64 n)):=h.store 5 _ (h.sb.setF n)
theorem QIn.ra(h:QIn M fs k x m ln co ks q cp NS op sl sc tv ev fn w wr):RAt M.B M.gs fs M.ci wr:=⟨_,_,_,_,_,_,_,_,h.mm.rd⟩
theorem QIn.ea(h:QIn M fs k x m ln co ks q cp NS op sl sc tv ev fn w wr):EAt M.B ⟨M.gs,M.own fs⟩ wr:=h.ra.en
theorem QIn.le(h:QIn M fs k x m ln co ks q cp NS op sl sc tv ev fn w wr):M.L<=wr.1.size:=by have:=h.hL;have:=h.sz;omega
theorem QIn.bad{α:Type}{p:CR α}{R:α->World->Prop}{l' c' code:Int}(h:QIn M fs k x m ln co ks q cp NS op sl sc tv ev fn w wr)(hp:p=.bad l' c' code):qQY NS p R w (.panicked [{ v:=xO l' c' code,recovered:=false }]) wr:=qQY.badI hp h.gr
theorem QIn.new(h:M.at fs w)(hL:M.L<=w.1.size)(hK:yD M.L w ks q)(hSq:jO NS op sl sc tv ev fn (.slice none 0 0) (.slice none 0 0) w)(hk:jX w NS 73)(hN:M.L<=NS)(y:List UInt8) :
 QIn M fs k x m ln co ks q cp NS y sl sc tv ev fn w ((w.setCell ⟨NS,0,none⟩ (.string ⟨y.toArray⟩)).alloc (qB (.mk k x m ln co ks) (.slice q ks.length cp))):=by
 have hlt:=hk.lt;have r:=Below.refl (w.setCell ⟨NS,0,none⟩ (.string ⟨y.toArray⟩)).1.size (w.setCell ⟨NS,0,none⟩ (.string ⟨y.toArray⟩));have hb:=bal r (qB (.mk k x m ln co ks) (.slice q ks.length cp));have hn:=Bx.new (.mk k x m ln co ks) (.slice q ks.length cp) (w.setCell ⟨NS,0,none⟩ (.string ⟨y.toArray⟩));have hsz:(w.setCell ⟨NS,0,none⟩ (.string ⟨y.toArray⟩)).1.size=w.1.size:=by simp
 rw[hsz]at hn;exact⟨zY (jM _ _ _ _) _,(Mem.setS h hk hN 0 _).below hb,hn,(hSq.setO y).below hb,(hk.set _ _ _).turn (hb.block _ (by rw[hsz];exact hlt)),(hK.keep (jR (Below.refl _ _) hN _)).keep (hb.mono (by rw[hsz];exact hL)),⟨hN,hlt⟩,hL,by simp⟩
end
def EBx(N:Nat)(e:Ex)(kv:Value)(w:World):Prop:=match e with | .mk op T n va g l c _=>qQf N op T n va g l c kv w
theorem qUd(w:World)(N b:Nat)(h:b≠N)(u0 u1 u2 u3 u4 u5 u6 u7 u8:Value):(((((((((w.setCell ⟨N,0,none⟩ u0).setCell ⟨N,1,none⟩ u1).setCell ⟨N,2,none⟩ u2).setCell ⟨N,3,none⟩ u3).setCell ⟨N,4,none⟩ u4).setCell ⟨N,5,none⟩ u5).setCell ⟨N,6,none⟩ u6).setCell ⟨N,7,none⟩ u7).setCell ⟨N,8,none⟩ u8).1[b]? = w.1[b]?:=by
 rw[hS _ _ _ _ h,qJI _ _ _ h]
theorem qZE(w:World)(N b:Nat)(h:b≠N)(u0 u1 u2 u3 u4 u5:Value):((((((w.setCell ⟨N,0,none⟩ u0).setCell ⟨N,1,none⟩ u1).setCell ⟨N,2,none⟩ u2).setCell ⟨N,3,none⟩ u3).setCell ⟨N,4,none⟩ u4).setCell ⟨N,5,none⟩ u5).1[b]? = w.1[b]?:=by
 rw[hS _ _ _ _ h,hS _ _ _ _ h,hS _ _ _ _ h,hS _ _ _ _ h,hS _ _ _ _ h,hS _ _ _ _ h]
theorem vN{b N:Nat}{a w:World}(h:Below b a w)(hN:b<=N)(u0 u1 u2 u3 u4 u5:Value):Below b a ((((((w.setCell ⟨N,0,none⟩ u0).setCell ⟨N,1,none⟩ u1).setCell ⟨N,2,none⟩ u2).setCell ⟨N,3,none⟩ u3).setCell ⟨N,4,none⟩ u4).setCell ⟨N,5,none⟩ u5) :=
 jR (jR (jR (jR (jR (jR h hN _) hN _) hN _) hN _) hN _) hN _
theorem zI.turn{b:Nat}{k x:List UInt8}{n ln c:Int}{v:Value}{w w':World}(h:zI b k x n ln c v w)(hb:w'.1[b]? = w.1[b]?):zI b k x n ln c v w' :=
 have e:=fun {o:Nat} {u:Value} (e:w.cell? ⟨b,o,none⟩=some u)=>(cB (w:=w) (w':=w') (a:=⟨b,o,none⟩) hb).trans e
 ⟨e h.c0,e h.c1,e h.c2,e h.c3,e h.c4,e h.c5,fun j hj=>(World.frozen?_of_block hb).trans (h.f j hj)⟩
def RBox(E:Env)(a:qQ)(bk bx:List UInt8)(bm bl bc:Int)(bv:Value)(W:World)(x:Nat×Nat×Ex×Value)(w':World):Prop :=
 Below W.1.size W w'/\wJ E a=.ok x.2.2.1/\EBx x.1 x.2.2.1 x.2.2.2 w'/\zI x.2.1 bk bx bm bl bc bv w'/\qU w' (fun g=>W.1.size<=g) x.2.2.1.kids x.2.2.2/\W.1.size<=x.1/\W.1.size<=x.2.1/\x.1≠x.2.1
theorem result_any(M:Mem)(fs:List FnM)(NS:Nat)(k x:List UInt8)(m ln co:Int)(a b:qQ)(q:Option Addr)(cp:Nat)(op:List UInt8)(sl sc:Int)(tv ev:Value)(fn:Int)(w:World)
 (h:M.at fs w) (hL:M.L<=w.1.size) (hK:yD M.L w [a,b] q) (hcp:2<=cp) (ha:wfE a=true) (hbx:b.text.length<=1000000) (hbw:qZV b.kids=true) (hbk:b.kids.length<=1000000)
 (hSq:jO NS op sl sc tv ev fn (.slice none 0 0) (.slice none 0 0) w) (hk:jX w NS 73) (hN:M.L<=NS) :
 Calls prog 137 #[.pointer (some ⟨M.B,0,none⟩),qZ (.mk k x m ln co [a,b]) (.slice q 2 cp), .pointer (some ⟨NS,0,none⟩)] w
  (qQY NS (qVk ⟨M.gs,M.own fs⟩ (fs.map (·.h)) a b) (fun r w'=>∃ tv' ev',jO NS zW sl sc tv' ev' r.2.1 (.slice none 0 0) (.slice none 0 0) w'/\qU w' (fun g=>w.1.size<=g) [r.1] tv'/\qU w' (fun g=>w.1.size<=g) r.2.2 ev') w):=by
 have HQ0:=hI (QIn.new (k:=k) (x:=x) (m:=m) (ln:=ln) (co:=co) (ks:=[a,b]) (q:=q) (cp:=cp) h hL hK hSq hk hN zW);have hNS:=hSq.lt;have s0:=hSq.c0;have sf0:=hSq.f 0 nL;have hNw:¬NS=w.1.size:=by omega
 have hwN:¬w.1.size=NS:=by omega
 obtain⟨g,off,rfl,hRN⟩:=hK.resolve_left (by simp);obtain⟨qa,na,ca,hla,hca⟩:=hRN.2 0 (by simp);obtain⟨qb,nb,cb,hlb,hcb⟩:=hRN.2 1 (by simp);simp only[List.getElem_cons_zero,List.getElem_cons_succ]at hla hca hlb hcb;have hgL:=hRN.1;obtain⟨bk,bx,bm,bln,bco,bks⟩:=b;obtain⟨qb',cb',e,hnc,_⟩:=hlb.shape;injection e with e1 e2 e3;simp only[qQ.kids]at e2 hnc;subst e2 e1 e3;have hL1:M.L<=w.1.size:=hL;have HLA:=hI hla;have HLB:=hI hlb;have HCA:=hI hca;have HCB:=hI hcb;have HPB:=hI (show qVk ⟨M.gs,M.own fs⟩ (fs.map (·.h)) a (.mk bk bx bm bln bco bks)=(wJ ⟨M.gs,M.own fs⟩ a).bind fun p=>(wI (fs.map (·.h)) (.mk bk bx bm bln bco bks)).bind fun h=>(jQ (decide (h.1.t=p.ty)) (.mk bk bx bm bln bco bks) 41).bind fun _=>(wM ⟨M.gs,M.own fs⟩ bks h.1.params).bind fun es=>.ok (p,h.2,es)from rfl);have HWK:=hI hbw;have HBX:=hI hbx;have HBK:=hI hbk;clear h hL hK hSq hk hbw hbx hbk hla hlb hca hcb hRN;obtain⟨ak,ax,am,aln,aco,aks⟩:=a;simp only[qZ,qB,qS,List.length,qQ.kind,qQ.text,qQ.num,qQ.line,qQ.col,qQ.kids]at *;have hcc:(2:Int)<=(cp:Nat):=by omega
 go_enter func137,ntmps137
 go_wp2
 have hszW:((w.setCell ⟨NS,0,none⟩ (.string ⟨zW.toArray⟩)).alloc (.cells #[.string ⟨k.toArray⟩, .string ⟨x.toArray⟩, .int .u64 m, .int .i64 ln, .int .i64 co, .slice (some ⟨g,off,none⟩) 2 cp] 57)).1.size=w.1.size+1:=by simp
 have hWb:Below M.L w ((w.setCell ⟨NS,0,none⟩ (.string ⟨zW.toArray⟩)).alloc (.cells #[.string ⟨k.toArray⟩, .string ⟨x.toArray⟩, .int .u64 m, .int .i64 ln, .int .i64 co, .slice (some ⟨g,off,none⟩) 2 cp] 57)):=(jR (Below.refl _ _) hN _).alloc (by simpa using hL1) _;have HLA:=hI (HLA.o.keep hWb);have HLB:=hI (HLB.o.keep hWb);have hca:=HCA.o.move (hWb.block g hgL);have hcb:=HCB.o.move (hWb.block g hgL);unfold zW at *;clear hWb s0 sf0;generalize ((w.setCell ⟨NS,0,none⟩ _).alloc _)=W at *;have HQ1:=HQ0;have hW1:w.1.size < W.1.size:=by omega
 have HSZ:=hI hszW;clear HQ0 hszW;obtain⟨n0,n1,n2,n3,n4,n5⟩:=HQ1.o.nd.cells;have⟨k0,k1,k2,k3,k4,k5,_⟩:=hca.a;have⟨j0,j1,j2,j3,j4,j5,_⟩:=hcb.a;simp only[Nat.zero_mul,Nat.one_mul,Nat.add_zero,qQ.kind,qQ.text,qQ.num,qQ.line,qQ.col,qQ.kids,List.length]at k0 k1 k2 k3 k4 k5 j0 j1 j2 j3 j4 j5 n0 n1 n2 n3 n4 n5;have HTG:=hI (fun(C:World) (hC:Below W.1.size W C)=>qKO ak ax am aln aco aks ha M.B M.L ⟨M.gs,M.own fs⟩ (.slice qa na ca) C (HQ1.o.below hC).ea (HQ1.o.below hC).le (HLA.o.keep (hC.mono (by omega))));simp only[qZ,qS,qQ.kind,qQ.text,qQ.num,qQ.line,qQ.col,qQ.kids]at HTG;clear hca hcb;refine wp_cutX (X:=Nat×Nat×Ex×Value) (fun a0 r=>((((((((((((a0.put (some 11) (.pointer (some ⟨M.B,0,none⟩))).put (some 12) (.pointer (some ⟨w.1.size,5,none⟩))).put (some 13) (.slice (some ⟨g,off,none⟩) 2 cp)).put (some 14) (.pointer (some ⟨g,off,none⟩))).put (some 15) (.agg #[.string ⟨ak.toArray⟩, .string ⟨ax.toArray⟩, .int .u64 am, .int .i64 aln, .int .i64 aco, .slice qa na ca])).put (some 17) (.pointer (some ⟨w.1.size,5,none⟩))).put (some 18) (.slice (some ⟨g,off,none⟩) 2 cp)).put (some 19) (.pointer (some ⟨g,off+6,none⟩))).put (some 20) (.agg #[.string ⟨bk.toArray⟩, .string ⟨bx.toArray⟩, .int .u64 bm, .int .i64 bln, .int .i64 bco, .slice qb bks.length cb])).put (some 16) (exV r.2.2.1 r.2.2.2)).put (some 6) (.pointer (some ⟨r.1,0,none⟩))).put (some 7) (.pointer (some ⟨r.2.1,0,none⟩)))) (RBox ⟨M.gs,M.own fs⟩ (.mk ak ax am aln aco aks) bk bx bm bln bco (.slice qb bks.length cb) W)
  (fun ch w'=>∃ l' c' code,ch=[{ v:=xO l' c' code,recovered:=false }]/\wJ ⟨M.gs,M.own fs⟩ (.mk ak ax am aln aco aks)=.bad l' c' code/\Below W.1.size W w') ?_ ?_ ?_
 rotate_left 2
 ·rintro ch a' w' hd ⟨l',c',code,rfl,hp,hb⟩;exact⟨hd,(HQ1.o.below hb).bad (by rw[HPB.o,hp];rfl)⟩
 ·refine wRg (S:=fun w'=>Below W.1.size W w') 99 ?_;refine wTk 0 11 (.pointer (some ⟨M.B,0,none⟩)) ?_ (bD W) ?_
  ·intro _ y;go_simp
  refine wTk 1 12 (.pointer (some ⟨w.1.size,5,none⟩)) ?_ (bD W) ?_
  ·intro _ y;go_simp
  refine wTk 2 13 (.slice (some ⟨g,off,none⟩) 2 cp) ?_ (bD W) ?_
  ·intro _ y;have n5:=kP y n5;go_simp
  refine wTk 3 14 (.pointer (some ⟨g,off,none⟩)) ?_ (bD W) ?_
  ·intro _ y;go_simp
  refine wTk 4 15 (.agg #[.string ⟨ak.toArray⟩, .string ⟨ax.toArray⟩, .int .u64 am, .int .i64 aln, .int .i64 aco, .slice qa na ca]) ?_ (bD W) ?_
  ·intro _ y;obtain⟨k0,k1,k2,k3,k4,k5⟩:=kP6 y k0 k1 k2 k3 k4 k5;go_simp
  refine wTk 6 17 (.pointer (some ⟨w.1.size,5,none⟩)) ?_ (bD W) ?_
  ·intro _ y;go_simp
  refine wTk 7 18 (.slice (some ⟨g,off,none⟩) 2 cp) ?_ (bD W) ?_
  ·intro _ y;have n5:=kP y n5;go_simp
  refine wTk 8 19 (.pointer (some ⟨g,off+6,none⟩)) ?_ (bD W) ?_
  ·intro _ y;go_simp
  refine wTk 9 20 (.agg #[.string ⟨bk.toArray⟩, .string ⟨bx.toArray⟩, .int .u64 bm, .int .i64 bln, .int .i64 bco, .slice qb bks.length cb]) ?_ (bD W) ?_
  ·intro _ y;obtain⟨j0,j1,j2,j3,j4,j5⟩:=kP6 y j0 j1 j2 j3 j4 j5;go_simp
  have HB0:=hI ((Below.refl W.1.size W).drew);clear n0 n1 n2 n3 n4 n5 k0 k1 k2 k3 k4 k5 j0 j1 j2 j3 j4 j5;generalize World.drew W=C0 at *;refine qVq (i:=5) (j:=10) (l:=11) rfl rfl rfl (by kernel_rfl) (by rfl) (by rfl) (by rfl) (fun K hK=>?_) (fun K hK=>?_) (fun K hK=>?_)
  ·go_simp;refine(HTG.o C0 HB0.o).mono ?_;rintro e C1 hX;rcases hX.cases with⟨p,u,hp,rfl,⟨kv,rfl,hles⟩,hb⟩ | ⟨l',c',code,hp,rfl,hb⟩;rotate_left
   ·exact⟨rfl,l',c',code,rfl,hp,HB0.o.trans (hb.mono HB0.o.size)⟩
   obtain⟨pop,⟨pT0,pT1⟩,pn,pv,pg,pl,pc,pk⟩:=p;obtain⟨uq,uc,rfl⟩:=hles.shape;simp only[exV,exC,Ex.kids]at *;have hw0:=HB0.o.size;have HB1:=hI (HB0.o.trans (hb.mono HB0.o.size));have hs1:=hb.size;have HL:=hI (hles.mono (ok':=fun g=>W.1.size<=g) (fun g hg=>by omega));have HP:=hI hp;refine kK hK HB1.o ?_;clear hK K hX hp hles hb;try simp only[Act.put,pZa,pZb,pZc]
   refine jA (i:=10) (j:=11) rfl rfl (by kernel_rfl) (by rfl) (by rfl) (fun K hK=>?_) (fun K hK=>?_)
   ·go_simp;refine kK hK (bal HB1.o _) ?_;clear hK K;have HB2:=hI (bal HB1.o (.cells #[.string ⟨#[]⟩, .int .i64 0, .bool false, .int .u64 0, .int .i64 0, .bool false, .int .i64 0, .int .i64 0, .slice none 0 0] 76));have hA:Below C1.1.size C1 (C1.alloc (.cells #[.string ⟨#[]⟩, .int .i64 0, .bool false, .int .u64 0, .int .i64 0, .bool false, .int .i64 0, .int .i64 0, .slice none 0 0] 76)):=bal (Below.refl _ _) _;have hs2:C1.1.size < (C1.alloc (.cells #[.string ⟨#[]⟩, .int .i64 0, .bool false, .int .u64 0, .int .i64 0, .bool false, .int .i64 0, .int .i64 0, .slice none 0 0] 76)).1.size:=by simp
    have hw1:=HB1.o.size;have H6:=hI (show qQf C1.1.size [] (0,false) 0 0 false 0 0 (.slice none 0 0) (C1.alloc (.cells #[.string ⟨#[]⟩, .int .i64 0, .bool false, .int .u64 0, .int .i64 0, .bool false, .int .i64 0, .int .i64 0, .slice none 0 0] 76))from qQf.new [] (0,false) 0 0 false 0 0 (.slice none 0 0) C1);have HL:=hI (qU.move HL.o (ok':=fun g=>W.1.size<=g/\g≠C1.1.size) (fun g hg hok=>⟨by first | exact⟨hok,by omega⟩ | exact⟨hok.1,by omega,hok.2⟩ | exact⟨hok.1,hok.2,by omega⟩ | omega,hA.block g hg⟩));clear hA;generalize (C1.alloc (.cells #[.string ⟨#[]⟩, .int .i64 0, .bool false, .int .u64 0, .int .i64 0, .bool false, .int .i64 0, .int .i64 0, .slice none 0 0] 76))=C2 at *;refine wOn 11 fun K hK=>?_
    go_simp;refine kK hK (bal HB2.o _) ?_;clear hK K;have HB3:=hI (bal HB2.o (.cells #[.string ⟨#[]⟩, .string ⟨#[]⟩, .int .u64 0, .int .i64 0, .int .i64 0, .slice none 0 0] 57));have hA:Below C2.1.size C2 (C2.alloc (.cells #[.string ⟨#[]⟩, .string ⟨#[]⟩, .int .u64 0, .int .i64 0, .int .i64 0, .slice none 0 0] 57)):=bal (Below.refl _ _) _;have hs3:C2.1.size < (C2.alloc (.cells #[.string ⟨#[]⟩, .string ⟨#[]⟩, .int .u64 0, .int .i64 0, .int .i64 0, .slice none 0 0] 57)).1.size:=by simp
    have hw2:=HB2.o.size;have H6:=hI (H6.o.below hA);have H7:=hI (show zI C2.1.size [] [] 0 0 0 (.slice none 0 0) (C2.alloc (.cells #[.string ⟨#[]⟩, .string ⟨#[]⟩, .int .u64 0, .int .i64 0, .int .i64 0, .slice none 0 0] 57))from zI.new [] [] 0 0 0 (.slice none 0 0) C2);have HL:=hI (qU.move HL.o (ok':=fun g=>W.1.size<=g/\g≠C1.1.size/\g≠C2.1.size) (fun g hg hok=>⟨by first | exact⟨hok,by omega⟩ | exact⟨hok.1,by omega,hok.2⟩ | exact⟨hok.1,hok.2,by omega⟩ | omega,hA.block g hg⟩));clear hA;generalize (C2.alloc (.cells #[.string ⟨#[]⟩, .string ⟨#[]⟩, .int .u64 0, .int .i64 0, .int .i64 0, .slice none 0 0] 57))=C3 at *;refine wOn 12 fun K hK=>?_
    have x0:=H6.o.c0;have xf0:=H6.o.f 0 nL;have x1:=H6.o.c1;have xf1:=H6.o.f 1 nL;have x2:=H6.o.c2;have xf2:=H6.o.f 2 nL;have x3:=H6.o.c3;have xf3:=H6.o.f 3 nL;have x4:=H6.o.c4;have xf4:=H6.o.f 4 nL;have x5:=H6.o.c5;have xf5:=H6.o.f 5 nL;have x6:=H6.o.c6;have xf6:=H6.o.f 6 nL;have x7:=H6.o.c7;have xf7:=H6.o.f 7 nL;have x8:=H6.o.c8;have xf8:=H6.o.f 8 nL;go_simp;refine kK hK (set9 HB3.o (by omega) _ _ _ _ _ _ _ _ _) ?_;clear hK K;clear x0 xf0 x1 xf1 x2 xf2 x3 xf3 x4 xf4 x5 xf5 x6 xf6 x7 xf7 x8 xf8;have HB4:=hI (set9 (N:=C1.1.size) HB3.o (by omega) (.string ⟨pop.toArray⟩) (.int .i64 pT0) (.bool pT1) (.int .u64 pn) (.int .i64 pv) (.bool pg) (.int .i64 pl) (.int .i64 pc) (.slice uq pk.length uc));have H6:=hI (H6.o.set9 (op':=pop) (T':=(pT0,pT1)) (n':=pn) (va':=pv) (g':=pg) (l':=pl) (c':=pc) (kv':=.slice uq pk.length uc));have hh:∀ g,g≠C1.1.size->((((((((((C3.setCell ⟨C1.1.size,0,none⟩ (.string ⟨pop.toArray⟩)).setCell ⟨C1.1.size,1,none⟩ (.int .i64 pT0)).setCell ⟨C1.1.size,2,none⟩ (.bool pT1)).setCell ⟨C1.1.size,3,none⟩ (.int .u64 pn)).setCell ⟨C1.1.size,4,none⟩ (.int .i64 pv)).setCell ⟨C1.1.size,5,none⟩ (.bool pg)).setCell ⟨C1.1.size,6,none⟩ (.int .i64 pl)).setCell ⟨C1.1.size,7,none⟩ (.int .i64 pc)).setCell ⟨C1.1.size,8,none⟩ (.slice uq pk.length uc))).1[g]? = C3.1[g]?:=fun g hg=>qUd _ _ _ hg _ _ _ _ _ _ _ _ _
    have H7:=hI (H7.o.turn (hh _ (by omega)));have HL:=hI (qU.move HL.o (ok':=fun g=>W.1.size<=g/\g≠C1.1.size/\g≠C2.1.size) (fun g hg hok=>⟨hok,hh _ hok.2.1⟩));clear hh;generalize ((((((((((C3.setCell ⟨C1.1.size,0,none⟩ (.string ⟨pop.toArray⟩)).setCell ⟨C1.1.size,1,none⟩ (.int .i64 pT0)).setCell ⟨C1.1.size,2,none⟩ (.bool pT1)).setCell ⟨C1.1.size,3,none⟩ (.int .u64 pn)).setCell ⟨C1.1.size,4,none⟩ (.int .i64 pv)).setCell ⟨C1.1.size,5,none⟩ (.bool pg)).setCell ⟨C1.1.size,6,none⟩ (.int .i64 pl)).setCell ⟨C1.1.size,7,none⟩ (.int .i64 pc)).setCell ⟨C1.1.size,8,none⟩ (.slice uq pk.length uc)))=C4 at *;refine wOn 13 fun K hK=>?_
    have x0:=H7.o.c0;have xf0:=H7.o.f 0 nL;have x1:=H7.o.c1;have xf1:=H7.o.f 1 nL;have x2:=H7.o.c2;have xf2:=H7.o.f 2 nL;have x3:=H7.o.c3;have xf3:=H7.o.f 3 nL;have x4:=H7.o.c4;have xf4:=H7.o.f 4 nL;have x5:=H7.o.c5;have xf5:=H7.o.f 5 nL;go_simp;refine kK hK (vN HB4.o (by omega) _ _ _ _ _ _) ?_;clear hK K;refine wDn ?_ _;exact⟨(C1.1.size,C2.1.size, .mk pop (pT0,pT1) pn pv pg pl pc pk, .slice uq pk.length uc),by simp only[Act.put,pZa,pZb,pZc,exV,exC],vN HB4.o (by omega) _ _ _ _ _ _,HP.o,H6.o.turn (qZE _ _ _ (by omega) _ _ _ _ _ _),H7.o.six bk bx bm bln bco (.slice qb bks.length cb),qU.move HL.o (fun g hg hok=>⟨hok.1,qZE _ _ _ hok.2.2 _ _ _ _ _ _⟩),by show W.1.size<=C1.1.size;omega,by show W.1.size<=C2.1.size;omega,by show C1.1.size≠C2.1.size;omega⟩
   ·go_simp;refine kK hK (bal HB1.o _) ?_;clear hK K;have HB2:=hI (bal HB1.o (.cells #[.string ⟨#[]⟩, .string ⟨#[]⟩, .int .u64 0, .int .i64 0, .int .i64 0, .slice none 0 0] 57));have hA:Below C1.1.size C1 (C1.alloc (.cells #[.string ⟨#[]⟩, .string ⟨#[]⟩, .int .u64 0, .int .i64 0, .int .i64 0, .slice none 0 0] 57)):=bal (Below.refl _ _) _;have hs2:C1.1.size < (C1.alloc (.cells #[.string ⟨#[]⟩, .string ⟨#[]⟩, .int .u64 0, .int .i64 0, .int .i64 0, .slice none 0 0] 57)).1.size:=by simp
    have hw1:=HB1.o.size;have H7:=hI (show zI C1.1.size [] [] 0 0 0 (.slice none 0 0) (C1.alloc (.cells #[.string ⟨#[]⟩, .string ⟨#[]⟩, .int .u64 0, .int .i64 0, .int .i64 0, .slice none 0 0] 57))from zI.new [] [] 0 0 0 (.slice none 0 0) C1);have HL:=hI (qU.move HL.o (ok':=fun g=>W.1.size<=g/\g≠C1.1.size) (fun g hg hok=>⟨by first | exact⟨hok,by omega⟩ | exact⟨hok.1,by omega,hok.2⟩ | exact⟨hok.1,hok.2,by omega⟩ | omega,hA.block g hg⟩));clear hA;generalize (C1.alloc (.cells #[.string ⟨#[]⟩, .string ⟨#[]⟩, .int .u64 0, .int .i64 0, .int .i64 0, .slice none 0 0] 57))=C2 at *;refine wOn 10 fun K hK=>?_
    go_simp;refine kK hK (bal HB2.o _) ?_;clear hK K;have HB3:=hI (bal HB2.o (.cells #[.string ⟨#[]⟩, .int .i64 0, .bool false, .int .u64 0, .int .i64 0, .bool false, .int .i64 0, .int .i64 0, .slice none 0 0] 76));have hA:Below C2.1.size C2 (C2.alloc (.cells #[.string ⟨#[]⟩, .int .i64 0, .bool false, .int .u64 0, .int .i64 0, .bool false, .int .i64 0, .int .i64 0, .slice none 0 0] 76)):=bal (Below.refl _ _) _;have hs3:C2.1.size < (C2.alloc (.cells #[.string ⟨#[]⟩, .int .i64 0, .bool false, .int .u64 0, .int .i64 0, .bool false, .int .i64 0, .int .i64 0, .slice none 0 0] 76)).1.size:=by simp
    have hw2:=HB2.o.size;have H7:=hI (H7.o.below hA);have H6:=hI (show qQf C2.1.size [] (0,false) 0 0 false 0 0 (.slice none 0 0) (C2.alloc (.cells #[.string ⟨#[]⟩, .int .i64 0, .bool false, .int .u64 0, .int .i64 0, .bool false, .int .i64 0, .int .i64 0, .slice none 0 0] 76))from qQf.new [] (0,false) 0 0 false 0 0 (.slice none 0 0) C2);have HL:=hI (qU.move HL.o (ok':=fun g=>W.1.size<=g/\g≠C2.1.size/\g≠C1.1.size) (fun g hg hok=>⟨by first | exact⟨hok,by omega⟩ | exact⟨hok.1,by omega,hok.2⟩ | exact⟨hok.1,hok.2,by omega⟩ | omega,hA.block g hg⟩));clear hA;generalize (C2.alloc (.cells #[.string ⟨#[]⟩, .int .i64 0, .bool false, .int .u64 0, .int .i64 0, .bool false, .int .i64 0, .int .i64 0, .slice none 0 0] 76))=C3 at *;refine wOn 12 fun K hK=>?_
    have x0:=H6.o.c0;have xf0:=H6.o.f 0 nL;have x1:=H6.o.c1;have xf1:=H6.o.f 1 nL;have x2:=H6.o.c2;have xf2:=H6.o.f 2 nL;have x3:=H6.o.c3;have xf3:=H6.o.f 3 nL;have x4:=H6.o.c4;have xf4:=H6.o.f 4 nL;have x5:=H6.o.c5;have xf5:=H6.o.f 5 nL;have x6:=H6.o.c6;have xf6:=H6.o.f 6 nL;have x7:=H6.o.c7;have xf7:=H6.o.f 7 nL;have x8:=H6.o.c8;have xf8:=H6.o.f 8 nL;go_simp;refine kK hK (set9 HB3.o (by omega) _ _ _ _ _ _ _ _ _) ?_;clear hK K;clear x0 xf0 x1 xf1 x2 xf2 x3 xf3 x4 xf4 x5 xf5 x6 xf6 x7 xf7 x8 xf8;have HB4:=hI (set9 (N:=C2.1.size) HB3.o (by omega) (.string ⟨pop.toArray⟩) (.int .i64 pT0) (.bool pT1) (.int .u64 pn) (.int .i64 pv) (.bool pg) (.int .i64 pl) (.int .i64 pc) (.slice uq pk.length uc));have H6:=hI (H6.o.set9 (op':=pop) (T':=(pT0,pT1)) (n':=pn) (va':=pv) (g':=pg) (l':=pl) (c':=pc) (kv':=.slice uq pk.length uc));have hh:∀ g,g≠C2.1.size->((((((((((C3.setCell ⟨C2.1.size,0,none⟩ (.string ⟨pop.toArray⟩)).setCell ⟨C2.1.size,1,none⟩ (.int .i64 pT0)).setCell ⟨C2.1.size,2,none⟩ (.bool pT1)).setCell ⟨C2.1.size,3,none⟩ (.int .u64 pn)).setCell ⟨C2.1.size,4,none⟩ (.int .i64 pv)).setCell ⟨C2.1.size,5,none⟩ (.bool pg)).setCell ⟨C2.1.size,6,none⟩ (.int .i64 pl)).setCell ⟨C2.1.size,7,none⟩ (.int .i64 pc)).setCell ⟨C2.1.size,8,none⟩ (.slice uq pk.length uc))).1[g]? = C3.1[g]?:=fun g hg=>qUd _ _ _ hg _ _ _ _ _ _ _ _ _
    have H7:=hI (H7.o.turn (hh _ (by omega)));have HL:=hI (qU.move HL.o (ok':=fun g=>W.1.size<=g/\g≠C2.1.size/\g≠C1.1.size) (fun g hg hok=>⟨hok,hh _ hok.2.1⟩));clear hh;generalize ((((((((((C3.setCell ⟨C2.1.size,0,none⟩ (.string ⟨pop.toArray⟩)).setCell ⟨C2.1.size,1,none⟩ (.int .i64 pT0)).setCell ⟨C2.1.size,2,none⟩ (.bool pT1)).setCell ⟨C2.1.size,3,none⟩ (.int .u64 pn)).setCell ⟨C2.1.size,4,none⟩ (.int .i64 pv)).setCell ⟨C2.1.size,5,none⟩ (.bool pg)).setCell ⟨C2.1.size,6,none⟩ (.int .i64 pl)).setCell ⟨C2.1.size,7,none⟩ (.int .i64 pc)).setCell ⟨C2.1.size,8,none⟩ (.slice uq pk.length uc)))=C4 at *;refine wOn 13 fun K hK=>?_
    have x0:=H7.o.c0;have xf0:=H7.o.f 0 nL;have x1:=H7.o.c1;have xf1:=H7.o.f 1 nL;have x2:=H7.o.c2;have xf2:=H7.o.f 2 nL;have x3:=H7.o.c3;have xf3:=H7.o.f 3 nL;have x4:=H7.o.c4;have xf4:=H7.o.f 4 nL;have x5:=H7.o.c5;have xf5:=H7.o.f 5 nL;go_simp;refine kK hK (vN HB4.o (by omega) _ _ _ _ _ _) ?_;clear hK K;refine wDn ?_ _;exact⟨(C2.1.size,C1.1.size, .mk pop (pT0,pT1) pn pv pg pl pc pk, .slice uq pk.length uc),by simp only[Act.put,pZa,pZb,pZc,exV,exC],vN HB4.o (by omega) _ _ _ _ _ _,HP.o,H6.o.turn (qZE _ _ _ (by omega) _ _ _ _ _ _),H7.o.six bk bx bm bln bco (.slice qb bks.length cb),qU.move HL.o (fun g hg hok=>⟨hok.1,qZE _ _ _ hok.2.2 _ _ _ _ _ _⟩),by show W.1.size<=C2.1.size;omega,by show W.1.size<=C1.1.size;omega,by show C2.1.size≠C1.1.size;omega⟩
  ·go_simp;refine kK hK (bal HB0.o _) ?_;clear hK K;have HB1:=hI (bal HB0.o (.cells #[.string ⟨#[]⟩, .int .i64 0, .bool false, .int .u64 0, .int .i64 0, .bool false, .int .i64 0, .int .i64 0, .slice none 0 0] 76));have hA:Below C0.1.size C0 (C0.alloc (.cells #[.string ⟨#[]⟩, .int .i64 0, .bool false, .int .u64 0, .int .i64 0, .bool false, .int .i64 0, .int .i64 0, .slice none 0 0] 76)):=bal (Below.refl _ _) _;have hs1:C0.1.size < (C0.alloc (.cells #[.string ⟨#[]⟩, .int .i64 0, .bool false, .int .u64 0, .int .i64 0, .bool false, .int .i64 0, .int .i64 0, .slice none 0 0] 76)).1.size:=by simp
   have hw0:=HB0.o.size;have H6:=hI (show qQf C0.1.size [] (0,false) 0 0 false 0 0 (.slice none 0 0) (C0.alloc (.cells #[.string ⟨#[]⟩, .int .i64 0, .bool false, .int .u64 0, .int .i64 0, .bool false, .int .i64 0, .int .i64 0, .slice none 0 0] 76))from qQf.new [] (0,false) 0 0 false 0 0 (.slice none 0 0) C0);clear hA;generalize (C0.alloc (.cells #[.string ⟨#[]⟩, .int .i64 0, .bool false, .int .u64 0, .int .i64 0, .bool false, .int .i64 0, .int .i64 0, .slice none 0 0] 76))=C1 at *;refine jA (i:=5) (j:=11) rfl rfl (by kernel_rfl) (by rfl) (by rfl) (fun K hK=>?_) (fun K hK=>?_)
   ·go_simp;refine(HTG.o C1 HB1.o).mono ?_;rintro e C2 hX;rcases hX.cases with⟨p,u,hp,rfl,⟨kv,rfl,hles⟩,hb⟩ | ⟨l',c',code,hp,rfl,hb⟩;rotate_left
    ·exact⟨rfl,l',c',code,rfl,hp,HB1.o.trans (hb.mono HB1.o.size)⟩
    obtain⟨pop,⟨pT0,pT1⟩,pn,pv,pg,pl,pc,pk⟩:=p;obtain⟨uq,uc,rfl⟩:=hles.shape;simp only[exV,exC,Ex.kids]at *;have hw1:=HB1.o.size;have HB2:=hI (HB1.o.trans (hb.mono HB1.o.size));have hs2:=hb.size;have H6:=hI (H6.o.below hb);have HL:=hI (hles.mono (ok':=fun g=>W.1.size<=g/\g≠C0.1.size) (fun g hg=>by omega));have HP:=hI hp;refine kK hK HB2.o ?_;clear hK K hX hp hles hb;try simp only[Act.put,pZa,pZb,pZc]
    refine wOn 11 fun K hK=>?_
    go_simp;refine kK hK (bal HB2.o _) ?_;clear hK K;have HB3:=hI (bal HB2.o (.cells #[.string ⟨#[]⟩, .string ⟨#[]⟩, .int .u64 0, .int .i64 0, .int .i64 0, .slice none 0 0] 57));have hA:Below C2.1.size C2 (C2.alloc (.cells #[.string ⟨#[]⟩, .string ⟨#[]⟩, .int .u64 0, .int .i64 0, .int .i64 0, .slice none 0 0] 57)):=bal (Below.refl _ _) _;have hs3:C2.1.size < (C2.alloc (.cells #[.string ⟨#[]⟩, .string ⟨#[]⟩, .int .u64 0, .int .i64 0, .int .i64 0, .slice none 0 0] 57)).1.size:=by simp
    have hw2:=HB2.o.size;have H6:=hI (H6.o.below hA);have H7:=hI (show zI C2.1.size [] [] 0 0 0 (.slice none 0 0) (C2.alloc (.cells #[.string ⟨#[]⟩, .string ⟨#[]⟩, .int .u64 0, .int .i64 0, .int .i64 0, .slice none 0 0] 57))from zI.new [] [] 0 0 0 (.slice none 0 0) C2);have HL:=hI (qU.move HL.o (ok':=fun g=>W.1.size<=g/\g≠C0.1.size/\g≠C2.1.size) (fun g hg hok=>⟨by first | exact⟨hok,by omega⟩ | exact⟨hok.1,by omega,hok.2⟩ | exact⟨hok.1,hok.2,by omega⟩ | omega,hA.block g hg⟩));clear hA;generalize (C2.alloc (.cells #[.string ⟨#[]⟩, .string ⟨#[]⟩, .int .u64 0, .int .i64 0, .int .i64 0, .slice none 0 0] 57))=C3 at *;refine wOn 12 fun K hK=>?_
    have x0:=H6.o.c0;have xf0:=H6.o.f 0 nL;have x1:=H6.o.c1;have xf1:=H6.o.f 1 nL;have x2:=H6.o.c2;have xf2:=H6.o.f 2 nL;have x3:=H6.o.c3;have xf3:=H6.o.f 3 nL;have x4:=H6.o.c4;have xf4:=H6.o.f 4 nL;have x5:=H6.o.c5;have xf5:=H6.o.f 5 nL;have x6:=H6.o.c6;have xf6:=H6.o.f 6 nL;have x7:=H6.o.c7;have xf7:=H6.o.f 7 nL;have x8:=H6.o.c8;have xf8:=H6.o.f 8 nL;go_simp;refine kK hK (set9 HB3.o (by omega) _ _ _ _ _ _ _ _ _) ?_;clear hK K;clear x0 xf0 x1 xf1 x2 xf2 x3 xf3 x4 xf4 x5 xf5 x6 xf6 x7 xf7 x8 xf8;have HB4:=hI (set9 (N:=C0.1.size) HB3.o (by omega) (.string ⟨pop.toArray⟩) (.int .i64 pT0) (.bool pT1) (.int .u64 pn) (.int .i64 pv) (.bool pg) (.int .i64 pl) (.int .i64 pc) (.slice uq pk.length uc));have H6:=hI (H6.o.set9 (op':=pop) (T':=(pT0,pT1)) (n':=pn) (va':=pv) (g':=pg) (l':=pl) (c':=pc) (kv':=.slice uq pk.length uc));have hh:∀ g,g≠C0.1.size->((((((((((C3.setCell ⟨C0.1.size,0,none⟩ (.string ⟨pop.toArray⟩)).setCell ⟨C0.1.size,1,none⟩ (.int .i64 pT0)).setCell ⟨C0.1.size,2,none⟩ (.bool pT1)).setCell ⟨C0.1.size,3,none⟩ (.int .u64 pn)).setCell ⟨C0.1.size,4,none⟩ (.int .i64 pv)).setCell ⟨C0.1.size,5,none⟩ (.bool pg)).setCell ⟨C0.1.size,6,none⟩ (.int .i64 pl)).setCell ⟨C0.1.size,7,none⟩ (.int .i64 pc)).setCell ⟨C0.1.size,8,none⟩ (.slice uq pk.length uc))).1[g]? = C3.1[g]?:=fun g hg=>qUd _ _ _ hg _ _ _ _ _ _ _ _ _
    have H7:=hI (H7.o.turn (hh _ (by omega)));have HL:=hI (qU.move HL.o (ok':=fun g=>W.1.size<=g/\g≠C0.1.size/\g≠C2.1.size) (fun g hg hok=>⟨hok,hh _ hok.2.1⟩));clear hh;generalize ((((((((((C3.setCell ⟨C0.1.size,0,none⟩ (.string ⟨pop.toArray⟩)).setCell ⟨C0.1.size,1,none⟩ (.int .i64 pT0)).setCell ⟨C0.1.size,2,none⟩ (.bool pT1)).setCell ⟨C0.1.size,3,none⟩ (.int .u64 pn)).setCell ⟨C0.1.size,4,none⟩ (.int .i64 pv)).setCell ⟨C0.1.size,5,none⟩ (.bool pg)).setCell ⟨C0.1.size,6,none⟩ (.int .i64 pl)).setCell ⟨C0.1.size,7,none⟩ (.int .i64 pc)).setCell ⟨C0.1.size,8,none⟩ (.slice uq pk.length uc)))=C4 at *;refine wOn 13 fun K hK=>?_
    have x0:=H7.o.c0;have xf0:=H7.o.f 0 nL;have x1:=H7.o.c1;have xf1:=H7.o.f 1 nL;have x2:=H7.o.c2;have xf2:=H7.o.f 2 nL;have x3:=H7.o.c3;have xf3:=H7.o.f 3 nL;have x4:=H7.o.c4;have xf4:=H7.o.f 4 nL;have x5:=H7.o.c5;have xf5:=H7.o.f 5 nL;go_simp;refine kK hK (vN HB4.o (by omega) _ _ _ _ _ _) ?_;clear hK K;refine wDn ?_ _;exact⟨(C0.1.size,C2.1.size, .mk pop (pT0,pT1) pn pv pg pl pc pk, .slice uq pk.length uc),by simp only[Act.put,pZa,pZb,pZc,exV,exC],vN HB4.o (by omega) _ _ _ _ _ _,HP.o,H6.o.turn (qZE _ _ _ (by omega) _ _ _ _ _ _),H7.o.six bk bx bm bln bco (.slice qb bks.length cb),qU.move HL.o (fun g hg hok=>⟨hok.1,qZE _ _ _ hok.2.2 _ _ _ _ _ _⟩),by show W.1.size<=C0.1.size;omega,by show W.1.size<=C2.1.size;omega,by show C0.1.size≠C2.1.size;omega⟩
   ·go_simp;refine kK hK (bal HB1.o _) ?_;clear hK K;have HB2:=hI (bal HB1.o (.cells #[.string ⟨#[]⟩, .string ⟨#[]⟩, .int .u64 0, .int .i64 0, .int .i64 0, .slice none 0 0] 57));have hA:Below C1.1.size C1 (C1.alloc (.cells #[.string ⟨#[]⟩, .string ⟨#[]⟩, .int .u64 0, .int .i64 0, .int .i64 0, .slice none 0 0] 57)):=bal (Below.refl _ _) _;have hs2:C1.1.size < (C1.alloc (.cells #[.string ⟨#[]⟩, .string ⟨#[]⟩, .int .u64 0, .int .i64 0, .int .i64 0, .slice none 0 0] 57)).1.size:=by simp
    have hw1:=HB1.o.size;have H6:=hI (H6.o.below hA);have H7:=hI (show zI C1.1.size [] [] 0 0 0 (.slice none 0 0) (C1.alloc (.cells #[.string ⟨#[]⟩, .string ⟨#[]⟩, .int .u64 0, .int .i64 0, .int .i64 0, .slice none 0 0] 57))from zI.new [] [] 0 0 0 (.slice none 0 0) C1);clear hA;generalize (C1.alloc (.cells #[.string ⟨#[]⟩, .string ⟨#[]⟩, .int .u64 0, .int .i64 0, .int .i64 0, .slice none 0 0] 57))=C2 at *;refine wOn 5 fun K hK=>?_
    go_simp;refine(HTG.o C2 HB2.o).mono ?_;rintro e C3 hX;rcases hX.cases with⟨p,u,hp,rfl,⟨kv,rfl,hles⟩,hb⟩ | ⟨l',c',code,hp,rfl,hb⟩;rotate_left
    ·exact⟨rfl,l',c',code,rfl,hp,HB2.o.trans (hb.mono HB2.o.size)⟩
    obtain⟨pop,⟨pT0,pT1⟩,pn,pv,pg,pl,pc,pk⟩:=p;obtain⟨uq,uc,rfl⟩:=hles.shape;simp only[exV,exC,Ex.kids]at *;have hw2:=HB2.o.size;have HB3:=hI (HB2.o.trans (hb.mono HB2.o.size));have hs3:=hb.size;have H6:=hI (H6.o.below hb);have H7:=hI (H7.o.below hb);have HL:=hI (hles.mono (ok':=fun g=>W.1.size<=g/\g≠C0.1.size/\g≠C1.1.size) (fun g hg=>by omega));have HP:=hI hp;refine kK hK HB3.o ?_;clear hK K hX hp hles hb;try simp only[Act.put,pZa,pZb,pZc]
    refine wOn 12 fun K hK=>?_
    have x0:=H6.o.c0;have xf0:=H6.o.f 0 nL;have x1:=H6.o.c1;have xf1:=H6.o.f 1 nL;have x2:=H6.o.c2;have xf2:=H6.o.f 2 nL;have x3:=H6.o.c3;have xf3:=H6.o.f 3 nL;have x4:=H6.o.c4;have xf4:=H6.o.f 4 nL;have x5:=H6.o.c5;have xf5:=H6.o.f 5 nL;have x6:=H6.o.c6;have xf6:=H6.o.f 6 nL;have x7:=H6.o.c7;have xf7:=H6.o.f 7 nL;have x8:=H6.o.c8;have xf8:=H6.o.f 8 nL;go_simp;refine kK hK (set9 HB3.o (by omega) _ _ _ _ _ _ _ _ _) ?_;clear hK K;clear x0 xf0 x1 xf1 x2 xf2 x3 xf3 x4 xf4 x5 xf5 x6 xf6 x7 xf7 x8 xf8;have HB4:=hI (set9 (N:=C0.1.size) HB3.o (by omega) (.string ⟨pop.toArray⟩) (.int .i64 pT0) (.bool pT1) (.int .u64 pn) (.int .i64 pv) (.bool pg) (.int .i64 pl) (.int .i64 pc) (.slice uq pk.length uc));have H6:=hI (H6.o.set9 (op':=pop) (T':=(pT0,pT1)) (n':=pn) (va':=pv) (g':=pg) (l':=pl) (c':=pc) (kv':=.slice uq pk.length uc));have hh:∀ g,g≠C0.1.size->((((((((((C3.setCell ⟨C0.1.size,0,none⟩ (.string ⟨pop.toArray⟩)).setCell ⟨C0.1.size,1,none⟩ (.int .i64 pT0)).setCell ⟨C0.1.size,2,none⟩ (.bool pT1)).setCell ⟨C0.1.size,3,none⟩ (.int .u64 pn)).setCell ⟨C0.1.size,4,none⟩ (.int .i64 pv)).setCell ⟨C0.1.size,5,none⟩ (.bool pg)).setCell ⟨C0.1.size,6,none⟩ (.int .i64 pl)).setCell ⟨C0.1.size,7,none⟩ (.int .i64 pc)).setCell ⟨C0.1.size,8,none⟩ (.slice uq pk.length uc))).1[g]? = C3.1[g]?:=fun g hg=>qUd _ _ _ hg _ _ _ _ _ _ _ _ _
    have H7:=hI (H7.o.turn (hh _ (by omega)));have HL:=hI (qU.move HL.o (ok':=fun g=>W.1.size<=g/\g≠C0.1.size/\g≠C1.1.size) (fun g hg hok=>⟨hok,hh _ hok.2.1⟩));clear hh;generalize ((((((((((C3.setCell ⟨C0.1.size,0,none⟩ (.string ⟨pop.toArray⟩)).setCell ⟨C0.1.size,1,none⟩ (.int .i64 pT0)).setCell ⟨C0.1.size,2,none⟩ (.bool pT1)).setCell ⟨C0.1.size,3,none⟩ (.int .u64 pn)).setCell ⟨C0.1.size,4,none⟩ (.int .i64 pv)).setCell ⟨C0.1.size,5,none⟩ (.bool pg)).setCell ⟨C0.1.size,6,none⟩ (.int .i64 pl)).setCell ⟨C0.1.size,7,none⟩ (.int .i64 pc)).setCell ⟨C0.1.size,8,none⟩ (.slice uq pk.length uc)))=C4 at *;refine wOn 13 fun K hK=>?_
    have x0:=H7.o.c0;have xf0:=H7.o.f 0 nL;have x1:=H7.o.c1;have xf1:=H7.o.f 1 nL;have x2:=H7.o.c2;have xf2:=H7.o.f 2 nL;have x3:=H7.o.c3;have xf3:=H7.o.f 3 nL;have x4:=H7.o.c4;have xf4:=H7.o.f 4 nL;have x5:=H7.o.c5;have xf5:=H7.o.f 5 nL;go_simp;refine kK hK (vN HB4.o (by omega) _ _ _ _ _ _) ?_;clear hK K;refine wDn ?_ _;exact⟨(C0.1.size,C1.1.size, .mk pop (pT0,pT1) pn pv pg pl pc pk, .slice uq pk.length uc),by simp only[Act.put,pZa,pZb,pZc,exV,exC],vN HB4.o (by omega) _ _ _ _ _ _,HP.o,H6.o.turn (qZE _ _ _ (by omega) _ _ _ _ _ _),H7.o.six bk bx bm bln bco (.slice qb bks.length cb),qU.move HL.o (fun g hg hok=>⟨hok.1,qZE _ _ _ hok.2.2 _ _ _ _ _ _⟩),by show W.1.size<=C0.1.size;omega,by show W.1.size<=C1.1.size;omega,by show C0.1.size≠C1.1.size;omega⟩
  ·go_simp;refine kK hK (bal HB0.o _) ?_;clear hK K;have HB1:=hI (bal HB0.o (.cells #[.string ⟨#[]⟩, .string ⟨#[]⟩, .int .u64 0, .int .i64 0, .int .i64 0, .slice none 0 0] 57));have hA:Below C0.1.size C0 (C0.alloc (.cells #[.string ⟨#[]⟩, .string ⟨#[]⟩, .int .u64 0, .int .i64 0, .int .i64 0, .slice none 0 0] 57)):=bal (Below.refl _ _) _;have hs1:C0.1.size < (C0.alloc (.cells #[.string ⟨#[]⟩, .string ⟨#[]⟩, .int .u64 0, .int .i64 0, .int .i64 0, .slice none 0 0] 57)).1.size:=by simp
   have hw0:=HB0.o.size;have H7:=hI (show zI C0.1.size [] [] 0 0 0 (.slice none 0 0) (C0.alloc (.cells #[.string ⟨#[]⟩, .string ⟨#[]⟩, .int .u64 0, .int .i64 0, .int .i64 0, .slice none 0 0] 57))from zI.new [] [] 0 0 0 (.slice none 0 0) C0);clear hA;generalize (C0.alloc (.cells #[.string ⟨#[]⟩, .string ⟨#[]⟩, .int .u64 0, .int .i64 0, .int .i64 0, .slice none 0 0] 57))=C1 at *;refine jA (i:=5) (j:=10) rfl rfl (by kernel_rfl) (by rfl) (by rfl) (fun K hK=>?_) (fun K hK=>?_)
   ·go_simp;refine(HTG.o C1 HB1.o).mono ?_;rintro e C2 hX;rcases hX.cases with⟨p,u,hp,rfl,⟨kv,rfl,hles⟩,hb⟩ | ⟨l',c',code,hp,rfl,hb⟩;rotate_left
    ·exact⟨rfl,l',c',code,rfl,hp,HB1.o.trans (hb.mono HB1.o.size)⟩
    obtain⟨pop,⟨pT0,pT1⟩,pn,pv,pg,pl,pc,pk⟩:=p;obtain⟨uq,uc,rfl⟩:=hles.shape;simp only[exV,exC,Ex.kids]at *;have hw1:=HB1.o.size;have HB2:=hI (HB1.o.trans (hb.mono HB1.o.size));have hs2:=hb.size;have H7:=hI (H7.o.below hb);have HL:=hI (hles.mono (ok':=fun g=>W.1.size<=g/\g≠C0.1.size) (fun g hg=>by omega));have HP:=hI hp;refine kK hK HB2.o ?_;clear hK K hX hp hles hb;try simp only[Act.put,pZa,pZb,pZc]
    refine wOn 10 fun K hK=>?_
    go_simp;refine kK hK (bal HB2.o _) ?_;clear hK K;have HB3:=hI (bal HB2.o (.cells #[.string ⟨#[]⟩, .int .i64 0, .bool false, .int .u64 0, .int .i64 0, .bool false, .int .i64 0, .int .i64 0, .slice none 0 0] 76));have hA:Below C2.1.size C2 (C2.alloc (.cells #[.string ⟨#[]⟩, .int .i64 0, .bool false, .int .u64 0, .int .i64 0, .bool false, .int .i64 0, .int .i64 0, .slice none 0 0] 76)):=bal (Below.refl _ _) _;have hs3:C2.1.size < (C2.alloc (.cells #[.string ⟨#[]⟩, .int .i64 0, .bool false, .int .u64 0, .int .i64 0, .bool false, .int .i64 0, .int .i64 0, .slice none 0 0] 76)).1.size:=by simp
    have hw2:=HB2.o.size;have H7:=hI (H7.o.below hA);have H6:=hI (show qQf C2.1.size [] (0,false) 0 0 false 0 0 (.slice none 0 0) (C2.alloc (.cells #[.string ⟨#[]⟩, .int .i64 0, .bool false, .int .u64 0, .int .i64 0, .bool false, .int .i64 0, .int .i64 0, .slice none 0 0] 76))from qQf.new [] (0,false) 0 0 false 0 0 (.slice none 0 0) C2);have HL:=hI (qU.move HL.o (ok':=fun g=>W.1.size<=g/\g≠C2.1.size/\g≠C0.1.size) (fun g hg hok=>⟨by first | exact⟨hok,by omega⟩ | exact⟨hok.1,by omega,hok.2⟩ | exact⟨hok.1,hok.2,by omega⟩ | omega,hA.block g hg⟩));clear hA;generalize (C2.alloc (.cells #[.string ⟨#[]⟩, .int .i64 0, .bool false, .int .u64 0, .int .i64 0, .bool false, .int .i64 0, .int .i64 0, .slice none 0 0] 76))=C3 at *;refine wOn 12 fun K hK=>?_
    have x0:=H6.o.c0;have xf0:=H6.o.f 0 nL;have x1:=H6.o.c1;have xf1:=H6.o.f 1 nL;have x2:=H6.o.c2;have xf2:=H6.o.f 2 nL;have x3:=H6.o.c3;have xf3:=H6.o.f 3 nL;have x4:=H6.o.c4;have xf4:=H6.o.f 4 nL;have x5:=H6.o.c5;have xf5:=H6.o.f 5 nL;have x6:=H6.o.c6;have xf6:=H6.o.f 6 nL;have x7:=H6.o.c7;have xf7:=H6.o.f 7 nL;have x8:=H6.o.c8;have xf8:=H6.o.f 8 nL;go_simp;refine kK hK (set9 HB3.o (by omega) _ _ _ _ _ _ _ _ _) ?_;clear hK K;clear x0 xf0 x1 xf1 x2 xf2 x3 xf3 x4 xf4 x5 xf5 x6 xf6 x7 xf7 x8 xf8;have HB4:=hI (set9 (N:=C2.1.size) HB3.o (by omega) (.string ⟨pop.toArray⟩) (.int .i64 pT0) (.bool pT1) (.int .u64 pn) (.int .i64 pv) (.bool pg) (.int .i64 pl) (.int .i64 pc) (.slice uq pk.length uc));have H6:=hI (H6.o.set9 (op':=pop) (T':=(pT0,pT1)) (n':=pn) (va':=pv) (g':=pg) (l':=pl) (c':=pc) (kv':=.slice uq pk.length uc));have hh:∀ g,g≠C2.1.size->((((((((((C3.setCell ⟨C2.1.size,0,none⟩ (.string ⟨pop.toArray⟩)).setCell ⟨C2.1.size,1,none⟩ (.int .i64 pT0)).setCell ⟨C2.1.size,2,none⟩ (.bool pT1)).setCell ⟨C2.1.size,3,none⟩ (.int .u64 pn)).setCell ⟨C2.1.size,4,none⟩ (.int .i64 pv)).setCell ⟨C2.1.size,5,none⟩ (.bool pg)).setCell ⟨C2.1.size,6,none⟩ (.int .i64 pl)).setCell ⟨C2.1.size,7,none⟩ (.int .i64 pc)).setCell ⟨C2.1.size,8,none⟩ (.slice uq pk.length uc))).1[g]? = C3.1[g]?:=fun g hg=>qUd _ _ _ hg _ _ _ _ _ _ _ _ _
    have H7:=hI (H7.o.turn (hh _ (by omega)));have HL:=hI (qU.move HL.o (ok':=fun g=>W.1.size<=g/\g≠C2.1.size/\g≠C0.1.size) (fun g hg hok=>⟨hok,hh _ hok.2.1⟩));clear hh;generalize ((((((((((C3.setCell ⟨C2.1.size,0,none⟩ (.string ⟨pop.toArray⟩)).setCell ⟨C2.1.size,1,none⟩ (.int .i64 pT0)).setCell ⟨C2.1.size,2,none⟩ (.bool pT1)).setCell ⟨C2.1.size,3,none⟩ (.int .u64 pn)).setCell ⟨C2.1.size,4,none⟩ (.int .i64 pv)).setCell ⟨C2.1.size,5,none⟩ (.bool pg)).setCell ⟨C2.1.size,6,none⟩ (.int .i64 pl)).setCell ⟨C2.1.size,7,none⟩ (.int .i64 pc)).setCell ⟨C2.1.size,8,none⟩ (.slice uq pk.length uc)))=C4 at *;refine wOn 13 fun K hK=>?_
    have x0:=H7.o.c0;have xf0:=H7.o.f 0 nL;have x1:=H7.o.c1;have xf1:=H7.o.f 1 nL;have x2:=H7.o.c2;have xf2:=H7.o.f 2 nL;have x3:=H7.o.c3;have xf3:=H7.o.f 3 nL;have x4:=H7.o.c4;have xf4:=H7.o.f 4 nL;have x5:=H7.o.c5;have xf5:=H7.o.f 5 nL;go_simp;refine kK hK (vN HB4.o (by omega) _ _ _ _ _ _) ?_;clear hK K;refine wDn ?_ _;exact⟨(C2.1.size,C0.1.size, .mk pop (pT0,pT1) pn pv pg pl pc pk, .slice uq pk.length uc),by simp only[Act.put,pZa,pZb,pZc,exV,exC],vN HB4.o (by omega) _ _ _ _ _ _,HP.o,H6.o.turn (qZE _ _ _ (by omega) _ _ _ _ _ _),H7.o.six bk bx bm bln bco (.slice qb bks.length cb),qU.move HL.o (fun g hg hok=>⟨hok.1,qZE _ _ _ hok.2.2 _ _ _ _ _ _⟩),by show W.1.size<=C2.1.size;omega,by show W.1.size<=C0.1.size;omega,by show C2.1.size≠C0.1.size;omega⟩
   ·go_simp;refine kK hK (bal HB1.o _) ?_;clear hK K;have HB2:=hI (bal HB1.o (.cells #[.string ⟨#[]⟩, .int .i64 0, .bool false, .int .u64 0, .int .i64 0, .bool false, .int .i64 0, .int .i64 0, .slice none 0 0] 76));have hA:Below C1.1.size C1 (C1.alloc (.cells #[.string ⟨#[]⟩, .int .i64 0, .bool false, .int .u64 0, .int .i64 0, .bool false, .int .i64 0, .int .i64 0, .slice none 0 0] 76)):=bal (Below.refl _ _) _;have hs2:C1.1.size < (C1.alloc (.cells #[.string ⟨#[]⟩, .int .i64 0, .bool false, .int .u64 0, .int .i64 0, .bool false, .int .i64 0, .int .i64 0, .slice none 0 0] 76)).1.size:=by simp
    have hw1:=HB1.o.size;have H7:=hI (H7.o.below hA);have H6:=hI (show qQf C1.1.size [] (0,false) 0 0 false 0 0 (.slice none 0 0) (C1.alloc (.cells #[.string ⟨#[]⟩, .int .i64 0, .bool false, .int .u64 0, .int .i64 0, .bool false, .int .i64 0, .int .i64 0, .slice none 0 0] 76))from qQf.new [] (0,false) 0 0 false 0 0 (.slice none 0 0) C1);clear hA;generalize (C1.alloc (.cells #[.string ⟨#[]⟩, .int .i64 0, .bool false, .int .u64 0, .int .i64 0, .bool false, .int .i64 0, .int .i64 0, .slice none 0 0] 76))=C2 at *;refine wOn 5 fun K hK=>?_
    go_simp;refine(HTG.o C2 HB2.o).mono ?_;rintro e C3 hX;rcases hX.cases with⟨p,u,hp,rfl,⟨kv,rfl,hles⟩,hb⟩ | ⟨l',c',code,hp,rfl,hb⟩;rotate_left
    ·exact⟨rfl,l',c',code,rfl,hp,HB2.o.trans (hb.mono HB2.o.size)⟩
    obtain⟨pop,⟨pT0,pT1⟩,pn,pv,pg,pl,pc,pk⟩:=p;obtain⟨uq,uc,rfl⟩:=hles.shape;simp only[exV,exC,Ex.kids]at *;have hw2:=HB2.o.size;have HB3:=hI (HB2.o.trans (hb.mono HB2.o.size));have hs3:=hb.size;have H6:=hI (H6.o.below hb);have H7:=hI (H7.o.below hb);have HL:=hI (hles.mono (ok':=fun g=>W.1.size<=g/\g≠C1.1.size/\g≠C0.1.size) (fun g hg=>by omega));have HP:=hI hp;refine kK hK HB3.o ?_;clear hK K hX hp hles hb;try simp only[Act.put,pZa,pZb,pZc]
    refine wOn 12 fun K hK=>?_
    have x0:=H6.o.c0;have xf0:=H6.o.f 0 nL;have x1:=H6.o.c1;have xf1:=H6.o.f 1 nL;have x2:=H6.o.c2;have xf2:=H6.o.f 2 nL;have x3:=H6.o.c3;have xf3:=H6.o.f 3 nL;have x4:=H6.o.c4;have xf4:=H6.o.f 4 nL;have x5:=H6.o.c5;have xf5:=H6.o.f 5 nL;have x6:=H6.o.c6;have xf6:=H6.o.f 6 nL;have x7:=H6.o.c7;have xf7:=H6.o.f 7 nL;have x8:=H6.o.c8;have xf8:=H6.o.f 8 nL;go_simp;refine kK hK (set9 HB3.o (by omega) _ _ _ _ _ _ _ _ _) ?_;clear hK K;clear x0 xf0 x1 xf1 x2 xf2 x3 xf3 x4 xf4 x5 xf5 x6 xf6 x7 xf7 x8 xf8;have HB4:=hI (set9 (N:=C1.1.size) HB3.o (by omega) (.string ⟨pop.toArray⟩) (.int .i64 pT0) (.bool pT1) (.int .u64 pn) (.int .i64 pv) (.bool pg) (.int .i64 pl) (.int .i64 pc) (.slice uq pk.length uc));have H6:=hI (H6.o.set9 (op':=pop) (T':=(pT0,pT1)) (n':=pn) (va':=pv) (g':=pg) (l':=pl) (c':=pc) (kv':=.slice uq pk.length uc));have hh:∀ g,g≠C1.1.size->((((((((((C3.setCell ⟨C1.1.size,0,none⟩ (.string ⟨pop.toArray⟩)).setCell ⟨C1.1.size,1,none⟩ (.int .i64 pT0)).setCell ⟨C1.1.size,2,none⟩ (.bool pT1)).setCell ⟨C1.1.size,3,none⟩ (.int .u64 pn)).setCell ⟨C1.1.size,4,none⟩ (.int .i64 pv)).setCell ⟨C1.1.size,5,none⟩ (.bool pg)).setCell ⟨C1.1.size,6,none⟩ (.int .i64 pl)).setCell ⟨C1.1.size,7,none⟩ (.int .i64 pc)).setCell ⟨C1.1.size,8,none⟩ (.slice uq pk.length uc))).1[g]? = C3.1[g]?:=fun g hg=>qUd _ _ _ hg _ _ _ _ _ _ _ _ _
    have H7:=hI (H7.o.turn (hh _ (by omega)));have HL:=hI (qU.move HL.o (ok':=fun g=>W.1.size<=g/\g≠C1.1.size/\g≠C0.1.size) (fun g hg hok=>⟨hok,hh _ hok.2.1⟩));clear hh;generalize ((((((((((C3.setCell ⟨C1.1.size,0,none⟩ (.string ⟨pop.toArray⟩)).setCell ⟨C1.1.size,1,none⟩ (.int .i64 pT0)).setCell ⟨C1.1.size,2,none⟩ (.bool pT1)).setCell ⟨C1.1.size,3,none⟩ (.int .u64 pn)).setCell ⟨C1.1.size,4,none⟩ (.int .i64 pv)).setCell ⟨C1.1.size,5,none⟩ (.bool pg)).setCell ⟨C1.1.size,6,none⟩ (.int .i64 pl)).setCell ⟨C1.1.size,7,none⟩ (.int .i64 pc)).setCell ⟨C1.1.size,8,none⟩ (.slice uq pk.length uc)))=C4 at *;refine wOn 13 fun K hK=>?_
    have x0:=H7.o.c0;have xf0:=H7.o.f 0 nL;have x1:=H7.o.c1;have xf1:=H7.o.f 1 nL;have x2:=H7.o.c2;have xf2:=H7.o.f 2 nL;have x3:=H7.o.c3;have xf3:=H7.o.f 3 nL;have x4:=H7.o.c4;have xf4:=H7.o.f 4 nL;have x5:=H7.o.c5;have xf5:=H7.o.f 5 nL;go_simp;refine kK hK (vN HB4.o (by omega) _ _ _ _ _ _) ?_;clear hK K;refine wDn ?_ _;exact⟨(C1.1.size,C0.1.size, .mk pop (pT0,pT1) pn pv pg pl pc pk, .slice uq pk.length uc),by simp only[Act.put,pZa,pZb,pZc,exV,exC],vN HB4.o (by omega) _ _ _ _ _ _,HP.o,H6.o.turn (qZE _ _ _ (by omega) _ _ _ _ _ _),H7.o.six bk bx bm bln bco (.slice qb bks.length cb),qU.move HL.o (fun g hg hok=>⟨hok.1,qZE _ _ _ hok.2.2 _ _ _ _ _ _⟩),by show W.1.size<=C1.1.size;omega,by show W.1.size<=C0.1.size;omega,by show C1.1.size≠C0.1.size;omega⟩
 ·rintro⟨N6,N7,p,kv⟩ w3 hIq;obtain⟨hb3,hp,hE,hLN,hles,h6,h7,h67⟩:=hIq;simp only at hp hE hLN hles h6 h7 h67;obtain⟨pop,⟨pT0,pT1⟩,pn,pv,pg,pl,pc,pk⟩:=p;obtain⟨uq,uc,rfl⟩:=hles.shape;have HPT:=hI (HPB.o.trans (by rw[hp];rfl:_=(wI (fs.map (·.h)) (.mk bk bx bm bln bco bks)).bind fun h=>(jQ (decide (h.1.t=(pT0,pT1))) (.mk bk bx bm bln bco bks) 41).bind fun _=>(wM ⟨M.gs,M.own fs⟩ bks h.1.params).bind fun es=>.ok (.mk pop (pT0,pT1) pn pv pg pl pc pk,h.2,es)));have HQ3:=hI (HQ1.o.below hb3);have HLB3:=hI (HLB.o.keep (hb3.mono (by omega)));have HL3:=hI hles;have HN7:=hI hLN;have HE6:=hI (show qQf N6 pop (pT0,pT1) pn pv pg pl pc (.slice uq pk.length uc) w3 from hE);have hs3:=hb3.size;clear n0 n1 n2 n3 n4 n5 k0 k1 k2 k3 k4 k5 j0 j1 j2 j3 j4 j5 hp hE hLN hles hb3 HTG HLA HLB HCA HCB HPB HQ1;simp only[exV,exC,Ex.kids]at *;have⟨x0,x1,x2,x3,x4,x5,x6,x7,x8,_⟩:=HE6.o.a;have⟨y0,y1,y2,y3,y4,y5,_⟩:=HN7.o.a;have s3:=HQ3.o.sb.c3;have sf3:=HQ3.o.sb.f 3 nL;have hl3:=HQ3.o.sb.lt;have hN7:¬N7=NS:=by omega
  have h7N:¬NS=N7:=by omega
  have hN3:¬NS=w3.1.size:=by omega
  have h3N:¬w3.1.size=NS:=by omega
  have h7l:=HN7.o.lt;have h73:¬N7=w3.1.size:=by omega
  have h37:¬w3.1.size=N7:=by omega
  try simp only[Act.put,pZa,pZb,pZc]
  go_wp2_with fail
  have hszV:(w3.setCell ⟨NS,3,none⟩ (.slice (some ⟨w3.1.size,0,none⟩) 1 1)).1.size=w3.1.size:=by simp
  have HBV:=hI (bal (Below.refl (w3.setCell ⟨NS,3,none⟩ (.slice (some ⟨w3.1.size,0,none⟩) 1 1)).1.size (w3.setCell ⟨NS,3,none⟩ (.slice (some ⟨w3.1.size,0,none⟩) 1 1))) (exO pop (pT0,pT1) pn pv pg pl pc (.slice uq pk.length uc)));have HQ4:=hI ((HQ3.o.setT (.slice (some ⟨w3.1.size,0,none⟩) 1 1)).below HBV.o);have HE4:=hI ((HE6.o.turn (hS w3 ⟨NS,3,none⟩ (.slice (some ⟨w3.1.size,0,none⟩) 1 1) N6 (by show N6≠NS;omega))).below HBV.o);have HN4:=hI ((HN7.o.turn (hS w3 ⟨NS,3,none⟩ (.slice (some ⟨w3.1.size,0,none⟩) 1 1) N7 (by show N7≠NS;omega))).below HBV.o);have HT4:=hI (qU.single (ok:=fun g=>w.1.size+1<=g) (p:=.mk pop (pT0,pT1) pn pv pg pl pc pk) (qU.mono (qU.setN (N:=NS) HL3.o (by omega) (o:=3) (.slice (some ⟨w3.1.size,0,none⟩) 1 1)) (ok':=fun g=>w.1.size+1<=g) (fun g hg=>by omega)) (show w.1.size+1<=(w3.setCell ⟨NS,3,none⟩ (.slice (some ⟨w3.1.size,0,none⟩) 1 1)).1.size by rw[hszV];omega));have HLB4:=hI ((HLB3.o.keep (jR (Below.refl _ _) hN (o:=3) (.slice (some ⟨w3.1.size,0,none⟩) 1 1))).keep (HBV.o.mono (by rw[hszV];omega)));simp only[exO,exC,hszV]at HQ4 HE4 HN4 HT4 HLB4;have hsV:w3.1.size < ((w3.setCell ⟨NS,3,none⟩ (.slice (some ⟨w3.1.size,0,none⟩) 1 1)).alloc (.cells #[.string ⟨pop.toArray⟩, .int .i64 pT0, .bool pT1, .int .u64 pn, .int .i64 pv, .bool pg, .int .i64 pl, .int .i64 pc, .slice uq pk.length uc] 76)).1.size:=by simp
  clear HBV hszV x0 x1 x2 x3 x4 x5 x6 x7 x8 y0 y1 y2 y3 y4 y5 s3 sf3 hl3 HQ3 HE6 HN7 HL3 HLB3 hN3 h3N h73 h37;generalize ((w3.setCell ⟨NS,3,none⟩ _).alloc _)=V at *;refine(qWL M.B M.gs fs M.ci (.mk bk bx bm bln bco bks) (.slice qb bks.length cb) V HQ4.o.ra HBX.o ⟨_,_,rfl⟩ HBK.o).mono ?_;rintro e w5 hX;rcases hX.cases with⟨r,u,hp,rfl,rfl,hb5⟩ | ⟨l',c',code,hp,rfl,hb5⟩;rotate_left
  ·exact⟨rfl,(HQ4.o.below hb5).bad (by rw[HPT.o,hp];rfl)⟩
  obtain⟨hd,i⟩:=r;obtain⟨hi,rfl,hln⟩:=qWK hp;have HLN:=hI hln;have HPC:=hI (HPT.o.trans (by rw[hp];rfl:_=(jQ (decide (fs[i].h.t=(pT0,pT1))) (.mk bk bx bm bln bco bks) 41).bind fun _=>(wM ⟨M.gs,M.own fs⟩ bks fs[i].h.params).bind fun es=>.ok (.mk pop (pT0,pT1) pn pv pg pl pc pk,i,es)));have HQ5:=hI (HQ4.o.below hb5);have HE5:=hI (HE4.o.below hb5);have HN5:=hI (HN4.o.below hb5);have HT5:=hI (HT4.o.below hb5);have HLB5:=hI (HLB4.o.keep (hb5.mono (by omega)));have hs5:=hb5.size;have s5:=HQ5.o.sb.c5;have sf5:=HQ5.o.sb.f 5 nL;clear hX hp hb5 HQ4 HE4 HN4 HT4 HLB4 HPT hln;go_wp2
  have HQ6:=hI (HQ5.o.setF i);have HE6:=hI (HE5.o.turn (hS w5 ⟨NS,5,none⟩ (.int .i64 i) N6 (by show N6≠NS;omega)));have HN6:=hI (HN5.o.turn (hS w5 ⟨NS,5,none⟩ (.int .i64 i) N7 (by show N7≠NS;omega)));have HT6:=hI (qU.setN (N:=NS) HT5.o (by omega) (o:=5) (.int .i64 i));have HLB6:=hI (HLB5.o.keep (jR (Below.refl _ _) hN (o:=5) (.int .i64 i)));have hsU:(w5.setCell ⟨NS,5,none⟩ (.int .i64 i)).1.size=w5.1.size:=by simp
  clear s5 sf5 HQ5 HE5 HN5 HT5 HLB5;generalize (w5.setCell ⟨NS,5,none⟩ (.int .i64 i))=U at *;have c1:=HQ6.o.mm.rd.c1;obtain⟨f0,f1,f2,f3,f4,f5⟩:=qZv HQ6.o.mm.rd.frow hi;have s5:=HQ6.o.sb.c5;have x1:=HE6.o.c1;have x2:=HE6.o.c2;have⟨y0,y1,y2,y3,y4,y5,_⟩:=HN6.o.a;have hfl:=HQ6.o.mm.rd.fl;have hi63:(i:Int) < (fs.length:Nat):=by omega
  have HNA:=hI (fun b w'=>qQk b (.mk bk bx bm bln bco bks) (.slice qb bks.length cb) 41 w');simp only[qZ,qS,qQ.kind,qQ.text,qQ.num,qQ.line,qQ.col,qQ.kids]at HNA;clear f0 f3 f4 f5;refine wRg (S:=fun w'=>Below U.1.size U w') 99 ?_;refine wTk 0 32 (.pointer (some ⟨M.B,0,none⟩)) ?_ (bD U) ?_
  ·intro _ y;go_simp
  refine wTk 1 33 (.pointer (some ⟨M.B,0,none⟩)) ?_ (bD U) ?_
  ·intro _ y;go_simp
  refine wTk 2 34 (.pointer (some ⟨M.B,0,none⟩)) ?_ (bD U) ?_
  ·intro _ y;go_simp
  refine wTk 3 35 (.pointer (some ⟨M.B,1,none⟩)) ?_ (bD U) ?_
  ·intro _ y;go_simp
  refine wTk 4 36 (.slice (some ⟨M.F,0,none⟩) fs.length M.FC) ?_ (bD U) ?_
  ·intro _ y;have c1:=kP y c1;go_simp
  refine wTk 5 37 (.pointer (some ⟨NS,0,none⟩)) ?_ (bD U) ?_
  ·intro _ y;go_simp
  refine wTk 6 38 (.pointer (some ⟨NS,0,none⟩)) ?_ (bD U) ?_
  ·intro _ y;go_simp
  refine wTk 7 39 (.pointer (some ⟨NS,5,none⟩)) ?_ (bD U) ?_
  ·intro _ y;go_simp
  refine wTk 8 40 (.int .i64 i) ?_ (bD U) ?_
  ·intro _ y;have s5:=kP y s5;go_simp
  refine wTk 9 41 (.pointer (some ⟨M.F,i * 6,none⟩)) ?_ (bD U) ?_
  ·intro _ y;go_simp
  refine wTk 10 42 (.pointer (some ⟨M.F,i * 6+1,none⟩)) ?_ (bD U) ?_
  ·intro _ y;go_simp
  refine wTk 11 43 (.agg #[.int .i64 fs[i].h.t.1, .bool fs[i].h.t.2]) ?_ (bD U) ?_
  ·intro _ y;have f1:=kP y f1;have f2:=kP y f2;go_simp
  refine wTk 12 44 (.pointer (some ⟨N6,1,none⟩)) ?_ (bD U) ?_
  ·intro _ y;go_simp
  refine wTk 13 45 (.agg #[.int .i64 pT0, .bool pT1]) ?_ (bD U) ?_
  ·intro _ y;have x1:=kP y x1;have x2:=kP y x2;go_simp
  generalize hT:fs[i].h.t=T at *;obtain⟨T0,T1⟩:=T;refine wTk 14 46 (.bool (decide (((T0,T1):Ty)=(pT0,pT1)))) ?_ (bD U) ?_
  ·intro _ y;clear y hT;by_cases h0:T0=pT0
   ·subst h0;cases T1 <;> cases pT1 <;> go_simp
   ·cases T1 <;> cases pT1 <;> go_simp
  refine wTk 15 47 (.agg #[.string ⟨bk.toArray⟩, .string ⟨bx.toArray⟩, .int .u64 bm, .int .i64 bln, .int .i64 bco, .slice qb bks.length cb]) ?_ (bD U) ?_
  ·intro _ y;obtain⟨y0,y1,y2,y3,y4,y5⟩:=kP6 y y0 y1 y2 y3 y4 y5;go_simp
  refine wOn 16 fun K hK=>?_
  go_simp;refine(HNA.o _ _).mono ?_;rintro e w7 (⟨hbt,rfl,hb7⟩ | ⟨hbt,rfl,hb7⟩);rotate_left
  ·exact⟨rfl,(HQ6.o.below (zF hb7)).bad (l':=bln) (c':=bco) (code:=41) (by rw[HPC.o,qPs,hbt];rfl)⟩
  have hb7:=zF hb7;refine kK hK hb7 ?_;clear hK K;refine wDn ?_ _;have HPD:=hI (HPC.o.trans (by rw[qPs,hbt];rfl:_=(wM ⟨M.gs,M.own fs⟩ bks fs[i].h.params).bind fun es=>.ok (.mk pop (pT0,pT1) pn pv pg pl pc pk,i,es)));have HQ7:=hI (HQ6.o.below hb7);have HT7:=hI (HT6.o.below hb7);have HLB7:=hI (HLB6.o.keep (hb7.mono HQ6.o.le));have s5:=HQ7.o.sb.c5;have y5:=(HN6.o.below hb7).c5;have s4:=HQ7.o.sb.c4;have sf4:=HQ7.o.sb.f 4 nL;obtain⟨q',c',e,_,_,hK7⟩:=HLB7.o.kids;injection e with e1 e2 e3;subst e1;have HK7:=hI (show yD M.L w7 bks qb from hK7);have hs7:=hb7.size;clear hT hbt hb7 c1 f1 f2 x1 x2 y0 y1 y2 y3 y4 HNA HQ6 HE6 HN6 HT6 HLB6 HPC hK7 e2 e3;go_wp2
  refine wRg (S:=fun w'=>Below w7.1.size w7 w') 11 ?_;refine wTk 0 49 (.pointer (some ⟨NS,0,none⟩)) ?_ (bD w7) ?_
  ·intro _ y;go_simp
  refine wTk 1 50 (.pointer (some ⟨M.B,0,none⟩)) ?_ (bD w7) ?_
  ·intro _ y;go_simp
  refine wTk 2 51 (.pointer (some ⟨NS,0,none⟩)) ?_ (bD w7) ?_
  ·intro _ y;go_simp
  refine wTk 3 52 (.pointer (some ⟨NS,0,none⟩)) ?_ (bD w7) ?_
  ·intro _ y;go_simp
  refine wTk 4 53 (.pointer (some ⟨NS,5,none⟩)) ?_ (bD w7) ?_
  ·intro _ y;go_simp
  refine wTk 5 54 (.int .i64 i) ?_ (bD w7) ?_
  ·intro _ y;have s5:=kP y s5;go_simp
  refine wTk 6 55 (.pointer (some ⟨N7,5,none⟩)) ?_ (bD w7) ?_
  ·intro _ y;go_simp
  refine wTk 7 56 (.slice qb bks.length cb) ?_ (bD w7) ?_
  ·intro _ y;have y5:=kP y y5;go_simp
  refine wOn 8 fun K hK=>?_
  go_simp;refine(qPg M.B M.L M.gs fs M.ci i bks qb cb _ HWK.o (HQ7.o.below (Below.refl _ _).drew).ra hi HLN.o (HQ7.o.below (Below.refl _ _).drew).le (HK7.o.keep (Below.refl _ _).drew)).mono ?_;rintro e w9 hX;rcases hX.cases with⟨es,u,hp,rfl,hles,hb9⟩ | ⟨l',c',code,hp,rfl,hb9⟩;rotate_left
  ·exact⟨rfl,(HQ7.o.below (zF hb9)).bad (HPD.o.trans (congrArg (fun z:CR (List Ex)=>z.bind fun es=>CR.ok (Ex.mk pop (pT0,pT1) pn pv pg pl pc pk,i,es)) hp))⟩
  have hb9:=zF hb9;have HQ9:=hI (HQ7.o.below hb9);have HT9:=hI (HT7.o.below hb9);have HF:=hI (HPD.o.trans (congrArg (fun z:CR (List Ex)=>z.bind fun es=>CR.ok (Ex.mk pop (pT0,pT1) pn pv pg pl pc pk,i,es)) hp));have HL9:=hI (hles.mono (ok':=fun g=>w.1.size+1<=g) (fun g hg=>by have:w7.1.size<=g:=hg;omega));obtain⟨vq,vc,rfl⟩:=hles.shape;have s4:=HQ9.o.sb.c4;have sf4:=HQ9.o.sb.f 4 nL;refine kK hK hb9 ?_;clear hK K;refine wOn 9 fun K hK=>?_
  go_simp;refine kK hK hb9 ?_;clear hK K;refine wOn 10 fun K hK=>?_
  go_simp;refine kK hK hb9 ?_;clear hK K;refine wOn 11 fun K hK=>?_
  go_simp;refine kD hK ?_;clear hK K;refine wDn ?_ _;go_wp2
  go_end0;exact qQY.okI HF.o ⟨_,_,(HQ9.o.setE (.slice vq es.length vc)).sb,qU.mono (qU.setN (N:=NS) HT9.o (by omega) (o:=4) (.slice vq es.length vc)) (fun g hg=>by omega),qU.mono (qU.setN (N:=NS) HL9.o (by omega) (o:=4) (.slice vq es.length vc)) (fun g hg=>by omega)⟩ (HQ9.o.setE (.slice vq es.length vc)).gr
theorem st_result(k x:List UInt8)(m ln co:Int)(ks:List qQ)(hkl:k.length<=1000000)(h1:(k == qP)=false)(h2:(k == qW)=false)(h3:(k == zW)=false)(h4:(k == qN)=true)
 (hks:∃ a b,ks=[a,b]/\wfE a=true/\b.text.length<=1000000/\qZV b.kids=true/\b.kids.length<=1000000):qUB (.mk k x m ln co ks):=by
 intro M fs v w h hL hl;obtain⟨q,c,rfl,hc1,hc2,hK⟩:=hl.kids;have hbl:=bal (bal (Below.refl w.1.size w) (qB (.mk k x m ln co ks) (.slice q ks.length c))) (sxO [] 0 0 (.slice none 0 0) (.slice none 0 0) 0 (.slice none 0 0) (.slice none 0 0));have HBL:=hI hbl;have HN:=hI ((Bx.new (.mk k x m ln co ks) (.slice q ks.length c) w).below (bal (Below.refl _ _) (sxO [] 0 0 (.slice none 0 0) (.slice none 0 0) 0 (.slice none 0 0) (.slice none 0 0))));have HT:=hI (jO.new [] 0 0 (.slice none 0 0) (.slice none 0 0) 0 (.slice none 0 0) (.slice none 0 0) (w.alloc (qB (.mk k x m ln co ks) (.slice q ks.length c))));simp only[World.size_alloc]at HT;have HKT0:=hI (show jX ((w.alloc (qB (.mk k x m ln co ks) (.slice q ks.length c))).alloc (sxO [] 0 0 (.slice none 0 0) (.slice none 0 0) 0 (.slice none 0 0) (.slice none 0 0))) (w.1.size+1) 73 from by
  have:=jO.kind (op:=[]) (l:=0) (c:=0) (tv:=.slice none 0 0) (ev:=.slice none 0 0) (fn:=0) (hv:=.slice none 0 0) (lv:=.slice none 0 0) (w.alloc (qB (.mk k x m ln co ks) (.slice q ks.length c)));simpa using this)
 have HM:=hI (show M.at fs ((w.alloc (qB (.mk k x m ln co ks) (.slice q ks.length c))).alloc (sxO [] 0 0 (.slice none 0 0) (.slice none 0 0) 0 (.slice none 0 0) (.slice none 0 0)))from h.below hbl);have HM0:=hI h;have HLI:=hI hl;have hsz:((w.alloc (qB (.mk k x m ln co ks) (.slice q ks.length c))).alloc (sxO [] 0 0 (.slice none 0 0) (.slice none 0 0) 0 (.slice none 0 0) (.slice none 0 0))).1.size=w.1.size+2:=by simp
 have HSC:=hI (qVP M.gs (fs.map (·.h)) (fs.getD M.ci noF).h.t k x m ln co ks (M.own fs));have HK:=hI hK;have hF0:M.L<=w.1.size:=hL;clear h hl hK hbl;simp only[qZ,qB,sxO,qS,qQ.kind,qQ.text,qQ.num,qQ.line,qQ.col,qQ.kids]at *;go_enter func122,ntmps122
 go_wp2
 generalize ((w.alloc _).alloc _)=W at *;have HSZ:=hI hsz;clear hsz;obtain⟨n0,n1,n2,n3,n4,n5⟩:=HN.o.cells;refine qXG (fun a N=>(((((((((a.put (some 7) (.pointer (some ⟨w.1.size,0,none⟩))).put (some 8) (.string ⟨k.toArray⟩)).put (some 9) (.string ⟨k.toArray⟩)).put (some 10) (.pointer (some ⟨w.1.size,3,none⟩))).put (some 11) (.int .i64 ln)).put (some 12) (.pointer (some ⟨w.1.size,4,none⟩))).put (some 13) (.int .i64 co)).put (some 14) (.agg #[.string ⟨k.toArray⟩, .int .i64 ln, .int .i64 co, .slice none 0 0, .slice none 0 0, .int .i64 0, .slice none 0 0, .slice none 0 0])).put (some 5) (.pointer (some ⟨N,0,none⟩)))) (fun N w'=>StIn W k ln co N w') ?_ ?_
 ·refine wRg (S:=fun w'=>Below W.1.size W w') 99 ?_;refine wTk 0 7 (.pointer (some ⟨w.1.size,0,none⟩)) ?_ (bD W) ?_
  ·intro _ y;go_simp
  refine wTk 1 8 (.string ⟨k.toArray⟩) ?_ (bD W) ?_
  ·intro _ y;obtain⟨n0,n3,n4⟩:=kP3 y n0 n3 n4;go_simp
  refine wTk 3 10 (.pointer (some ⟨w.1.size,3,none⟩)) ?_ (bD W) ?_
  ·intro _ y;go_simp
  refine wTk 4 11 (.int .i64 ln) ?_ (bD W) ?_
  ·intro _ y;obtain⟨n0,n3,n4⟩:=kP3 y n0 n3 n4;go_simp
  refine wTk 5 12 (.pointer (some ⟨w.1.size,4,none⟩)) ?_ (bD W) ?_
  ·intro _ y;go_simp
  refine wTk 6 13 (.int .i64 co) ?_ (bD W) ?_
  ·intro _ y;obtain⟨n0,n3,n4⟩:=kP3 y n0 n3 n4;go_simp
  refine wE (i:=2) (j:=8) rfl rfl (by kernel_rfl) (by rfl) (by rfl) (fun K hK=>?_) (fun K hK=>?_)
  ·go_simp;refine(yP ⟨k.toArray⟩ _ (by simpa[ByteArray.size]using hkl)).mono ?_;rintro e w3 ⟨rfl,hb3⟩;have hb3:=zF hb3;refine kK hK hb3 ?_;clear hK K;refine wTk 7 14 (.agg #[.string ⟨k.toArray⟩, .int .i64 ln, .int .i64 co, .slice none 0 0, .slice none 0 0, .int .i64 0, .slice none 0 0, .slice none 0 0]) ?_ (hb3) ?_
   ·intro _ y;go_simp
   refine wOn 8 fun K hK=>?_
   go_simp;refine kK hK (bal hb3 _) ?_;clear hK K;refine wOn 9 fun K hK=>?_
   go_simp;refine kK hK (bal hb3 _) ?_;clear hK K;refine wDn ?_ _;exact⟨w3.1.size,by simp only[Act.put,pZa,pZb,pZc],bal hb3 (sxO k ln co (.slice none 0 0) (.slice none 0 0) 0 (.slice none 0 0) (.slice none 0 0)),jO.new k ln co (.slice none 0 0) (.slice none 0 0) 0 (.slice none 0 0) (.slice none 0 0) w3,jO.kind w3,hb3.size⟩
  ·go_simp;refine kK hK (bal (Below.refl W.1.size W).drew (.cells #[.string ⟨#[]⟩, .int .i64 0, .int .i64 0, .slice none 0 0, .slice none 0 0, .int .i64 0, .slice none 0 0, .slice none 0 0] 73)) ?_;clear hK K;refine wOn 2 fun K hK=>?_
   go_simp;refine(yP ⟨k.toArray⟩ _ (by simpa[ByteArray.size]using hkl)).mono ?_;rintro e w3 ⟨rfl,hb3⟩;have hb4:=(bal (Below.refl W.1.size W).drew (.cells #[.string ⟨#[]⟩, .int .i64 0, .int .i64 0, .slice none 0 0, .slice none 0 0, .int .i64 0, .slice none 0 0, .slice none 0 0] 73)).trans (hb3.mono (by simp));refine kK hK hb4 ?_;clear hK K;refine wTk 7 14 (.agg #[.string ⟨k.toArray⟩, .int .i64 ln, .int .i64 co, .slice none 0 0, .slice none 0 0, .int .i64 0, .slice none 0 0, .slice none 0 0]) ?_ (hb4) ?_
   ·intro _ y;go_simp
   have hb3:Below (W.alloc (sxO [] 0 0 (.slice none 0 0) (.slice none 0 0) 0 (.slice none 0 0) (.slice none 0 0))).1.size (W.alloc (sxO [] 0 0 (.slice none 0 0) (.slice none 0 0) 0 (.slice none 0 0) (.slice none 0 0))) w3:=⟨hb3.os,hb3.tape,hb3.output,hb3.size,hb3.block⟩;have sb:=(jO.new [] 0 0 (.slice none 0 0) (.slice none 0 0) 0 (.slice none 0 0) (.slice none 0 0) W).below hb3;have kd:jX w3 W.1.size 73:=(jO.kind (op:=[]) (l:=0) (c:=0) (tv:=.slice none 0 0) (ev:=.slice none 0 0) (fn:=0) (hv:=.slice none 0 0) (lv:=.slice none 0 0) W).turn (hb3.block _ (by simp));have⟨z0,z1,z2,z3,z4,z5,z6,z7,_⟩:=sb.a;have⟨zf0,zf1,zf2,zf3,zf4,zf5,zf6,zf7,_⟩:=sb.b;refine wOn 9 fun K hK=>?_
   go_simp;refine kK hK (set8 hb4 (Nat.le_refl _) _ _ _ _ _ _ _ _) ?_;clear hK K;refine wDn ?_ _;exact⟨W.1.size,by simp only[Act.put,pZa,pZb,pZc],set8 hb4 (Nat.le_refl _) _ _ _ _ _ _ _ _,sb.set8,(((((((kd.set _ _ _).set _ _ _).set _ _ _).set _ _ _).set _ _ _).set _ _ _).set _ _ _).set _ _ _,Nat.le_refl _⟩
 ·intro NS w5 hIq;obtain⟨hb5,hS5,hkd,hNS⟩:=hIq;try simp only[Act.put,pZa,pZb,pZc]
  have hsz:=HSZ.o;have hs52:w.1.size+2<=w5.1.size:=by have:=hb5.size;omega
  have hLN:M.L<=NS:=by omega
  have hL5:M.L<=w5.1.size:=by have:=hb5.size;omega
  have HW5:=hI (HBL.o.trans (hb5.mono (by omega)));have HM5:=hI (show M.at fs w5 from HM.o.below hb5);have HN5:=hI (HN.o.below hb5);have HT5:=hI (HT.o.below hb5);have HS5:=hI hS5;have HKD:=hI hkd;have HLI5:=hI (show xZ w5 (· < M.L) (.mk k x m ln co ks) (.slice q ks.length c)from xZ.move (fun g hg hok=>⟨hok,HW5.o.block g hg⟩) _ _ HLI.o);have HK5:=hI (HK.o.keep (HW5.o.mono hL));have HKT:=hI (show jX w5 (w.1.size+1) 73 from by
   have h1:=HT.o.c0;exact(show jX W (w.1.size+1) 73 from HKT0.o).turn (hb5.block _ (by omega)))
  obtain⟨n0,n1,n2,n3,n4,n5⟩:=HN5.o.cells;clear hb5 hS5 hkd hsz;obtain⟨a,b,rfl,ha,hbx,hbw,hbk⟩:=hks;have HP:=hI (HSC.o.trans (by rw[h1,h2,h3,h4];simp only[bF,if_false,if_true,qVk,CR.bind_assoc];rfl:_=(qVk ⟨M.gs,M.own fs⟩ (fs.map (·.h)) a b).bind fun r=>.ok (.mk zW ln co [r.1] r.2.2 r.2.1 [] [],M.own fs)));have HC:=hI (result_any M fs NS k x m ln co a b q c k ln co (.slice none 0 0) (.slice none 0 0) 0 w5 HM5.o hL5 HK5.o (by simpa using hc1) ha hbx hbw hbk HS5.o HKD.o hLN);simp only[qZ,qQ.kind,qQ.text,qQ.num,qQ.line,qQ.col,qQ.kids,List.length]at *;unfold qP at h1;unfold qW at h2;unfold zW at h3;unfold qN at h4;clear ha hbx hbw hbk;go_wp2_with fail
  refine(HC.o).mono ?_;rintro e w6 hX;cases hp:qVk ⟨M.gs,M.own fs⟩ (fs.map (·.h)) a b with
  | bad l' c' code =>
   have hX':=hX;unfold qQY at hX';rw[hp]at hX';obtain⟨rfl,hg⟩:=hX';refine⟨rfl,qQX.badI (by rw[HP.o,hp];rfl) ?_⟩;exact⟨hg.os.trans HW5.o.os,hg.tape.trans HW5.o.tape,hg.output.trans HW5.o.output,Nat.le_trans HW5.o.size hg.size,fun b hb _ _ _=>(hg.block b (by have:=HW5.o.size;omega) (fun e=>by injection e with e;have:=HSZ.o;omega)).trans (HW5.o.block b hb)⟩
  | ok r =>
   obtain⟨pp,fi,es⟩:=r;unfold qQY at hX;rw[hp]at hX;obtain⟨rfl,⟨tv',ev',hS6,htv,hles⟩,hg⟩:=hX;obtain⟨uq,uc,rfl⟩:=hles.shape;obtain⟨tq,tc,rfl⟩:=htv.shape;have HTV:=hI htv;have hsz:=HSZ.o;have hs5:=HW5.o.size;have hg5:=hg.size;have hNT:w.1.size+1≠NS:=by omega
   have HQ:=hI (HP.o.trans (by rw[hp];rfl:_=.ok (.mk zW ln co [pp] es fi [] [],M.own fs)));have HT6:=hI (HT5.o.turn (hg.block _ HT5.o.lt (fun e=>hNT (by injection e))));have HS6:=hI hS6;have HM6:=hI (show M.at fs w6 from Mem.keep HM5.o (fun b S kk hSq=>hg.block b (by obtain⟨cs,fr,kk⟩:=kk;exact qZF kk) (fun e=>(kk.ne HKD.o hSq) (by injection e))) (fun b kk=>hg.block b (by obtain⟨es',cc,kk⟩:=kk;exact qZF kk) (fun e=>(vU kk HKD.o) (by injection e))) (fun b hb hbL=>hg.block b hb (fun e=>by injection e with e;omega)));have HTN:=hI ((yX.toN (NS:=NS) (yX.of_below (F:=M.F) (Mo:=M.Mo) (vv:=M.vv fs) HW5.o)).trans (grown_N (vv:=M.vv fs) hg) (.inl rfl));have HKT6:=hI (HKT.o.turn (hg.block _ HT5.o.lt (fun e=>hNT (by injection e))));have HLS:=hI hles;have hvw:∀ g,(M.vv fs).ownBlock=some g->g < w.1.size:=Mem.vlt HM0.o;have hi:=HM0.o.rd.hi;have HI:=hI hi;have⟨r0,r1,r2,r3,r4,r5,r6,r7,_⟩:=HT6.o.a;have⟨rf0,rf1,rf2,rf3,rf4,rf5,rf6,rf7,_⟩:=HT6.o.b;have⟨s0,s1,s2,s3,s4,s5,s6,s7,_⟩:=hS6.a;have rl:=HT6.o.lt;clear n0 n1 n2 n3 n4 n5 hp hS6 hles htv hg HC hi hsz;go_wp2
   refine bodyPost_ret (v:=sxV (.mk zW ln co [pp] es fi [] []) ⟨.slice tq 1 tc, .slice uq es.length uc, .slice none 0 0, .slice none 0 0⟩) (by simp[results,results122,go_sem,sxV,r0,r1,r2,r3,r4,r5,r6,r7,rl]) rfl (qQX.okI (vv':=M.vv fs) HQ.o ?_ ?_ (.inl rfl) ⟨_,rfl,?_⟩)
   ·rw[show xU fs M.ci (M.own fs) (M.vv fs)=fs from qXB HI.o];exact Mem.set8 HM6.o HKT6.o (by omega) _ _ _ _ _ _ _ _
   ·exact yX.fin HTN.o (by have:=HSZ.o;omega) (by omega) _ _ _ _ _ _ _ _
   ·refine⟨qU.move HTV.o (fun g hg hok=>?_),qU.move HLS.o (fun g hg hok=>?_),jE.nil _ _,jE.nil _ _⟩;all_goals exact⟨⟨by omega,fun e=>by have:=hvw g e.symm;omega⟩,qJI _ _ _ (by omega) _ _ _ _ _ _ _ _⟩
def BlW(rec:WT->qQ->Ws):Prop:=∀ t ws,rec .block t=some ws->ws.length<=900000->qZl t->qUz t
section
variable {rec:WT->qQ->Ws}
theorem qKG(he:qMD rec){k x:List UInt8}{m ln co:Int}{e b:qQ}{r:List qQ}{ws:List (List UInt8)}(h:qQi rec (.mk k x m ln co (e :: b :: r))=some ws)(hn:qZl e):wfE e=true/\∃ w,rec .block b=some w/\w.length<=ws.length:=by
 rw[qJH]at h;simp only at h;obtain⟨_,y,_,h2,rfl⟩:=qK h;obtain⟨z,y2,h3,h4,rfl⟩:=qK h2;obtain⟨_,y3,_,h5,rfl⟩:=qK h4;exact⟨he _ _ h3 hn,y3,h5,by simp;omega⟩
theorem qMl(he:qMD rec){k x:List UInt8}{m ln co:Int}{ks:List qQ}{ws:List (List UInt8)}(h:qKY rec (.mk k x m ln co ks)=some ws)(hn:qZl (.mk k x m ln co ks)):k=zW/\qZV ks=true:=by
 have hN:=qQx hn;rw[qWJ]at h;obtain⟨h0,h1⟩:=zN h;simp only[bE,beq_iff_eq]at h0;obtain⟨_,y,_,h2,_⟩:=qK h1;obtain⟨z,_,h3,_,_⟩:=qK h2;exact⟨h0.1,qMC fun t ht=>by
  obtain⟨w,hw⟩:=qKC h3 t ht;exact he _ _ hw (hN.2.2.2.2.2.mem t ht)⟩
theorem st_of(he:qMD rec)(hb:BlW rec){t:qQ}{ws:List (List UInt8)}(h:qJr rec t=some ws)(hl:ws.length<=900000)(hn:qZl t)(hk:(t.kind == qE)=false):qUB t:=by
 obtain⟨k,x,m,ln,co,ks⟩:=t;have hN:=qQx hn;have hNe:=fun(t:qQ) (ht:t∈ks)=>hN.2.2.2.2.2.mem t ht
 rw[wX]at h;split at h
 ·rename_i h0;rw[beq_iff_eq]at h0;subst h0;rw[qJb]at h;obtain⟨_,h1⟩:=zN h;rcases ks with _ | ⟨e,_ | ⟨b,_ | ⟨c,_ | ⟨d,r⟩⟩⟩⟩
  ·simp at h1
  ·simp at h1
  ·simp only at h1;obtain⟨h2,w,h3,h4⟩:=qKG he h1 (hNe e (by simp));exact qJj _ x m ln co _ hN.1 rfl rfl rfl rfl rfl ⟨e,[b],rfl,h2,by simp,fun u hu=>by
    obtain rfl:u=b:=by simpa using hu
    exact hb _ _ h3 (by omega) (hNe _ (by simp))⟩
  ·simp only at h1;obtain⟨y,z,h2,h3,rfl⟩:=qK h1;obtain⟨_,z2,_,h4,rfl⟩:=qK h3;obtain⟨h5,w,h6,h7⟩:=qKG he h2 (hNe e (by simp));refine qJj _ x m ln co _ hN.1 rfl rfl rfl rfl rfl ⟨e,[b,c],rfl,h5,by simp,fun u hu=>?_⟩;simp only[lL]at hl;have hu':u=b\/u=c:=by simpa using hu
   rcases hu' with rfl | rfl
   ·exact hb _ _ h6 (by omega) (hNe _ (by simp))
   ·exact hb _ _ h4 (by omega) (hNe _ (by simp))
  ·simp at h1
 split at h
 ·rename_i h0;rw[beq_iff_eq]at h0;subst h0;obtain⟨h00,h1⟩:=zN h;rcases ks with _ | ⟨e,_ | ⟨b,_ | ⟨c,r⟩⟩⟩
  ·simp at h00
  ·simp at h00
  ·obtain⟨h2,w,h3,h4⟩:=qKG he h1 (hNe e (by simp));exact qJj _ x m ln co _ hN.1 rfl rfl rfl rfl rfl ⟨e,[b],rfl,h2,by simp,fun u hu=>by
    obtain rfl:u=b:=by simpa using hu
    exact hb _ _ h3 (by omega) (hNe _ (by simp))⟩
  ·simp at h00
 split at h
 ·rename_i h0;rw[show(qQ.mk k x m ln co ks).kind=k from rfl,h0]at hk;cases hk
 split at h
 ·rename_i h0;rw[beq_iff_eq]at h0;subst h0;obtain⟨y,_,h1,_,_⟩:=qK h;exact st_call _ x m ln co _ hN.1 rfl rfl rfl ⟨(qMl he h1 hn).2,hN.2.2.2.2.1,hN.2.1⟩
 split at h
 ·rename_i h0;rw[beq_iff_eq]at h0;subst h0;obtain⟨h00,h1⟩:=zN h;simp only[bE,decide_eq_true_eq]at h00;obtain⟨y,_,h2,_,_⟩:=qK h1;obtain⟨_,z,_,h3,_⟩:=qK h2;exact st_return _ x m ln co _ hN.1 rfl rfl rfl rfl rfl ⟨qMC fun t ht=>by
   obtain⟨w,hw⟩:=qKC h3 t ht;exact he _ _ hw (hNe t ht),by have:ks.length<=1:=h00.2;omega⟩
 split at h
 ·rename_i h0;have h0':k=qF\/k=qD:=by simpa using h0
  rcases ks with _ | ⟨e,_ | ⟨b,r⟩⟩
  ·simp at h
  ·simp only at h;obtain⟨_,h1⟩:=zN h;obtain⟨y,_,h2,_,_⟩:=qK h1;obtain⟨_,z,_,h3,_⟩:=qK h2;obtain⟨q,_,h4,_,_⟩:=qK h3;rcases h0' with rfl | rfl <;> exact qJj _ x m ln co _ hN.1 rfl rfl rfl rfl rfl ⟨e,[],rfl,he _ _ h4 (hNe e (by simp)),by simp,fun u hu=>by simp at hu⟩
  ·simp at h
 ·obtain⟨y,_,h1,_,_⟩:=qK h;rw[qK7]at h1;obtain⟨_,h2⟩:=zN h1;rcases ks with _ | ⟨a,_ | ⟨b,_ | ⟨c,r⟩⟩⟩
  ·simp at h2
  ·simp only at h2;obtain⟨h3,h4⟩:=zN h2;rw[beq_iff_eq]at h3;subst h3;obtain⟨z,_,h5,_,_⟩:=qK h4;exact st_nondet _ x m ln co _ hN.1 rfl rfl ⟨a,rfl,qKf he h5 (hNe a (by simp))⟩
  ·simp only at h2;split at h2
   ·rename_i h3;rw[beq_iff_eq]at h3;subst h3;obtain⟨z,z2,h5,h6,_⟩:=qK h2;obtain⟨_,z3,_,h7,_⟩:=qK h6;exact st_assign _ x m ln co _ hN.1 rfl ⟨a,b,rfl,qKf he h5 (hNe a (by simp)),he _ _ h7 (hNe b (by simp))⟩
   ·obtain⟨h3,h4⟩:=zN h2;rw[beq_iff_eq]at h3;subst h3;obtain⟨z,z2,h5,h6,_⟩:=qK h4;obtain⟨_,z3,_,h7,_⟩:=qK h6;have hNb:=hNe b (by simp);obtain⟨bk,bx,bm,bl,bc,bks⟩:=b;have hB:=qQx hNb;exact st_result _ x m ln co _ hN.1 rfl rfl rfl rfl ⟨a,_,rfl,qKf he h5 (hNe a (by simp)),hB.2.1,(qMl he h7 hNb).2,hB.2.2.2.2.1⟩
  ·simp at h2
theorem local_of{t:qQ}{ws:List (List UInt8)}(h:qJr rec t=some ws)(hn:qZl t)(hk:(t.kind == qE)=true):t.text.length<=1000000/\∃ a r,t.kids=a :: r:=by
 obtain⟨k,x,m,ln,co,ks⟩:=t;have hN:=qQx hn;refine⟨hN.2.1,?_⟩;rw[wX]at h;have hk':k=qE:=by simpa[qQ.kind]using hk
 subst hk';rw[if_neg (by decide),if_neg (by decide),if_pos (by decide)]at h;obtain⟨h0,_⟩:=zN h;rcases ks with _ | ⟨a,r⟩
 ·simp at h0
 ·exact⟨a,r,rfl⟩
theorem bl_of(he:qMD rec)(hb:BlW rec){t:qQ}{ws:List (List UInt8)}(h:qVv rec t=some ws)(hl:ws.length<=900000)(hn:qZl t):qUz t:=by
 obtain⟨k,x,m,ln,co,ks⟩:=t;have hN:=qQx hn;rw[qYY]at h;obtain⟨_,h1⟩:=zN h;obtain⟨_,y,_,h2,rfl⟩:=qK h1;obtain⟨z,_,h3,_,rfl⟩:=qK h2;simp only[lL]at hl;have hlen:ks.length<=z.length:=qPQ (fun t _ w hw=>stmtW_pos hw) h3;refine block_ok _ (by show ks.length<=_;omega) (fun u hu hk=>?_) (fun u hu hk=>?_)
 ·obtain⟨w,hw,hwl⟩:=qJM h3 u hu;exact st_of he hb hw (by omega) (hN.2.2.2.2.2.mem u hu) hk
 ·obtain⟨w,hw,_⟩:=qJM h3 u hu;exact local_of hw (hN.2.2.2.2.2.mem u hu) hk
end
theorem qYd:∀ n,BlW (qZB n)
 | 0,t,ws,h,_,_=>by simp[qZB]at h
 | n+1,t,ws,h,hl,hn=>bl_of (qUs n) (qYd n) (by simpa[qZB,stepW]using h) hl hn
end Go.Proofs.YtiajhekdhhhghaaGreatDoor
