/- Walks. -/
import Derived.Test.YtiajhekdhhhghaaGreatDoorMal
set_option linter.all false
set_option maxHeartbeats 8000000
set_option maxRecDepth 100000
namespace Go.Proofs.YtiajhekdhhhghaaGreatDoor
open Tryz Go.Proofs.Tryz
open Go Go.RowKit
theorem st_return(k x:List UInt8)(m ln co:Int)(ks:List qQ)(hkl:k.length<=1000000)(h1:(k == qP)=false)(h2:(k == qW)=false)(h3:(k == zW)=false)(h4:(k == qN)=false)(h5:(k == qV)=true)
 (hret:qZV ks=true/\ks.length<=2):qUB (.mk k x m ln co ks):=by
 intro M fs v w h hL hl;obtain⟨q,c,rfl,hc1,hc2,hK⟩:=hl.kids;have hbl:=bal (bal (Below.refl w.1.size w) (qB (.mk k x m ln co ks) (.slice q ks.length c))) (sxO [] 0 0 (.slice none 0 0) (.slice none 0 0) 0 (.slice none 0 0) (.slice none 0 0));have HBL:=hI hbl;have HN:=hI ((Bx.new (.mk k x m ln co ks) (.slice q ks.length c) w).below (bal (Below.refl _ _) (sxO [] 0 0 (.slice none 0 0) (.slice none 0 0) 0 (.slice none 0 0) (.slice none 0 0))));have HT:=hI (jO.new [] 0 0 (.slice none 0 0) (.slice none 0 0) 0 (.slice none 0 0) (.slice none 0 0) (w.alloc (qB (.mk k x m ln co ks) (.slice q ks.length c))));simp only[World.size_alloc]at HT;have HKT0:=hI (show jX ((w.alloc (qB (.mk k x m ln co ks) (.slice q ks.length c))).alloc (sxO [] 0 0 (.slice none 0 0) (.slice none 0 0) 0 (.slice none 0 0) (.slice none 0 0))) (w.1.size+1) 73 from by
  have:=jO.kind (op:=[]) (l:=0) (c:=0) (tv:=.slice none 0 0) (ev:=.slice none 0 0) (fn:=0) (hv:=.slice none 0 0) (lv:=.slice none 0 0) (w.alloc (qB (.mk k x m ln co ks) (.slice q ks.length c)));simpa using this)
 have HM:=hI (show M.at fs ((w.alloc (qB (.mk k x m ln co ks) (.slice q ks.length c))).alloc (sxO [] 0 0 (.slice none 0 0) (.slice none 0 0) 0 (.slice none 0 0) (.slice none 0 0)))from h.below hbl);have HM0:=hI h;have HLI:=hI hl;have hsz:((w.alloc (qB (.mk k x m ln co ks) (.slice q ks.length c))).alloc (sxO [] 0 0 (.slice none 0 0) (.slice none 0 0) 0 (.slice none 0 0) (.slice none 0 0))).1.size=w.1.size+2:=by simp
 have HSC:=hI (qVP M.gs (fs.map (·.h)) (fs.getD M.ci noF).h.t k x m ln co ks (M.own fs));have HK:=hI hK;have HRET:=hI hret;have hF0:M.L<=w.1.size:=hL;clear h hl hK hbl;simp only[qZ,qB,sxO,qS,tQ]at *;go_enter func122,ntmps122
 go_wp2
 generalize ((w.alloc _).alloc _)=W at *;have HSZ:=hI hsz;clear hsz;obtain⟨n0,n1,n2,n3,n4,n5⟩:=HN.o.cells;refine qXG (fun a N=>(((((((((a.put (some 7) (.pointer (some ⟨w.1.size,0,none⟩))).put (some 8) (.string ⟨k.toArray⟩)).put (some 9) (.string ⟨k.toArray⟩)).put (some 10) (.pointer (some ⟨w.1.size,3,none⟩))).put (some 11) (.int .i64 ln)).put (some 12) (.pointer (some ⟨w.1.size,4,none⟩))).put (some 13) (.int .i64 co)).put (some 14) (.agg #[.string ⟨k.toArray⟩, .int .i64 ln, .int .i64 co, .slice none 0 0, .slice none 0 0, .int .i64 0, .slice none 0 0, .slice none 0 0])).put (some 5) (.pointer (some ⟨N,0,none⟩)))) (fun N w'=>StIn W k ln co N w') ?_ ?_
 ·refine wRg (S:=fun w'=>Below W.1.size W w') 99 ?_;refine wTk 0 7 (.pointer (some ⟨w.1.size,0,none⟩)) ?_ (bD W) ?_
  ·intro _ y;go_simp
  refine wTk 1 8 (.string ⟨k.toArray⟩) ?_ (bD W) ?_
  ·intro _ y;obtain⟨n0,n3,n4⟩:=kP3 y n0 n3 n4;go_simp
  refine wTk 3 10 (.pointer (some ⟨w.1.size,3,none⟩)) ?_ (bD W) ?_
  ·intro _ y;go_simp
  refine wTk 4 11 (.int .i64 ln) ?_ (bD W) ?_
  ·intro _ y;obtain⟨n0,n3,n4⟩:=kP3 y n0 n3 n4;go_simp
  refine wTk 5 12 (.pointer (some ⟨w.1.size,4,none⟩)) ?_ (bD W) ?_
  ·intro _ y;go_simp
  refine wTk 6 13 (.int .i64 co) ?_ (bD W) ?_
  ·intro _ y;obtain⟨n0,n3,n4⟩:=kP3 y n0 n3 n4;go_simp
  refine wE (i:=2) (j:=8) rfl rfl (by kernel_rfl) (by rfl) (by rfl) (fun K hK=>?_) (fun K hK=>?_)
  ·go_simp;refine(yP ⟨k.toArray⟩ _ (by simpa[ByteArray.size]using hkl)).mono ?_;rintro e w3 ⟨rfl,hb3⟩;have hb3:=zF hb3;refine kK hK hb3 ?_;clear hK K;refine wTk 7 14 (.agg #[.string ⟨k.toArray⟩, .int .i64 ln, .int .i64 co, .slice none 0 0, .slice none 0 0, .int .i64 0, .slice none 0 0, .slice none 0 0]) ?_ (hb3) ?_
   ·intro _ y;go_simp
   refine wOn 8 fun K hK=>?_
   go_simp;refine kK hK (bal hb3 _) ?_;clear hK K;refine wOn 9 fun K hK=>?_
   go_simp;refine kK hK (bal hb3 _) ?_;clear hK K;refine wDn ?_ _;exact⟨w3.1.size,by simp only[Act.put,pZa,pZb,pZc],bal hb3 (sxO k ln co (.slice none 0 0) (.slice none 0 0) 0 (.slice none 0 0) (.slice none 0 0)),jO.new k ln co (.slice none 0 0) (.slice none 0 0) 0 (.slice none 0 0) (.slice none 0 0) w3,jO.kind w3,hb3.size⟩
  ·go_simp;refine kK hK (bal (Below.refl W.1.size W).drew (.cells #[.string ⟨#[]⟩, .int .i64 0, .int .i64 0, .slice none 0 0, .slice none 0 0, .int .i64 0, .slice none 0 0, .slice none 0 0] 73)) ?_;clear hK K;refine wOn 2 fun K hK=>?_
   go_simp;refine(yP ⟨k.toArray⟩ _ (by simpa[ByteArray.size]using hkl)).mono ?_;rintro e w3 ⟨rfl,hb3⟩;have hb4:=(bal (Below.refl W.1.size W).drew (.cells #[.string ⟨#[]⟩, .int .i64 0, .int .i64 0, .slice none 0 0, .slice none 0 0, .int .i64 0, .slice none 0 0, .slice none 0 0] 73)).trans (hb3.mono (by simp));refine kK hK hb4 ?_;clear hK K;refine wTk 7 14 (.agg #[.string ⟨k.toArray⟩, .int .i64 ln, .int .i64 co, .slice none 0 0, .slice none 0 0, .int .i64 0, .slice none 0 0, .slice none 0 0]) ?_ (hb4) ?_
   ·intro _ y;go_simp
   have hb3:Below (W.alloc (sxO [] 0 0 (.slice none 0 0) (.slice none 0 0) 0 (.slice none 0 0) (.slice none 0 0))).1.size (W.alloc (sxO [] 0 0 (.slice none 0 0) (.slice none 0 0) 0 (.slice none 0 0) (.slice none 0 0))) w3:=⟨hb3.os,hb3.tape,hb3.output,hb3.size,hb3.block⟩;have sb:=(jO.new [] 0 0 (.slice none 0 0) (.slice none 0 0) 0 (.slice none 0 0) (.slice none 0 0) W).below hb3;have kd:jX w3 W.1.size 73:=(jO.kind (op:=[]) (l:=0) (c:=0) (tv:=.slice none 0 0) (ev:=.slice none 0 0) (fn:=0) (hv:=.slice none 0 0) (lv:=.slice none 0 0) W).turn (hb3.block _ (by simp));have⟨z0,z1,z2,z3,z4,z5,z6,z7,_⟩:=sb.a;have⟨zf0,zf1,zf2,zf3,zf4,zf5,zf6,zf7,_⟩:=sb.b;refine wOn 9 fun K hK=>?_
   go_simp;refine kK hK (set8 hb4 (Nat.le_refl _) _ _ _ _ _ _ _ _) ?_;clear hK K;refine wDn ?_ _;exact⟨W.1.size,by simp only[Act.put,pZa,pZb,pZc],set8 hb4 (Nat.le_refl _) _ _ _ _ _ _ _ _,sb.set8,(((((((kd.set _ _ _).set _ _ _).set _ _ _).set _ _ _).set _ _ _).set _ _ _).set _ _ _).set _ _ _,Nat.le_refl _⟩
 ·intro NS w5 hIq;obtain⟨hb5,hS5,hkd,hNS⟩:=hIq;try simp only[Act.put,pZa,pZb,pZc]
  have hsz:=HSZ.o;have hs52:w.1.size+2<=w5.1.size:=by have:=hb5.size;omega
  have hLN:M.L<=NS:=by omega
  have hL5:M.L<=w5.1.size:=by have:=hb5.size;omega
  have HW5:=hI (HBL.o.trans (hb5.mono (by omega)));have HM5:=hI (show M.at fs w5 from HM.o.below hb5);have HN5:=hI (HN.o.below hb5);have HT5:=hI (HT.o.below hb5);have HS5:=hI hS5;have HKD:=hI hkd;have HLI5:=hI (show xZ w5 (· < M.L) (.mk k x m ln co ks) (.slice q ks.length c)from xZ.move (fun g hg hok=>⟨hok,HW5.o.block g hg⟩) _ _ HLI.o);have HK5:=hI (HK.o.keep (HW5.o.mono hL));have HKT:=hI (show jX w5 (w.1.size+1) 73 from by
   have h1:=HT.o.c0;exact(show jX W (w.1.size+1) 73 from HKT0.o).turn (hb5.block _ (by omega)))
  obtain⟨n0,n1,n2,n3,n4,n5⟩:=HN5.o.cells;clear hb5 hS5 hkd hsz;obtain⟨hwk,hkl2⟩:=HRET.o;have HP:=hI (HSC.o.trans (by rw[h1,h2,h3,h4,h5];rfl:_=(qXp ⟨M.gs,M.own fs⟩ (fs.getD M.ci noF).h.t (.mk k x m ln co ks)).bind fun es=>.ok (.mk k ln co [] es 0 [] [],M.own fs)));have HC:=hI (leave_any M.B M.L NS M.gs fs M.ci k x m ln co ks q c k ln co (.slice none 0 0) (.slice none 0 0) 0 (.slice none 0 0) (.slice none 0 0) w5 hwk hkl2 ⟨_,_,_,_,_,_,_,_,HM5.o.rd⟩ hL5 HK5.o HS5.o);simp only[qZ,tQ]at HC;unfold qP at h1;unfold qW at h2;unfold zW at h3;unfold qN at h4;unfold qV at h5;clear hkl2 hwk;go_wp2_with fail
  refine(HC.o).mono ?_;rintro e w6 hX;cases hp:qXp ⟨M.gs,M.own fs⟩ (fs.getD M.ci noF).h.t (.mk k x m ln co ks)with
  | bad l' c' code =>
   have hX':=hX;unfold qQY at hX';rw[show qXp ⟨M.gs,(fs.getD M.ci noF).vars⟩ (fs.getD M.ci noF).h.t (.mk k x m ln co ks)=.bad l' c' code from hp]at hX';obtain⟨rfl,hg⟩:=hX';refine⟨rfl,qQX.badI (by rw[HP.o,hp];rfl) ?_⟩;exact⟨hg.os.trans HW5.o.os,hg.tape.trans HW5.o.tape,hg.output.trans HW5.o.output,Nat.le_trans HW5.o.size hg.size,fun b hb _ _ _=>(hg.block b (by have:=HW5.o.size;omega) (fun e=>by injection e with e;have:=HSZ.o;omega)).trans (HW5.o.block b hb)⟩
  | ok es =>
   unfold qQY at hX;rw[show qXp ⟨M.gs,(fs.getD M.ci noF).vars⟩ (fs.getD M.ci noF).h.t (.mk k x m ln co ks)=.ok es from hp]at hX;obtain⟨rfl,⟨kv,hS6,hles⟩,hg⟩:=hX;obtain⟨uq,uc,rfl⟩:=hles.shape;have hsz:=HSZ.o;have hs5:=HW5.o.size;have hg5:=hg.size;have hNT:w.1.size+1≠NS:=by omega
   have HQ:=hI (HP.o.trans (by rw[hp];rfl:_=.ok (.mk k ln co [] es 0 [] [],M.own fs)));have HT6:=hI (HT5.o.turn (hg.block _ HT5.o.lt (fun e=>hNT (by injection e))));have HS6:=hI hS6;have HM6:=hI (show M.at fs w6 from Mem.keep HM5.o (fun b S kk hSq=>hg.block b (by obtain⟨cs,fr,kk⟩:=kk;exact qZF kk) (fun e=>(kk.ne HKD.o hSq) (by injection e))) (fun b kk=>hg.block b (by obtain⟨es',cc,kk⟩:=kk;exact qZF kk) (fun e=>(vU kk HKD.o) (by injection e))) (fun b hb hbL=>hg.block b hb (fun e=>by injection e with e;omega)));have HTN:=hI ((yX.toN (NS:=NS) (yX.of_below (F:=M.F) (Mo:=M.Mo) (vv:=M.vv fs) HW5.o)).trans (grown_N (vv:=M.vv fs) hg) (.inl rfl));have HKT6:=hI (HKT.o.turn (hg.block _ HT5.o.lt (fun e=>hNT (by injection e))));have HLS:=hI hles;have hvw:∀ g,(M.vv fs).ownBlock=some g->g < w.1.size:=Mem.vlt HM0.o;have hi:=HM0.o.rd.hi;have HI:=hI hi;have⟨r0,r1,r2,r3,r4,r5,r6,r7,_⟩:=HT6.o.a;have⟨rf0,rf1,rf2,rf3,rf4,rf5,rf6,rf7,_⟩:=HT6.o.b;have⟨s0,s1,s2,s3,s4,s5,s6,s7,_⟩:=hS6.a;have rl:=HT6.o.lt;clear n0 n1 n2 n3 n4 n5 hp hS6 hles hg HC hi hsz;go_wp2
   refine bodyPost_ret (v:=sxV (.mk k ln co [] es 0 [] []) ⟨.slice none 0 0, .slice uq es.length uc, .slice none 0 0, .slice none 0 0⟩) (by simp[results,results122,go_sem,sxV,r0,r1,r2,r3,r4,r5,r6,r7,rl]) rfl (qQX.okI (vv':=M.vv fs) HQ.o ?_ ?_ (.inl rfl) ⟨_,rfl,?_⟩)
   ·rw[show xU fs M.ci (M.own fs) (M.vv fs)=fs from qXB HI.o];exact Mem.set8 HM6.o HKT6.o (by omega) _ _ _ _ _ _ _ _
   ·exact yX.fin HTN.o (by have:=HSZ.o;omega) (by omega) _ _ _ _ _ _ _ _
   ·refine⟨qU.nil _ _,qU.move HLS.o (fun g hg hok=>?_),jE.nil _ _,jE.nil _ _⟩;exact⟨⟨by omega,fun e=>by have:=hvw g e.symm;omega⟩,qJI _ _ _ (by omega) _ _ _ _ _ _ _ _⟩
theorem qJj(k x:List UInt8)(m ln co:Int)(ks:List qQ)(hkl:k.length<=1000000)(h1:(k == qP)=false)(h2:(k == qW)=false)(h3:(k == zW)=false)(h4:(k == qN)=false)(h5:(k == qV)=false)
 (hgu:∃ a rest,ks=a :: rest/\wfE a=true/\rest.length<=2/\∀ b∈rest,qUz b):qUB (.mk k x m ln co ks):=by
 intro M fs v w h hL hl;obtain⟨q,c,rfl,hc1,hc2,hK⟩:=hl.kids;have hbl:=bal (bal (Below.refl w.1.size w) (qB (.mk k x m ln co ks) (.slice q ks.length c))) (sxO [] 0 0 (.slice none 0 0) (.slice none 0 0) 0 (.slice none 0 0) (.slice none 0 0));have HBL:=hI hbl;have HN:=hI ((Bx.new (.mk k x m ln co ks) (.slice q ks.length c) w).below (bal (Below.refl _ _) (sxO [] 0 0 (.slice none 0 0) (.slice none 0 0) 0 (.slice none 0 0) (.slice none 0 0))));have HT:=hI (jO.new [] 0 0 (.slice none 0 0) (.slice none 0 0) 0 (.slice none 0 0) (.slice none 0 0) (w.alloc (qB (.mk k x m ln co ks) (.slice q ks.length c))));simp only[World.size_alloc]at HT;have HKT0:=hI (show jX ((w.alloc (qB (.mk k x m ln co ks) (.slice q ks.length c))).alloc (sxO [] 0 0 (.slice none 0 0) (.slice none 0 0) 0 (.slice none 0 0) (.slice none 0 0))) (w.1.size+1) 73 from by
  have:=jO.kind (op:=[]) (l:=0) (c:=0) (tv:=.slice none 0 0) (ev:=.slice none 0 0) (fn:=0) (hv:=.slice none 0 0) (lv:=.slice none 0 0) (w.alloc (qB (.mk k x m ln co ks) (.slice q ks.length c)));simpa using this)
 have HM:=hI (show M.at fs ((w.alloc (qB (.mk k x m ln co ks) (.slice q ks.length c))).alloc (sxO [] 0 0 (.slice none 0 0) (.slice none 0 0) 0 (.slice none 0 0) (.slice none 0 0)))from h.below hbl);have HM0:=hI h;have HLI:=hI hl;have hsz:((w.alloc (qB (.mk k x m ln co ks) (.slice q ks.length c))).alloc (sxO [] 0 0 (.slice none 0 0) (.slice none 0 0) 0 (.slice none 0 0) (.slice none 0 0))).1.size=w.1.size+2:=by simp
 have HSC:=hI (qVP M.gs (fs.map (·.h)) (fs.getD M.ci noF).h.t k x m ln co ks (M.own fs));have HK:=hI hK;have hF0:M.L<=w.1.size:=hL;clear h hl hK hbl;simp only[qZ,qB,sxO,qS,tQ]at *;go_enter func122,ntmps122
 go_wp2
 generalize ((w.alloc _).alloc _)=W at *;have HSZ:=hI hsz;clear hsz;obtain⟨n0,n1,n2,n3,n4,n5⟩:=HN.o.cells;refine qXG (fun a N=>(((((((((a.put (some 7) (.pointer (some ⟨w.1.size,0,none⟩))).put (some 8) (.string ⟨k.toArray⟩)).put (some 9) (.string ⟨k.toArray⟩)).put (some 10) (.pointer (some ⟨w.1.size,3,none⟩))).put (some 11) (.int .i64 ln)).put (some 12) (.pointer (some ⟨w.1.size,4,none⟩))).put (some 13) (.int .i64 co)).put (some 14) (.agg #[.string ⟨k.toArray⟩, .int .i64 ln, .int .i64 co, .slice none 0 0, .slice none 0 0, .int .i64 0, .slice none 0 0, .slice none 0 0])).put (some 5) (.pointer (some ⟨N,0,none⟩)))) (fun N w'=>StIn W k ln co N w') ?_ ?_
 ·refine wRg (S:=fun w'=>Below W.1.size W w') 99 ?_;refine wTk 0 7 (.pointer (some ⟨w.1.size,0,none⟩)) ?_ (bD W) ?_
  ·intro _ y;go_simp
  refine wTk 1 8 (.string ⟨k.toArray⟩) ?_ (bD W) ?_
  ·intro _ y;obtain⟨n0,n3,n4⟩:=kP3 y n0 n3 n4;go_simp
  refine wTk 3 10 (.pointer (some ⟨w.1.size,3,none⟩)) ?_ (bD W) ?_
  ·intro _ y;go_simp
  refine wTk 4 11 (.int .i64 ln) ?_ (bD W) ?_
  ·intro _ y;obtain⟨n0,n3,n4⟩:=kP3 y n0 n3 n4;go_simp
  refine wTk 5 12 (.pointer (some ⟨w.1.size,4,none⟩)) ?_ (bD W) ?_
  ·intro _ y;go_simp
  refine wTk 6 13 (.int .i64 co) ?_ (bD W) ?_
  ·intro _ y;obtain⟨n0,n3,n4⟩:=kP3 y n0 n3 n4;go_simp
  refine wE (i:=2) (j:=8) rfl rfl (by kernel_rfl) (by rfl) (by rfl) (fun K hK=>?_) (fun K hK=>?_)
  ·go_simp;refine(yP ⟨k.toArray⟩ _ (by simpa[ByteArray.size]using hkl)).mono ?_;rintro e w3 ⟨rfl,hb3⟩;have hb3:=zF hb3;refine kK hK hb3 ?_;clear hK K;refine wTk 7 14 (.agg #[.string ⟨k.toArray⟩, .int .i64 ln, .int .i64 co, .slice none 0 0, .slice none 0 0, .int .i64 0, .slice none 0 0, .slice none 0 0]) ?_ (hb3) ?_
   ·intro _ y;go_simp
   refine wOn 8 fun K hK=>?_
   go_simp;refine kK hK (bal hb3 _) ?_;clear hK K;refine wOn 9 fun K hK=>?_
   go_simp;refine kK hK (bal hb3 _) ?_;clear hK K;refine wDn ?_ _;exact⟨w3.1.size,by simp only[Act.put,pZa,pZb,pZc],bal hb3 (sxO k ln co (.slice none 0 0) (.slice none 0 0) 0 (.slice none 0 0) (.slice none 0 0)),jO.new k ln co (.slice none 0 0) (.slice none 0 0) 0 (.slice none 0 0) (.slice none 0 0) w3,jO.kind w3,hb3.size⟩
  ·go_simp;refine kK hK (bal (Below.refl W.1.size W).drew (.cells #[.string ⟨#[]⟩, .int .i64 0, .int .i64 0, .slice none 0 0, .slice none 0 0, .int .i64 0, .slice none 0 0, .slice none 0 0] 73)) ?_;clear hK K;refine wOn 2 fun K hK=>?_
   go_simp;refine(yP ⟨k.toArray⟩ _ (by simpa[ByteArray.size]using hkl)).mono ?_;rintro e w3 ⟨rfl,hb3⟩;have hb4:=(bal (Below.refl W.1.size W).drew (.cells #[.string ⟨#[]⟩, .int .i64 0, .int .i64 0, .slice none 0 0, .slice none 0 0, .int .i64 0, .slice none 0 0, .slice none 0 0] 73)).trans (hb3.mono (by simp));refine kK hK hb4 ?_;clear hK K;refine wTk 7 14 (.agg #[.string ⟨k.toArray⟩, .int .i64 ln, .int .i64 co, .slice none 0 0, .slice none 0 0, .int .i64 0, .slice none 0 0, .slice none 0 0]) ?_ (hb4) ?_
   ·intro _ y;go_simp
   have hb3:Below (W.alloc (sxO [] 0 0 (.slice none 0 0) (.slice none 0 0) 0 (.slice none 0 0) (.slice none 0 0))).1.size (W.alloc (sxO [] 0 0 (.slice none 0 0) (.slice none 0 0) 0 (.slice none 0 0) (.slice none 0 0))) w3:=⟨hb3.os,hb3.tape,hb3.output,hb3.size,hb3.block⟩;have sb:=(jO.new [] 0 0 (.slice none 0 0) (.slice none 0 0) 0 (.slice none 0 0) (.slice none 0 0) W).below hb3;have kd:jX w3 W.1.size 73:=(jO.kind (op:=[]) (l:=0) (c:=0) (tv:=.slice none 0 0) (ev:=.slice none 0 0) (fn:=0) (hv:=.slice none 0 0) (lv:=.slice none 0 0) W).turn (hb3.block _ (by simp));have⟨z0,z1,z2,z3,z4,z5,z6,z7,_⟩:=sb.a;have⟨zf0,zf1,zf2,zf3,zf4,zf5,zf6,zf7,_⟩:=sb.b;refine wOn 9 fun K hK=>?_
   go_simp;refine kK hK (set8 hb4 (Nat.le_refl _) _ _ _ _ _ _ _ _) ?_;clear hK K;refine wDn ?_ _;exact⟨W.1.size,by simp only[Act.put,pZa,pZb,pZc],set8 hb4 (Nat.le_refl _) _ _ _ _ _ _ _ _,sb.set8,(((((((kd.set _ _ _).set _ _ _).set _ _ _).set _ _ _).set _ _ _).set _ _ _).set _ _ _).set _ _ _,Nat.le_refl _⟩
 ·intro NS w5 hIq;obtain⟨hb5,hS5,hkd,hNS⟩:=hIq;try simp only[Act.put,pZa,pZb,pZc]
  have hsz:=HSZ.o;have hs52:w.1.size+2<=w5.1.size:=by have:=hb5.size;omega
  have hLN:M.L<=NS:=by omega
  have hL5:M.L<=w5.1.size:=by have:=hb5.size;omega
  have HW5:=hI (HBL.o.trans (hb5.mono (by omega)));have HM5:=hI (show M.at fs w5 from HM.o.below hb5);have HN5:=hI (HN.o.below hb5);have HT5:=hI (HT.o.below hb5);have HS5:=hI hS5;have HKD:=hI hkd;have HLI5:=hI (show xZ w5 (· < M.L) (.mk k x m ln co ks) (.slice q ks.length c)from xZ.move (fun g hg hok=>⟨hok,HW5.o.block g hg⟩) _ _ HLI.o);have HK5:=hI (HK.o.keep (HW5.o.mono hL));have HKT:=hI (show jX w5 (w.1.size+1) 73 from by
   have h1:=HT.o.c0;exact(show jX W (w.1.size+1) 73 from HKT0.o).turn (hb5.block _ (by omega)))
  obtain⟨n0,n1,n2,n3,n4,n5⟩:=HN5.o.cells;clear hb5 hS5 hkd hsz;obtain⟨a,rest,rfl,ha,hr,hbo⟩:=hgu;have HP:=hI (HSC.o.trans (by rw[h1,h2,h3,h4,h5];rfl:_=(qZw M.gs (fs.map (·.h)) (fs.getD M.ci noF).h.t (a :: rest) (M.own fs)).bind fun r=>.ok (.mk k ln co [] r.1.1 0 r.1.2.1 r.1.2.2,r.2)));have HC:=hI (qPH M fs NS k x m ln co a rest (.slice q (a :: rest).length c) k ln co (.slice none 0 0) 0 w5 HM5.o hL5 HLI5.o ha hr hbo HS5.o HKD.o hLN);simp only[qZ,tQ]at HC;unfold qP at h1;unfold qW at h2;unfold zW at h3;unfold qN at h4;unfold qV at h5;have hFlt:M.F < w.1.size:=by obtain⟨cs,fr,kk⟩:=zE HM0.o.rd.frow rfl;exact qZF kk
  have hMolt:M.Mo < w.1.size:=by obtain⟨es,cc,kk⟩:=HM0.o.rd.en.om.isMap;exact qZF kk
  have hvw:∀ g,(M.vv fs).ownBlock=some g->g < w.1.size:=Mem.vlt HM0.o;clear ha hr hbo;go_wp2_with fail
  refine(HC.o).mono ?_;rintro e w6 hX;have hsz:=HSZ.o;cases hp:qZw M.gs (fs.map (·.h)) (fs.getD M.ci noF).h.t (a :: rest) (M.own fs)with
  | bad l' c' code =>
   unfold qXU at hX;rw[hp]at hX;obtain⟨rfl,hg⟩:=hX;refine⟨rfl,qQX.badI (by rw[HP.o,hp];rfl) ?_⟩;have hT:=(yX.toN (NS:=NS) (yX.of_below (F:=M.F) (Mo:=M.Mo) (vv:=M.vv fs) HW5.o)).trans hg (.inl rfl);exact yX.mk hT.os hT.tape hT.output hT.size (fun k a b c d=>hT.block k a b c (by omega) d)
  | ok r =>
   obtain⟨⟨es,ba,bb⟩,own'⟩:=r;unfold qXU at hX;rw[hp]at hX;obtain⟨vv',rfl,hM6,hT6,hR6,ev,hv,lv,hS6,hE,hH,hL'⟩:=hX;obtain⟨uq,uc,rfl⟩:=hE.shape;obtain⟨vq,vc,rfl⟩:=hH.shape;obtain⟨xq,xc,rfl⟩:=hL'.shape;have hg5:=hT6.size;have hbk:w6.1[w.1.size+1]? = w5.1[w.1.size+1]?:=hT6.block _ (by omega) (by omega) (by omega) (by omega) (fun e=>by have:=hvw _ e.symm;omega);have HQ:=hI (HP.o.trans (by rw[hp];rfl:_=.ok (.mk k ln co [] es 0 ba bb,own')));have HT6:=hI (HT5.o.turn hbk);have HM6:=hI hM6;have HTN:=hI ((yX.toN (NS:=NS) (yX.of_below (F:=M.F) (Mo:=M.Mo) (vv:=M.vv fs) HW5.o)).trans hT6 (.inl rfl));have HKT6:=hI (HKT.o.turn hbk);have HE:=hI hE;have HH:=hI hH;have HL':=hI hL';have HR6:=hI (vW.low hR6 (show w.1.size<=w5.1.size by omega));have⟨r0,r1,r2,r3,r4,r5,r6,r7,_⟩:=HT6.o.a;have⟨rf0,rf1,rf2,rf3,rf4,rf5,rf6,rf7,_⟩:=HT6.o.b;have⟨s0,s1,s2,s3,s4,s5,s6,s7,_⟩:=hS6.a;have rl:=HT6.o.lt;clear n0 n1 n2 n3 n4 n5 hp hS6 hE hH hL' hT6 hM6 hR6 hbk HC;go_wp2
   refine bodyPost_ret (v:=sxV (.mk k ln co [] es 0 ba bb) ⟨.slice none 0 0, .slice uq es.length uc, .slice vq ba.length vc, .slice xq bb.length xc⟩) (by simp[results,results122,go_sem,sxV,r0,r1,r2,r3,r4,r5,r6,r7,rl]) rfl (qQX.okI (vv':=vv') HQ.o ?_ ?_ HR6.o ⟨_,rfl,?_⟩)
   ·exact Mem.set8 HM6.o HKT6.o (by omega) _ _ _ _ _ _ _ _
   ·exact yX.fin HTN.o (by omega) (by omega) _ _ _ _ _ _ _ _
   ·exact⟨qU.nil _ _,qU.move HE.o (fun g hg hok=>⟨⟨by omega,hok.2⟩,qJI _ _ _ (by omega) _ _ _ _ _ _ _ _⟩),jE.move HH.o (fun g hg hok=>⟨⟨by omega,hok.2⟩,qJI _ _ _ (by omega) _ _ _ _ _ _ _ _⟩),jE.move HL'.o (fun g hg hok=>⟨⟨by omega,hok.2⟩,qJI _ _ _ (by omega) _ _ _ _ _ _ _ _⟩)⟩
theorem st_assign(k x:List UInt8)(m ln co:Int)(ks:List qQ)(hkl:k.length<=1000000)(h1:(k == qP)=true)(hks:∃ a b,ks=[a,b]/\wfE a=true/\wfE b=true):qUB (.mk k x m ln co ks):=by
 intro M fs v w h hL hl;obtain⟨q,c,rfl,hc1,hc2,hK⟩:=hl.kids;have hbl:=bal (bal (Below.refl w.1.size w) (qB (.mk k x m ln co ks) (.slice q ks.length c))) (sxO [] 0 0 (.slice none 0 0) (.slice none 0 0) 0 (.slice none 0 0) (.slice none 0 0));have HBL:=hI hbl;have HN:=hI ((Bx.new (.mk k x m ln co ks) (.slice q ks.length c) w).below (bal (Below.refl _ _) (sxO [] 0 0 (.slice none 0 0) (.slice none 0 0) 0 (.slice none 0 0) (.slice none 0 0))));have HT:=hI (jO.new [] 0 0 (.slice none 0 0) (.slice none 0 0) 0 (.slice none 0 0) (.slice none 0 0) (w.alloc (qB (.mk k x m ln co ks) (.slice q ks.length c))));simp only[World.size_alloc]at HT;have HKT0:=hI (show jX ((w.alloc (qB (.mk k x m ln co ks) (.slice q ks.length c))).alloc (sxO [] 0 0 (.slice none 0 0) (.slice none 0 0) 0 (.slice none 0 0) (.slice none 0 0))) (w.1.size+1) 73 from by
  have:=jO.kind (op:=[]) (l:=0) (c:=0) (tv:=.slice none 0 0) (ev:=.slice none 0 0) (fn:=0) (hv:=.slice none 0 0) (lv:=.slice none 0 0) (w.alloc (qB (.mk k x m ln co ks) (.slice q ks.length c)));simpa using this)
 have HM:=hI (show M.at fs ((w.alloc (qB (.mk k x m ln co ks) (.slice q ks.length c))).alloc (sxO [] 0 0 (.slice none 0 0) (.slice none 0 0) 0 (.slice none 0 0) (.slice none 0 0)))from h.below hbl);have HM0:=hI h;have HLI:=hI hl;have hsz:((w.alloc (qB (.mk k x m ln co ks) (.slice q ks.length c))).alloc (sxO [] 0 0 (.slice none 0 0) (.slice none 0 0) 0 (.slice none 0 0) (.slice none 0 0))).1.size=w.1.size+2:=by simp
 have HSC:=hI (qVP M.gs (fs.map (·.h)) (fs.getD M.ci noF).h.t k x m ln co ks (M.own fs));have HK:=hI hK;have hF0:M.L<=w.1.size:=hL;clear h hl hK hbl;simp only[qZ,qB,sxO,qS,tQ]at *;go_enter func122,ntmps122
 go_wp2
 generalize ((w.alloc _).alloc _)=W at *;have HSZ:=hI hsz;clear hsz;obtain⟨n0,n1,n2,n3,n4,n5⟩:=HN.o.cells;refine qXG (fun a N=>(((((((((a.put (some 7) (.pointer (some ⟨w.1.size,0,none⟩))).put (some 8) (.string ⟨k.toArray⟩)).put (some 9) (.string ⟨k.toArray⟩)).put (some 10) (.pointer (some ⟨w.1.size,3,none⟩))).put (some 11) (.int .i64 ln)).put (some 12) (.pointer (some ⟨w.1.size,4,none⟩))).put (some 13) (.int .i64 co)).put (some 14) (.agg #[.string ⟨k.toArray⟩, .int .i64 ln, .int .i64 co, .slice none 0 0, .slice none 0 0, .int .i64 0, .slice none 0 0, .slice none 0 0])).put (some 5) (.pointer (some ⟨N,0,none⟩)))) (fun N w'=>StIn W k ln co N w') ?_ ?_
 ·refine wRg (S:=fun w'=>Below W.1.size W w') 99 ?_;refine wTk 0 7 (.pointer (some ⟨w.1.size,0,none⟩)) ?_ (bD W) ?_
  ·intro _ y;go_simp
  refine wTk 1 8 (.string ⟨k.toArray⟩) ?_ (bD W) ?_
  ·intro _ y;obtain⟨n0,n3,n4⟩:=kP3 y n0 n3 n4;go_simp
  refine wTk 3 10 (.pointer (some ⟨w.1.size,3,none⟩)) ?_ (bD W) ?_
  ·intro _ y;go_simp
  refine wTk 4 11 (.int .i64 ln) ?_ (bD W) ?_
  ·intro _ y;obtain⟨n0,n3,n4⟩:=kP3 y n0 n3 n4;go_simp
  refine wTk 5 12 (.pointer (some ⟨w.1.size,4,none⟩)) ?_ (bD W) ?_
  ·intro _ y;go_simp
  refine wTk 6 13 (.int .i64 co) ?_ (bD W) ?_
  ·intro _ y;obtain⟨n0,n3,n4⟩:=kP3 y n0 n3 n4;go_simp
  refine wE (i:=2) (j:=8) rfl rfl (by kernel_rfl) (by rfl) (by rfl) (fun K hK=>?_) (fun K hK=>?_)
  ·go_simp;refine(yP ⟨k.toArray⟩ _ (by simpa[ByteArray.size]using hkl)).mono ?_;rintro e w3 ⟨rfl,hb3⟩;have hb3:=zF hb3;refine kK hK hb3 ?_;clear hK K;refine wTk 7 14 (.agg #[.string ⟨k.toArray⟩, .int .i64 ln, .int .i64 co, .slice none 0 0, .slice none 0 0, .int .i64 0, .slice none 0 0, .slice none 0 0]) ?_ (hb3) ?_
   ·intro _ y;go_simp
   refine wOn 8 fun K hK=>?_
   go_simp;refine kK hK (bal hb3 _) ?_;clear hK K;refine wOn 9 fun K hK=>?_
   go_simp;refine kK hK (bal hb3 _) ?_;clear hK K;refine wDn ?_ _;exact⟨w3.1.size,by simp only[Act.put,pZa,pZb,pZc],bal hb3 (sxO k ln co (.slice none 0 0) (.slice none 0 0) 0 (.slice none 0 0) (.slice none 0 0)),jO.new k ln co (.slice none 0 0) (.slice none 0 0) 0 (.slice none 0 0) (.slice none 0 0) w3,jO.kind w3,hb3.size⟩
  ·go_simp;refine kK hK (bal (Below.refl W.1.size W).drew (.cells #[.string ⟨#[]⟩, .int .i64 0, .int .i64 0, .slice none 0 0, .slice none 0 0, .int .i64 0, .slice none 0 0, .slice none 0 0] 73)) ?_;clear hK K;refine wOn 2 fun K hK=>?_
   go_simp;refine(yP ⟨k.toArray⟩ _ (by simpa[ByteArray.size]using hkl)).mono ?_;rintro e w3 ⟨rfl,hb3⟩;have hb4:=(bal (Below.refl W.1.size W).drew (.cells #[.string ⟨#[]⟩, .int .i64 0, .int .i64 0, .slice none 0 0, .slice none 0 0, .int .i64 0, .slice none 0 0, .slice none 0 0] 73)).trans (hb3.mono (by simp));refine kK hK hb4 ?_;clear hK K;refine wTk 7 14 (.agg #[.string ⟨k.toArray⟩, .int .i64 ln, .int .i64 co, .slice none 0 0, .slice none 0 0, .int .i64 0, .slice none 0 0, .slice none 0 0]) ?_ (hb4) ?_
   ·intro _ y;go_simp
   have hb3:Below (W.alloc (sxO [] 0 0 (.slice none 0 0) (.slice none 0 0) 0 (.slice none 0 0) (.slice none 0 0))).1.size (W.alloc (sxO [] 0 0 (.slice none 0 0) (.slice none 0 0) 0 (.slice none 0 0) (.slice none 0 0))) w3:=⟨hb3.os,hb3.tape,hb3.output,hb3.size,hb3.block⟩;have sb:=(jO.new [] 0 0 (.slice none 0 0) (.slice none 0 0) 0 (.slice none 0 0) (.slice none 0 0) W).below hb3;have kd:jX w3 W.1.size 73:=(jO.kind (op:=[]) (l:=0) (c:=0) (tv:=.slice none 0 0) (ev:=.slice none 0 0) (fn:=0) (hv:=.slice none 0 0) (lv:=.slice none 0 0) W).turn (hb3.block _ (by simp));have⟨z0,z1,z2,z3,z4,z5,z6,z7,_⟩:=sb.a;have⟨zf0,zf1,zf2,zf3,zf4,zf5,zf6,zf7,_⟩:=sb.b;refine wOn 9 fun K hK=>?_
   go_simp;refine kK hK (set8 hb4 (Nat.le_refl _) _ _ _ _ _ _ _ _) ?_;clear hK K;refine wDn ?_ _;exact⟨W.1.size,by simp only[Act.put,pZa,pZb,pZc],set8 hb4 (Nat.le_refl _) _ _ _ _ _ _ _ _,sb.set8,(((((((kd.set _ _ _).set _ _ _).set _ _ _).set _ _ _).set _ _ _).set _ _ _).set _ _ _).set _ _ _,Nat.le_refl _⟩
 ·intro NS w5 hIq;obtain⟨hb5,hS5,hkd,hNS⟩:=hIq;try simp only[Act.put,pZa,pZb,pZc]
  have hsz:=HSZ.o;have HS5:=hI (show SIn M fs k x m ln co ks q c NS k (.slice none 0 0) (.slice none 0 0) 0 w w5 from
   have hW:=HBL.o.trans (hb5.mono (by omega))
   ⟨hW,⟨by omega,hS5.lt⟩,hF0,HM.o.below hb5,HN.o.below hb5,HT.o.below hb5,(show jX W (w.1.size+1) 73 from HKT0.o).turn (hb5.block _ (by omega)),hS5,hkd,HK.o.keep (hW.mono hL),xZ.move (fun g hg hok=>⟨hok,hW.block g hg⟩) _ _ HLI.o,Mem.vlt HM0.o⟩)
  clear hb5 hS5 hkd hsz hNS n0 n1 n2 n3 n4 n5 HM HN HT HKT0 HM0 HK HLI HBL HSZ;clear W;have h1':=h1;obtain⟨a,b,rfl,ha,hb⟩:=hks;have HP:=hI (HSC.o.trans (by rw[if_pos h1];rfl:_=(wJ ⟨M.gs,M.own fs⟩ a).bind fun p=>(qQT ⟨M.gs,M.own fs⟩ b p.ty).bind fun e=>.ok (.mk k ln co [p] [e] 0 [] [],M.own fs)));obtain⟨g,off,rfl,hRN⟩:=HS5.o.ka.resolve_left (by simp);have hgL:=hRN.1;obtain⟨qa,na,ca,hla,hca⟩:=hRN.2 0 (by simp);simp only[List.getElem_cons_zero]at hla hca;have⟨k0,k1,k2,k3,k4,k5,_⟩:=hca.a;simp only[Nat.zero_mul,Nat.add_zero]at k0 k1 k2 k3 k4 k5;obtain⟨ak,ax,am,aln,aco,aks⟩:=a;have HTG:=hI (qKO ak ax am aln aco aks ha M.B M.L ⟨M.gs,M.own fs⟩ (.slice qa na ca) w5 HS5.o.ea HS5.o.le hla);simp only[qZ,qS,tQ,List.length]at *;have hcc:(2:Int)<=(c:Nat):=by omega
  obtain⟨n0,n1,n2,n3,n4,n5⟩:=HS5.o.nd.cells;unfold qP at h1;clear HSC;go_wp2_with fail
  refine(HTG.o).mono ?_;rintro e w6 hX;rcases hX.cases with⟨p,u,hp,rfl,⟨kv,rfl,hles⟩,hb6⟩ | ⟨l',c',code,hp,rfl,hb6⟩;rotate_left
  ·exact⟨rfl,(HS5.o.below hb6).bad (by rw[HP.o,hp];rfl)⟩
  have HS6:=hI (HS5.o.below hb6);have hsz5:=HS5.o.sz;have HLE:=hI hles;have HPp:=hI hp;have hs6:=hb6.size;have HB6:=hI hb6;obtain⟨pop,⟨pT0,pT1⟩,pn,pv,pg,pl,pc,pk⟩:=p;obtain⟨uq,uc,rfl⟩:=hles.shape;obtain⟨n0,n1,n2,n3,n4,n5⟩:=HS6.o.nd.cells;have s3:=HS6.o.sb.c3;have sf3:=HS6.o.sb.f 3 nL;have hsz6:=HS6.o.sz;have hNw:¬NS=w6.1.size:=by omega
  have hNw1:¬NS=w6.1.size+1:=by omega
  have hwn:¬w6.1.size=NS:=by omega
  have hwn1:¬w6.1.size+1=NS:=by omega
  clear hX hp hles hb6 HTG k0 k1 k2 k3 k4 k5 hla hca;simp only[exV,Ex.kids]at *;go_wp2
  have HS7:=hI (HS6.o.setT (.slice (some ⟨w6.1.size+1,0,none⟩) 1 1));have HLE7:=hI (qU.setN (N:=NS) HLE.o hsz5.2 (o:=3) (.slice (some ⟨w6.1.size+1,0,none⟩) 1 1));have hszV:(w6.setCell ⟨NS,3,none⟩ (.slice (some ⟨w6.1.size+1,0,none⟩) 1 1)).1.size=w6.1.size:=by simp
  generalize (w6.setCell ⟨NS,3,none⟩ (.slice (some ⟨w6.1.size+1,0,none⟩) 1 1))=V at *;have HBV:=hI (bal (bal (Below.refl V.1.size V) (exO pop (pT0,pT1) pn pv pg pl pc (.slice uq pk.length uc))) (exO pop (pT0,pT1) pn pv pg pl pc (.slice uq pk.length uc)));have HS8:=hI (HS7.o.below HBV.o);have HE8:=hI ((qQf.new pop (pT0,pT1) pn pv pg pl pc (.slice uq pk.length uc) V).below (bal (Below.refl _ _) (exO pop (pT0,pT1) pn pv pg pl pc (.slice uq pk.length uc))));have HLE8:=hI (qU.single (w:=V.alloc (exO pop (pT0,pT1) pn pv pg pl pc (.slice uq pk.length uc))) (ok:=fun g=>NS+1<=g) (p:=.mk pop (pT0,pT1) pn pv pg pl pc pk) (qU.mono (HLE7.o.below (bal (Below.refl V.1.size V) (exO pop (pT0,pT1) pn pv pg pl pc (.slice uq pk.length uc)))) (fun g hg=>by omega)) (by simp;omega));simp only[World.size_alloc,hszV,exO,exC,Ex.kids]at HE8 HLE8 HS8;have hsW:((V.alloc (.cells #[.string ⟨pop.toArray⟩, .int .i64 pT0, .bool pT1, .int .u64 pn, .int .i64 pv, .bool pg, .int .i64 pl, .int .i64 pc, .slice uq pk.length uc] 76)).alloc (.cells #[.string ⟨pop.toArray⟩, .int .i64 pT0, .bool pT1, .int .u64 pn, .int .i64 pv, .bool pg, .int .i64 pl, .int .i64 pc, .slice uq pk.length uc] 76)).1.size=w6.1.size+2:=by simp[hszV]
  clear s3 sf3 n0 n1 n2 n3 n4 n5 HS6 HS7 HLE HLE7 HB6 HBV HS5 hRN;generalize ((V.alloc _).alloc _)=W at *;obtain⟨n0,n1,n2,n3,n4,n5⟩:=HS8.o.nd.cells;have t0:=HE8.o.c1;have t1:=HE8.o.c2;obtain⟨g',off',e,hRN⟩:=HS8.o.ka.resolve_left (by simp);injection e with e;injection e with e1 e2;subst e1 e2;obtain⟨qb,nb,cb,hlb,hcb⟩:=hRN.2 1 (by simp);simp only[List.getElem_cons_succ,List.getElem_cons_zero]at hlb hcb;have⟨k0,k1,k2,k3,k4,k5,_⟩:=hcb.a;simp only[Nat.one_mul,Nat.add_zero]at k0 k1 k2 k3 k4 k5;have HXB:=hI (fun w' hw'=>exp_all b hb M.B M.L ⟨M.gs,M.own fs⟩ (.slice qb nb cb) (pT0,pT1) w' (EAt.below HS8.o.ea hw') (Nat.le_trans HS8.o.le hw'.size) (xZ.move (fun g hg hok=>⟨hok,hw'.block g hg⟩) _ _ hlb));obtain⟨bk,bx,bm,bln,bco,bks⟩:=b;simp only[qZ,qS,tyV,tQ,List.length]at *;clear hlb hcb hRN;refine wRg (S:=fun w'=>Below W.1.size W w') 10 ?_;refine wTk 0 31 (.pointer (some ⟨M.B,0,none⟩)) ?_ (bD W) ?_
  ·intro _ y;go_simp
  refine wTk 1 32 (.pointer (some ⟨w.1.size,5,none⟩)) ?_ (bD W) ?_
  ·intro _ y;go_simp
  refine wTk 2 33 (.slice (some ⟨g,off,none⟩) 2 c) ?_ (bD W) ?_
  ·intro _ y;have n5:=kP y n5;go_simp
  refine wTk 3 34 (.pointer (some ⟨g,off+6,none⟩)) ?_ (bD W) ?_
  ·intro _ y;go_simp
  refine wTk 4 35 (.agg #[.string ⟨bk.toArray⟩, .string ⟨bx.toArray⟩, .int .u64 bm, .int .i64 bln, .int .i64 bco, .slice qb nb cb]) ?_ (bD W) ?_
  ·intro _ y;obtain⟨k0,k1,k2,k3,k4,k5⟩:=kP6 y k0 k1 k2 k3 k4 k5;go_simp
  refine wTk 5 36 (.pointer (some ⟨w6.1.size,1,none⟩)) ?_ (bD W) ?_
  ·intro _ y;go_simp
  refine wTk 6 37 (.agg #[.int .i64 pT0, .bool pT1]) ?_ (bD W) ?_
  ·intro _ y;have t0:=kP y t0;have t1:=kP y t1;go_simp
  refine wOn 7 fun K hK=>?_
  go_simp;refine(HXB.o _ (Below.refl _ _).drew).mono ?_;rintro e w9 hX;rcases hX.cases with⟨p2,u,hp,rfl,⟨kv,rfl,hles⟩,hb9⟩ | ⟨l',c',code,hp,rfl,hb9⟩;rotate_left
  ·exact⟨rfl,(HS8.o.below (zF hb9)).bad (by rw[HP.o,HPp.o];simp only[CR.bind,Ex.ty];rw[hp])⟩
  have hb9:=zF hb9;have HS9:=hI (HS8.o.below hb9);have HLT:=hI (HLE8.o.below hb9);have HLX:=hI (hles.mono (ok':=fun g=>W.1.size<=g) (fun g hg=>hg));have HPx:=hI hp;obtain⟨xop,⟨xT0,xT1⟩,xn,xv,xg,xl,xc,xk⟩:=p2;obtain⟨vq,vc,rfl⟩:=hles.shape;have s4:=HS9.o.sb.c4;have sf4:=HS9.o.sb.f 4 nL;have hs9:=hb9.size;have hsz9:=HS9.o.sz;have hN9:¬NS=w9.1.size:=by omega
  have h9N:¬w9.1.size=NS:=by omega
  simp only[exV,Ex.kids]at *;refine kK hK hb9 ?_;clear hK K;refine wOn 8 fun K hK=>?_
  go_simp;refine kK hK (bal hb9 _) ?_;clear hK K;refine wOn 9 fun K hK=>?_
  go_simp;refine kK hK (bal hb9 _) ?_;clear hK K;refine wOn 10 fun K hK=>?_
  go_simp;refine kD hK ?_;clear hK K;refine wDn ?_ _;have HS10:=hI (HS9.o.setE (.slice (some ⟨w9.1.size,0,none⟩) 1 1));have HLT10:=hI (qU.setN (N:=NS) HLT.o (by omega) (o:=4) (.slice (some ⟨w9.1.size,0,none⟩) 1 1));have HLX10:=hI (qU.setN (N:=NS) HLX.o (by omega) (o:=4) (.slice (some ⟨w9.1.size,0,none⟩) 1 1));have hszU:(w9.setCell ⟨NS,4,none⟩ (.slice (some ⟨w9.1.size,0,none⟩) 1 1)).1.size=w9.1.size:=by simp
  have HQ:=hI (HP.o.trans (by rw[HPp.o];simp only[CR.bind,Ex.ty];rw[HPx.o]:_=.ok (.mk k ln co [.mk pop (pT0,pT1) pn pv pg pl pc pk] [.mk xop (xT0,xT1) xn xv xg xl xc xk] 0 [] [],M.own fs)));clear s4 sf4 n0 n1 n2 n3 n4 n5 k0 k1 k2 k3 k4 k5 t0 t1 HLT HLX HS9 HS8 HE8 HLE8 HXB hX hp hles HP HPp HPx;generalize (w9.setCell ⟨NS,4,none⟩ (.slice (some ⟨w9.1.size,0,none⟩) 1 1))=U at *;have HBU:=hI (bal (Below.refl U.1.size U) (exO xop (xT0,xT1) xn xv xg xl xc (.slice vq xk.length vc)));have HS11:=hI (HS10.o.below HBU.o);have HL1:=hI (qU.mono (HLT10.o.below HBU.o) (ok':=fun g=>w.1.size+2<=g) (fun g hg=>by omega));have HL2:=hI (qU.single (w:=U) (ok:=fun g=>w.1.size+2<=g) (p:=.mk xop (xT0,xT1) xn xv xg xl xc xk) (qU.mono HLX10.o (fun g hg=>by omega)) (show w.1.size+2<=U.1.size by omega));simp only[exO,exC,hszU]at HS11 HL1 HL2;clear HS10 HLT10 HLX10 HBU;generalize (U.alloc _)=Z at *;have⟨r0,r1,r2,r3,r4,r5,r6,r7,_⟩:=HS11.o.rt.a;have⟨rf0,rf1,rf2,rf3,rf4,rf5,rf6,rf7,_⟩:=HS11.o.rt.b;have⟨s0,s1,s2,s3,s4,s5,s6,s7,_⟩:=HS11.o.sb.a;have rl:=HS11.o.rt.lt;go_wp2
  exact bodyPost_ret (v:=sxV (.mk k ln co [.mk pop (pT0,pT1) pn pv pg pl pc pk] [.mk xop (xT0,xT1) xn xv xg xl xc xk] 0 [] []) ⟨.slice (some ⟨w6.1.size+1,0,none⟩) 1 1, .slice (some ⟨w9.1.size,0,none⟩) 1 1, .slice none 0 0, .slice none 0 0⟩) (by simp[results,results122,go_sem,sxV,r0,r1,r2,r3,r4,r5,r6,r7,rl]) rfl (HS11.o.fin HQ.o HL1.o HL2.o _ _ _ _ _ _ _ _)
theorem st_nondet(k x:List UInt8)(m ln co:Int)(ks:List qQ)(hkl:k.length<=1000000)(h1:(k == qP)=false)(h2:(k == qW)=true)(hks:∃ a,ks=[a]/\wfE a=true):qUB (.mk k x m ln co ks):=by
 intro M fs v w h hL hl;obtain⟨q,c,rfl,hc1,hc2,hK⟩:=hl.kids;have hbl:=bal (bal (Below.refl w.1.size w) (qB (.mk k x m ln co ks) (.slice q ks.length c))) (sxO [] 0 0 (.slice none 0 0) (.slice none 0 0) 0 (.slice none 0 0) (.slice none 0 0));have HBL:=hI hbl;have HN:=hI ((Bx.new (.mk k x m ln co ks) (.slice q ks.length c) w).below (bal (Below.refl _ _) (sxO [] 0 0 (.slice none 0 0) (.slice none 0 0) 0 (.slice none 0 0) (.slice none 0 0))));have HT:=hI (jO.new [] 0 0 (.slice none 0 0) (.slice none 0 0) 0 (.slice none 0 0) (.slice none 0 0) (w.alloc (qB (.mk k x m ln co ks) (.slice q ks.length c))));simp only[World.size_alloc]at HT;have HKT0:=hI (show jX ((w.alloc (qB (.mk k x m ln co ks) (.slice q ks.length c))).alloc (sxO [] 0 0 (.slice none 0 0) (.slice none 0 0) 0 (.slice none 0 0) (.slice none 0 0))) (w.1.size+1) 73 from by
  have:=jO.kind (op:=[]) (l:=0) (c:=0) (tv:=.slice none 0 0) (ev:=.slice none 0 0) (fn:=0) (hv:=.slice none 0 0) (lv:=.slice none 0 0) (w.alloc (qB (.mk k x m ln co ks) (.slice q ks.length c)));simpa using this)
 have HM:=hI (show M.at fs ((w.alloc (qB (.mk k x m ln co ks) (.slice q ks.length c))).alloc (sxO [] 0 0 (.slice none 0 0) (.slice none 0 0) 0 (.slice none 0 0) (.slice none 0 0)))from h.below hbl);have HM0:=hI h;have HLI:=hI hl;have hsz:((w.alloc (qB (.mk k x m ln co ks) (.slice q ks.length c))).alloc (sxO [] 0 0 (.slice none 0 0) (.slice none 0 0) 0 (.slice none 0 0) (.slice none 0 0))).1.size=w.1.size+2:=by simp
 have HSC:=hI (qVP M.gs (fs.map (·.h)) (fs.getD M.ci noF).h.t k x m ln co ks (M.own fs));have HK:=hI hK;have hF0:M.L<=w.1.size:=hL;clear h hl hK hbl;simp only[qZ,qB,sxO,qS,tQ]at *;go_enter func122,ntmps122
 go_wp2
 generalize ((w.alloc _).alloc _)=W at *;have HSZ:=hI hsz;clear hsz;obtain⟨n0,n1,n2,n3,n4,n5⟩:=HN.o.cells;refine qXG (fun a N=>(((((((((a.put (some 7) (.pointer (some ⟨w.1.size,0,none⟩))).put (some 8) (.string ⟨k.toArray⟩)).put (some 9) (.string ⟨k.toArray⟩)).put (some 10) (.pointer (some ⟨w.1.size,3,none⟩))).put (some 11) (.int .i64 ln)).put (some 12) (.pointer (some ⟨w.1.size,4,none⟩))).put (some 13) (.int .i64 co)).put (some 14) (.agg #[.string ⟨k.toArray⟩, .int .i64 ln, .int .i64 co, .slice none 0 0, .slice none 0 0, .int .i64 0, .slice none 0 0, .slice none 0 0])).put (some 5) (.pointer (some ⟨N,0,none⟩)))) (fun N w'=>StIn W k ln co N w') ?_ ?_
 ·refine wRg (S:=fun w'=>Below W.1.size W w') 99 ?_;refine wTk 0 7 (.pointer (some ⟨w.1.size,0,none⟩)) ?_ (bD W) ?_
  ·intro _ y;go_simp
  refine wTk 1 8 (.string ⟨k.toArray⟩) ?_ (bD W) ?_
  ·intro _ y;obtain⟨n0,n3,n4⟩:=kP3 y n0 n3 n4;go_simp
  refine wTk 3 10 (.pointer (some ⟨w.1.size,3,none⟩)) ?_ (bD W) ?_
  ·intro _ y;go_simp
  refine wTk 4 11 (.int .i64 ln) ?_ (bD W) ?_
  ·intro _ y;obtain⟨n0,n3,n4⟩:=kP3 y n0 n3 n4;go_simp
  refine wTk 5 12 (.pointer (some ⟨w.1.size,4,none⟩)) ?_ (bD W) ?_
  ·intro _ y;go_simp
  refine wTk 6 13 (.int .i64 co) ?_ (bD W) ?_
  ·intro _ y;obtain⟨n0,n3,n4⟩:=kP3 y n0 n3 n4;go_simp
  refine wE (i:=2) (j:=8) rfl rfl (by kernel_rfl) (by rfl) (by rfl) (fun K hK=>?_) (fun K hK=>?_)
  ·go_simp;refine(yP ⟨k.toArray⟩ _ (by simpa[ByteArray.size]using hkl)).mono ?_;rintro e w3 ⟨rfl,hb3⟩;have hb3:=zF hb3;refine kK hK hb3 ?_;clear hK K;refine wTk 7 14 (.agg #[.string ⟨k.toArray⟩, .int .i64 ln, .int .i64 co, .slice none 0 0, .slice none 0 0, .int .i64 0, .slice none 0 0, .slice none 0 0]) ?_ (hb3) ?_
   ·intro _ y;go_simp
   refine wOn 8 fun K hK=>?_
   go_simp;refine kK hK (bal hb3 _) ?_;clear hK K;refine wOn 9 fun K hK=>?_
   go_simp;refine kK hK (bal hb3 _) ?_;clear hK K;refine wDn ?_ _;exact⟨w3.1.size,by simp only[Act.put,pZa,pZb,pZc],bal hb3 (sxO k ln co (.slice none 0 0) (.slice none 0 0) 0 (.slice none 0 0) (.slice none 0 0)),jO.new k ln co (.slice none 0 0) (.slice none 0 0) 0 (.slice none 0 0) (.slice none 0 0) w3,jO.kind w3,hb3.size⟩
  ·go_simp;refine kK hK (bal (Below.refl W.1.size W).drew (.cells #[.string ⟨#[]⟩, .int .i64 0, .int .i64 0, .slice none 0 0, .slice none 0 0, .int .i64 0, .slice none 0 0, .slice none 0 0] 73)) ?_;clear hK K;refine wOn 2 fun K hK=>?_
   go_simp;refine(yP ⟨k.toArray⟩ _ (by simpa[ByteArray.size]using hkl)).mono ?_;rintro e w3 ⟨rfl,hb3⟩;have hb4:=(bal (Below.refl W.1.size W).drew (.cells #[.string ⟨#[]⟩, .int .i64 0, .int .i64 0, .slice none 0 0, .slice none 0 0, .int .i64 0, .slice none 0 0, .slice none 0 0] 73)).trans (hb3.mono (by simp));refine kK hK hb4 ?_;clear hK K;refine wTk 7 14 (.agg #[.string ⟨k.toArray⟩, .int .i64 ln, .int .i64 co, .slice none 0 0, .slice none 0 0, .int .i64 0, .slice none 0 0, .slice none 0 0]) ?_ (hb4) ?_
   ·intro _ y;go_simp
   have hb3:Below (W.alloc (sxO [] 0 0 (.slice none 0 0) (.slice none 0 0) 0 (.slice none 0 0) (.slice none 0 0))).1.size (W.alloc (sxO [] 0 0 (.slice none 0 0) (.slice none 0 0) 0 (.slice none 0 0) (.slice none 0 0))) w3:=⟨hb3.os,hb3.tape,hb3.output,hb3.size,hb3.block⟩;have sb:=(jO.new [] 0 0 (.slice none 0 0) (.slice none 0 0) 0 (.slice none 0 0) (.slice none 0 0) W).below hb3;have kd:jX w3 W.1.size 73:=(jO.kind (op:=[]) (l:=0) (c:=0) (tv:=.slice none 0 0) (ev:=.slice none 0 0) (fn:=0) (hv:=.slice none 0 0) (lv:=.slice none 0 0) W).turn (hb3.block _ (by simp));have⟨z0,z1,z2,z3,z4,z5,z6,z7,_⟩:=sb.a;have⟨zf0,zf1,zf2,zf3,zf4,zf5,zf6,zf7,_⟩:=sb.b;refine wOn 9 fun K hK=>?_
   go_simp;refine kK hK (set8 hb4 (Nat.le_refl _) _ _ _ _ _ _ _ _) ?_;clear hK K;refine wDn ?_ _;exact⟨W.1.size,by simp only[Act.put,pZa,pZb,pZc],set8 hb4 (Nat.le_refl _) _ _ _ _ _ _ _ _,sb.set8,(((((((kd.set _ _ _).set _ _ _).set _ _ _).set _ _ _).set _ _ _).set _ _ _).set _ _ _).set _ _ _,Nat.le_refl _⟩
 ·intro NS w5 hIq;obtain⟨hb5,hS5,hkd,hNS⟩:=hIq;try simp only[Act.put,pZa,pZb,pZc]
  have hsz:=HSZ.o;have HS5:=hI (show SIn M fs k x m ln co ks q c NS k (.slice none 0 0) (.slice none 0 0) 0 w w5 from
   have hW:=HBL.o.trans (hb5.mono (by omega))
   ⟨hW,⟨by omega,hS5.lt⟩,hF0,HM.o.below hb5,HN.o.below hb5,HT.o.below hb5,(show jX W (w.1.size+1) 73 from HKT0.o).turn (hb5.block _ (by omega)),hS5,hkd,HK.o.keep (hW.mono hL),xZ.move (fun g hg hok=>⟨hok,hW.block g hg⟩) _ _ HLI.o,Mem.vlt HM0.o⟩)
  clear hb5 hS5 hkd hsz hNS n0 n1 n2 n3 n4 n5 HM HN HT HKT0 HM0 HK HLI HBL HSZ;clear W;obtain⟨a,rfl,ha⟩:=hks;have HP:=hI (HSC.o.trans (by rw[h1,h2];rfl:_=(wJ ⟨M.gs,M.own fs⟩ a).bind fun p=>.ok (.mk k ln co [p] [] 0 [] [],M.own fs)));obtain⟨g,off,rfl,hRN⟩:=HS5.o.ka.resolve_left (by simp);have hgL:=hRN.1;obtain⟨qa,na,ca,hla,hca⟩:=hRN.2 0 (by simp);simp only[List.getElem_cons_zero]at hla hca;have⟨k0,k1,k2,k3,k4,k5,_⟩:=hca.a;simp only[Nat.zero_mul,Nat.add_zero]at k0 k1 k2 k3 k4 k5;obtain⟨ak,ax,am,aln,aco,aks⟩:=a;have HTG:=hI (qKO ak ax am aln aco aks ha M.B M.L ⟨M.gs,M.own fs⟩ (.slice qa na ca) w5 HS5.o.ea HS5.o.le hla);simp only[qZ,qS,tQ,List.length]at *;have hcc:(1:Int)<=(c:Nat):=by omega
  obtain⟨n0,n1,n2,n3,n4,n5⟩:=HS5.o.nd.cells;unfold qP at h1;unfold qW at h2;clear HSC;go_wp2_with fail
  refine(HTG.o).mono ?_;rintro e w6 hX;rcases hX.cases with⟨p,u,hp,rfl,⟨kv,rfl,hles⟩,hb6⟩ | ⟨l',c',code,hp,rfl,hb6⟩;rotate_left
  ·exact⟨rfl,(HS5.o.below hb6).bad (by rw[HP.o,hp];rfl)⟩
  have HS6:=hI (HS5.o.below hb6);have hsz5:=HS5.o.sz;have HLE:=hI hles;have hs6:=hb6.size;obtain⟨pop,⟨pT0,pT1⟩,pn,pv,pg,pl,pc,pk⟩:=p;have HQ:=hI (HP.o.trans (by rw[hp];rfl:_=.ok (.mk k ln co [.mk pop (pT0,pT1) pn pv pg pl pc pk] [] 0 [] [],M.own fs)));obtain⟨uq,uc,rfl⟩:=hles.shape;obtain⟨n0,n1,n2,n3,n4,n5⟩:=HS6.o.nd.cells;have⟨r0,r1,r2,r3,r4,r5,r6,r7,_⟩:=HS6.o.rt.a;have⟨rf0,rf1,rf2,rf3,rf4,rf5,rf6,rf7,_⟩:=HS6.o.rt.b;have⟨s0,s1,s2,s3,s4,s5,s6,s7,_⟩:=HS6.o.sb.a;have rl:=HS6.o.rt.lt;have sf3:=HS6.o.sb.f 3 nL;have hsz6:=HS6.o.sz;have hNw:¬NS=w6.1.size:=by omega
  have hwn:¬w6.1.size=NS:=by omega
  have hNr:¬NS=w.1.size+1:=by omega
  have hrN:¬w.1.size+1=NS:=by omega
  have hrw:¬w.1.size+1=w6.1.size:=by omega
  have hwr:¬w6.1.size=w.1.size+1:=by omega
  clear hX hp hles hb6 HTG k0 k1 k2 k3 k4 k5 hla hca;simp only[exV,Ex.kids]at *;have HS7:=hI (HS6.o.setT (.slice (some ⟨w6.1.size,0,none⟩) 1 1));have HLE7:=hI (qU.setN (N:=NS) HLE.o hsz5.2 (o:=3) (.slice (some ⟨w6.1.size,0,none⟩) 1 1));have hszV:(w6.setCell ⟨NS,3,none⟩ (.slice (some ⟨w6.1.size,0,none⟩) 1 1)).1.size=w6.1.size:=by simp
  have HBV:=hI (bal (Below.refl (w6.setCell ⟨NS,3,none⟩ (.slice (some ⟨w6.1.size,0,none⟩) 1 1)).1.size (w6.setCell ⟨NS,3,none⟩ (.slice (some ⟨w6.1.size,0,none⟩) 1 1))) (exO pop (pT0,pT1) pn pv pg pl pc (.slice uq pk.length uc)));have HS11:=hI (HS7.o.below HBV.o);have HL1:=hI (qU.single (ok:=fun g=>w.1.size+2<=g) (p:=.mk pop (pT0,pT1) pn pv pg pl pc pk) (qU.mono HLE7.o (fun g hg=>by omega)) (show w.1.size+2<=(w6.setCell ⟨NS,3,none⟩ (.slice (some ⟨w6.1.size,0,none⟩) 1 1)).1.size by rw[hszV];omega));simp only[exO,exC,hszV]at HS11 HL1;go_wp2
  refine bodyPost_ret (v:=sxV (.mk k ln co [.mk pop (pT0,pT1) pn pv pg pl pc pk] [] 0 [] []) ⟨.slice (some ⟨w6.1.size,0,none⟩) 1 1, .slice none 0 0, .slice none 0 0, .slice none 0 0⟩) (by simp[results,results122,go_sem,sxV,r0,r1,r2,r3,r4,r5,r6,r7,rl]) rfl ?_;have HF:=hI (HS11.o.fin HQ.o HL1.o (qU.nil _ _));rw[<-comm8 _ _ _ (by rw[hszV];omega)];exact HF.o _ _ _ _ _ _ _ _
theorem qWK{fs:List FnM}{t:qQ}{hd:kI}{i:Nat}(h:wI (fs.map (fun f=>f.h)) t=.ok (hd,i)):∃ hi:i < fs.length,hd=fs[i].h/\t.kids.length=fs[i].h.params.length:=by
 unfold wI at h;cases hl:qQN t.text 0 (fs.map (·.h))with
 | none=>rw[hl]at h;cases h
 | some r =>
  obtain⟨h',i'⟩:=r;rw[hl]at h;obtain⟨e1,e2,hiL,rfl⟩:=qJK hl;have hi:i' < fs.length:=by simpa using hiL
  by_cases hn:t.kids.length=(fs.map (fun f:FnM=>f.h))[i'].params.length
  ·simp only[jQ,hn,decide_true,if_true,CR.bind]at h;injection h with h;injection h with ha hb;subst hb;exact⟨hi,by rw[<-ha];simp,by simpa using hn⟩
  ·simp only[jQ,hn,decide_false,CR.bind]at h;cases h
theorem st_call(k x:List UInt8)(m ln co:Int)(ks:List qQ)(hkl:k.length<=1000000)(h1:(k == qP)=false)(h2:(k == qW)=false)(h3:(k == zW)=true)(hks:qZV ks=true/\ks.length<=1000000/\x.length<=1000000):qUB (.mk k x m ln co ks):=by
 intro M fs v w h hL hl;obtain⟨q,c,rfl,hc1,hc2,hK⟩:=hl.kids;have hbl:=bal (bal (Below.refl w.1.size w) (qB (.mk k x m ln co ks) (.slice q ks.length c))) (sxO [] 0 0 (.slice none 0 0) (.slice none 0 0) 0 (.slice none 0 0) (.slice none 0 0));have HBL:=hI hbl;have HN:=hI ((Bx.new (.mk k x m ln co ks) (.slice q ks.length c) w).below (bal (Below.refl _ _) (sxO [] 0 0 (.slice none 0 0) (.slice none 0 0) 0 (.slice none 0 0) (.slice none 0 0))));have HT:=hI (jO.new [] 0 0 (.slice none 0 0) (.slice none 0 0) 0 (.slice none 0 0) (.slice none 0 0) (w.alloc (qB (.mk k x m ln co ks) (.slice q ks.length c))));simp only[World.size_alloc]at HT;have HKT0:=hI (show jX ((w.alloc (qB (.mk k x m ln co ks) (.slice q ks.length c))).alloc (sxO [] 0 0 (.slice none 0 0) (.slice none 0 0) 0 (.slice none 0 0) (.slice none 0 0))) (w.1.size+1) 73 from by
  have:=jO.kind (op:=[]) (l:=0) (c:=0) (tv:=.slice none 0 0) (ev:=.slice none 0 0) (fn:=0) (hv:=.slice none 0 0) (lv:=.slice none 0 0) (w.alloc (qB (.mk k x m ln co ks) (.slice q ks.length c)));simpa using this)
 have HM:=hI (show M.at fs ((w.alloc (qB (.mk k x m ln co ks) (.slice q ks.length c))).alloc (sxO [] 0 0 (.slice none 0 0) (.slice none 0 0) 0 (.slice none 0 0) (.slice none 0 0)))from h.below hbl);have HM0:=hI h;have HLI:=hI hl;have hsz:((w.alloc (qB (.mk k x m ln co ks) (.slice q ks.length c))).alloc (sxO [] 0 0 (.slice none 0 0) (.slice none 0 0) 0 (.slice none 0 0) (.slice none 0 0))).1.size=w.1.size+2:=by simp
 have HSC:=hI (qVP M.gs (fs.map (·.h)) (fs.getD M.ci noF).h.t k x m ln co ks (M.own fs));have HK:=hI hK;have hF0:M.L<=w.1.size:=hL;clear h hl hK hbl;simp only[qZ,qB,sxO,qS,tQ]at *;go_enter func122,ntmps122
 go_wp2
 generalize ((w.alloc _).alloc _)=W at *;have HSZ:=hI hsz;clear hsz;obtain⟨n0,n1,n2,n3,n4,n5⟩:=HN.o.cells;refine qXG (fun a N=>(((((((((a.put (some 7) (.pointer (some ⟨w.1.size,0,none⟩))).put (some 8) (.string ⟨k.toArray⟩)).put (some 9) (.string ⟨k.toArray⟩)).put (some 10) (.pointer (some ⟨w.1.size,3,none⟩))).put (some 11) (.int .i64 ln)).put (some 12) (.pointer (some ⟨w.1.size,4,none⟩))).put (some 13) (.int .i64 co)).put (some 14) (.agg #[.string ⟨k.toArray⟩, .int .i64 ln, .int .i64 co, .slice none 0 0, .slice none 0 0, .int .i64 0, .slice none 0 0, .slice none 0 0])).put (some 5) (.pointer (some ⟨N,0,none⟩)))) (fun N w'=>StIn W k ln co N w') ?_ ?_
 ·refine wRg (S:=fun w'=>Below W.1.size W w') 99 ?_;refine wTk 0 7 (.pointer (some ⟨w.1.size,0,none⟩)) ?_ (bD W) ?_
  ·intro _ y;go_simp
  refine wTk 1 8 (.string ⟨k.toArray⟩) ?_ (bD W) ?_
  ·intro _ y;obtain⟨n0,n3,n4⟩:=kP3 y n0 n3 n4;go_simp
  refine wTk 3 10 (.pointer (some ⟨w.1.size,3,none⟩)) ?_ (bD W) ?_
  ·intro _ y;go_simp
  refine wTk 4 11 (.int .i64 ln) ?_ (bD W) ?_
  ·intro _ y;obtain⟨n0,n3,n4⟩:=kP3 y n0 n3 n4;go_simp
  refine wTk 5 12 (.pointer (some ⟨w.1.size,4,none⟩)) ?_ (bD W) ?_
  ·intro _ y;go_simp
  refine wTk 6 13 (.int .i64 co) ?_ (bD W) ?_
  ·intro _ y;obtain⟨n0,n3,n4⟩:=kP3 y n0 n3 n4;go_simp
  refine wE (i:=2) (j:=8) rfl rfl (by kernel_rfl) (by rfl) (by rfl) (fun K hK=>?_) (fun K hK=>?_)
  ·go_simp;refine(yP ⟨k.toArray⟩ _ (by simpa[ByteArray.size]using hkl)).mono ?_;rintro e w3 ⟨rfl,hb3⟩;have hb3:=zF hb3;refine kK hK hb3 ?_;clear hK K;refine wTk 7 14 (.agg #[.string ⟨k.toArray⟩, .int .i64 ln, .int .i64 co, .slice none 0 0, .slice none 0 0, .int .i64 0, .slice none 0 0, .slice none 0 0]) ?_ (hb3) ?_
   ·intro _ y;go_simp
   refine wOn 8 fun K hK=>?_
   go_simp;refine kK hK (bal hb3 _) ?_;clear hK K;refine wOn 9 fun K hK=>?_
   go_simp;refine kK hK (bal hb3 _) ?_;clear hK K;refine wDn ?_ _;exact⟨w3.1.size,by simp only[Act.put,pZa,pZb,pZc],bal hb3 (sxO k ln co (.slice none 0 0) (.slice none 0 0) 0 (.slice none 0 0) (.slice none 0 0)),jO.new k ln co (.slice none 0 0) (.slice none 0 0) 0 (.slice none 0 0) (.slice none 0 0) w3,jO.kind w3,hb3.size⟩
  ·go_simp;refine kK hK (bal (Below.refl W.1.size W).drew (.cells #[.string ⟨#[]⟩, .int .i64 0, .int .i64 0, .slice none 0 0, .slice none 0 0, .int .i64 0, .slice none 0 0, .slice none 0 0] 73)) ?_;clear hK K;refine wOn 2 fun K hK=>?_
   go_simp;refine(yP ⟨k.toArray⟩ _ (by simpa[ByteArray.size]using hkl)).mono ?_;rintro e w3 ⟨rfl,hb3⟩;have hb4:=(bal (Below.refl W.1.size W).drew (.cells #[.string ⟨#[]⟩, .int .i64 0, .int .i64 0, .slice none 0 0, .slice none 0 0, .int .i64 0, .slice none 0 0, .slice none 0 0] 73)).trans (hb3.mono (by simp));refine kK hK hb4 ?_;clear hK K;refine wTk 7 14 (.agg #[.string ⟨k.toArray⟩, .int .i64 ln, .int .i64 co, .slice none 0 0, .slice none 0 0, .int .i64 0, .slice none 0 0, .slice none 0 0]) ?_ (hb4) ?_
   ·intro _ y;go_simp
   have hb3:Below (W.alloc (sxO [] 0 0 (.slice none 0 0) (.slice none 0 0) 0 (.slice none 0 0) (.slice none 0 0))).1.size (W.alloc (sxO [] 0 0 (.slice none 0 0) (.slice none 0 0) 0 (.slice none 0 0) (.slice none 0 0))) w3:=⟨hb3.os,hb3.tape,hb3.output,hb3.size,hb3.block⟩;have sb:=(jO.new [] 0 0 (.slice none 0 0) (.slice none 0 0) 0 (.slice none 0 0) (.slice none 0 0) W).below hb3;have kd:jX w3 W.1.size 73:=(jO.kind (op:=[]) (l:=0) (c:=0) (tv:=.slice none 0 0) (ev:=.slice none 0 0) (fn:=0) (hv:=.slice none 0 0) (lv:=.slice none 0 0) W).turn (hb3.block _ (by simp));have⟨z0,z1,z2,z3,z4,z5,z6,z7,_⟩:=sb.a;have⟨zf0,zf1,zf2,zf3,zf4,zf5,zf6,zf7,_⟩:=sb.b;refine wOn 9 fun K hK=>?_
   go_simp;refine kK hK (set8 hb4 (Nat.le_refl _) _ _ _ _ _ _ _ _) ?_;clear hK K;refine wDn ?_ _;exact⟨W.1.size,by simp only[Act.put,pZa,pZb,pZc],set8 hb4 (Nat.le_refl _) _ _ _ _ _ _ _ _,sb.set8,(((((((kd.set _ _ _).set _ _ _).set _ _ _).set _ _ _).set _ _ _).set _ _ _).set _ _ _).set _ _ _,Nat.le_refl _⟩
 ·intro NS w5 hIq;obtain⟨hb5,hS5,hkd,hNS⟩:=hIq;try simp only[Act.put,pZa,pZb,pZc]
  have hsz:=HSZ.o;have HS5:=hI (show SIn M fs k x m ln co ks q c NS k (.slice none 0 0) (.slice none 0 0) 0 w w5 from
   have hW:=HBL.o.trans (hb5.mono (by omega))
   ⟨hW,⟨by omega,hS5.lt⟩,hF0,HM.o.below hb5,HN.o.below hb5,HT.o.below hb5,(show jX W (w.1.size+1) 73 from HKT0.o).turn (hb5.block _ (by omega)),hS5,hkd,HK.o.keep (hW.mono hL),xZ.move (fun g hg hok=>⟨hok,hW.block g hg⟩) _ _ HLI.o,Mem.vlt HM0.o⟩)
  clear hb5 hS5 hkd hsz hNS n0 n1 n2 n3 n4 n5 HM HN HT HKT0 HM0 HK HLI HBL HSZ;clear W;obtain⟨hwk,hkl2,hxl⟩:=hks;have HP:=hI (HSC.o.trans (by rw[h1,h2,h3];rfl:_=(wI (fs.map (·.h)) (.mk k x m ln co ks)).bind fun h=>(wM ⟨M.gs,M.own fs⟩ ks h.1.params).bind fun es=>.ok (.mk k ln co [] es h.2 [] [],M.own fs)));have HCD:=hI (qWL M.B M.gs fs M.ci (.mk k x m ln co ks) (.slice q ks.length c) w5 HS5.o.ra hxl ⟨_,_,rfl⟩ hkl2);have HWK:=hI hwk;simp only[qZ,qS,tQ]at HCD;obtain⟨n0,n1,n2,n3,n4,n5⟩:=HS5.o.nd.cells;unfold qP at h1;unfold qW at h2;unfold zW at h3;clear HSC hwk;go_wp2_with fail
  refine(HCD.o).mono ?_;rintro e w6 hX;rcases hX.cases with⟨r,u,hp,rfl,rfl,hb6⟩ | ⟨l',c',code,hp,rfl,hb6⟩;rotate_left
  ·exact⟨rfl,(HS5.o.below hb6).bad (by rw[HP.o,hp];rfl)⟩
  obtain⟨hd,i⟩:=r;obtain⟨hi,rfl,hln⟩:=qWK hp;have HS6:=hI (HS5.o.below hb6);have HI:=hI hi;have HLN:=hI hln;have HQ:=hI (HP.o.trans (by rw[hp];rfl:_=(wM ⟨M.gs,M.own fs⟩ ks fs[i].h.params).bind fun es=>.ok (.mk k ln co [] es i [] [],M.own fs)));have hsz5:=HS5.o.sz;have hs6:=hb6.size;obtain⟨n0,n1,n2,n3,n4,n5⟩:=HS6.o.nd.cells;have s5:=HS6.o.sb.c5;have sf5:=HS6.o.sb.f 5 nL;have hsz6:=HS6.o.sz;have hNw:¬NS=w.1.size:=by omega
  have hwN:¬w.1.size=NS:=by omega
  clear hX hp hb6 HCD hln;go_wp2_with fail
  have HS7:=hI (HS6.o.setF i);have hszV:(w6.setCell ⟨NS,5,none⟩ (.int .i64 i)).1.size=w6.1.size:=by simp
  generalize (w6.setCell ⟨NS,5,none⟩ (.int .i64 i))=V at *;refine(qPg M.B M.L M.gs fs M.ci i ks q c V HWK.o HS7.o.ra hi HLN.o HS7.o.le HS7.o.ka).mono ?_;rintro e w8 hX;rcases hX.cases with⟨es,u,hp,rfl,hles,hb8⟩ | ⟨l',c',code,hp,rfl,hb8⟩;rotate_left
  ·exact⟨rfl,(HS7.o.below hb8).bad (HQ.o.trans (congrArg (fun z:CR (List Ex)=>z.bind fun es=>CR.ok (Sx.mk k ln co [] es i [] [],M.own fs)) hp))⟩
  have HS8:=hI (HS7.o.below hb8);have HL8:=hI (hles.mono (ok':=fun g=>NS+1<=g) (fun g hg=>by omega));have HF:=hI (HQ.o.trans (congrArg (fun z:CR (List Ex)=>z.bind fun es=>CR.ok (Sx.mk k ln co [] es i [] [],M.own fs)) hp:_=.ok (.mk k ln co [] es i [] [],M.own fs)));obtain⟨uq,uc,rfl⟩:=hles.shape;have hs8:=hb8.size;have HS9:=hI (HS8.o.setE (.slice uq es.length uc));have HL9:=hI ((qU.setN (N:=NS) HL8.o (by omega) (o:=4) (.slice uq es.length uc)).mono (ok':=fun g=>w.1.size+2<=g) (fun g hg=>by omega));have s4:=HS8.o.sb.c4;have sf4:=HS8.o.sb.f 4 nL;have sz8:=HS8.o.sz;clear n0 n1 n2 n3 n4 n5 s5 sf5 hX hp hles hb8 HS6 HS7;have⟨r0,r1,r2,r3,r4,r5,r6,r7,_⟩:=HS8.o.rt.a;have⟨rf0,rf1,rf2,rf3,rf4,rf5,rf6,rf7,_⟩:=HS8.o.rt.b;have⟨s0,s1,s2,s3,s4,s5,s6,s7,_⟩:=HS8.o.sb.a;have rl:=HS8.o.rt.lt;have hNr:¬NS=w.1.size+1:=by omega
  have hrN:¬w.1.size+1=NS:=by omega
  go_wp2
  exact bodyPost_ret (v:=sxV (.mk k ln co [] es i [] []) ⟨.slice none 0 0, .slice uq es.length uc, .slice none 0 0, .slice none 0 0⟩) (by simp[results,results122,go_sem,sxV,r0,r1,r2,r3,r4,r5,r6,r7,rl, *]) rfl (HS9.o.fin HF.o (qU.nil _ _) HL9.o _ _ _ _ _ _ _ _)
end Go.Proofs.YtiajhekdhhhghaaGreatDoor
