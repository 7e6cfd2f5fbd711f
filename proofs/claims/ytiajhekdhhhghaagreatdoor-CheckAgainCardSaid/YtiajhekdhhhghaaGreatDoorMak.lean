/- Walks. -/
import Derived.Test.YtiajhekdhhhghaaGreatDoorMaj
set_option linter.all false
set_option maxHeartbeats 8000000
set_option maxRecDepth 100000
namespace Go.Proofs.YtiajhekdhhhghaaGreatDoor
open Tryz Go.Proofs.Tryz
open Go Go.RowKit
def GBox(D:qI)(lk lx:List UInt8)(lm ll lc:Int)(lv:Value)(W:World)(x:Nat×Nat)(w':World):Prop :=
 Below W.1.size W w'/\qQB x.1 D w'/\zI x.2 lk lx lm ll lc lv w'/\W.1.size<=x.1/\W.1.size<=x.2/\x.1≠x.2
def qUa(t:qQ):Bool:=!((yE t).kind == zD) || (decide (1<=(yE t).num) && decide ((yE t).num<=16))
theorem qWW(S:HdS)(t:qQ):qZ9 S t=(jQ (!(qUa t) || decide (yV S.gs+max (if qUa t then(yE t).num else 0) 1<=64)) t 45).bind fun _=>(yF S t).bind fun _=>(jQ (qUa t) (yE t) 42).bind fun _=>.ok ⟨S.gs++[⟨(qZr t).name,(qZr t).t,if qUa t then(yE t).num else 0⟩],S.fs⟩:=rfl
theorem qKQ{S:HdS}{t:qQ}{u:Unit}(h:yF S t=.ok u):qZc t.text 0 (S.gs.map (·.name))=none/\qZc t.text 0 (S.fs.map (·.name))=none:=by
 unfold yF jQ at h;split at h
 ·rename_i hb;simp only[bE]at hb;exact⟨qZI.1.1 (Option.isNone_iff_eq_none.1 hb.1),qX1.1.1 (Option.isNone_iff_eq_none.1 hb.2)⟩
 ·cases h
theorem qL8(B L:Nat)(gs:List qI)(fs:List FnM)(gv fv:Value)(Mg Mf Mr:Nat)(cl:vE)(t u:qQ)(r:List qQ)(v:Value)(w:World)(h:HIn B L gs fs gv fv Mg Mf Mr cl (yV gs) w)
 (hL:L<=w.1.size) (hks:t.kids=u :: r) (hl:xZ w (· < L) t v) (hx:t.text.length<=1000000) (hkl:t.kids.length<=1000000) (hz:((yE t).kind == zD)=false->(yE t).num=0) (hnm:0<=(yE t).num/\(yE t).num < 18446744073709551616) :
 Calls prog 86 #[.pointer (some ⟨B,0,none⟩),qZ t v] w (wP B L Mg Mf Mr cl (qZ9 ⟨gs,fs.map (fun f=>f.h)⟩ t) w):=by
 obtain⟨q,c,rfl,hc1,hc2,hK⟩:=hl.kids;have HBL:=hI (bal (Below.refl w.1.size w) (qB t (.slice q t.kids.length c)));have HN:=hI (Bx.new t (.slice q t.kids.length c) w);have HW:=hI (h.below HBL.o);have HLA:=hI (hl.keep (HBL.o.mono hL));have hsz:(w.alloc (qB t (.slice q t.kids.length c))).1.size=w.1.size+1:=by simp
 have HDE:=hI (fun w' (hb:Below w.1.size w w')=>qJc L t u r (.slice q t.kids.length c) w' hks (h.wtab.below hb) (by have:=hb.size;omega) (xZ.move (fun g hg hok=>⟨hok,hb.block g (by omega)⟩) t _ hl) hx);have HPB:=hI (qWW ⟨gs,fs.map (fun f=>f.h)⟩ t);have HNA:=hI (fun b cd w'=>qQk b t (.slice q t.kids.length c) cd w');have HUN:=hI (fun cn w' (h':HIn B L gs fs gv fv Mg Mf Mr cl cn w')=>qWf B L gs fs gv fv Mg Mf Mr cl cn t (.slice q t.kids.length c) w' h' hx ⟨_,_,rfl⟩);have HFT:=hI (show qUa t=(!((yE t).kind == zD) || (decide (1<=(yE t).num) && decide ((yE t).num<=16)))from rfl);have HX:=hI hx;have HZ:=hI hz;have HDN:=hI (show(qZr t).name=t.text from rfl);have H0:=hI h;have hne:t.kids≠[]:=by rw[hks];simp
 obtain⟨p,hp⟩:∃ p,t.kids.length=p+1:=⟨t.kids.length - 1,by have:=List.length_pos_iff.2 hne;omega⟩;have HLT2:=hI (last_at hp);obtain⟨g2,off2,rfl,hR2⟩:=hK.resolve_left hne;obtain⟨lq,ln2,lcp,hll,hlc⟩:=hR2.2 p (by omega);rw[HLT2.o]at hll hlc;have hg2:=hR2.1;have hBw:B < w.1.size:=qJ h.c0;clear h hl hK hks hR2 hx hz hne HLT2;obtain⟨k,x,m,ln,co,ks⟩:=t;generalize hlt:yE (.mk k x m ln co ks)=lt at *;generalize hft:qUa (.mk k x m ln co ks)=ft at *;generalize hD:qZr (.mk k x m ln co ks)=D at *;clear hlt hft hD;obtain⟨Dn,⟨Dw,Ds⟩,Dz⟩:=D;obtain⟨lk,lx,lm,ll,lc,lks⟩:=lt;simp only[qZ,qB,qS,qXK,qQ.kind,qQ.text,qQ.num,qQ.line,qQ.col,qQ.kids]at *;have hpb:p < 1000000:=by omega
 have hlc:=hlc.move (HBL.o.block g2 (by omega));rw[hp]at *;have hpi:(p:Int) < ((p+1:Nat):Int):=by omega
 clear hp;go_enter func86,ntmps86
 go_wp2
 generalize (w.alloc _)=W at *;have hWs:w.1.size<=W.1.size:=by omega
 obtain⟨n0,n1,n2,n3,n4,n5⟩:=HN.o.cells;have⟨k0,k1,k2,k3,k4,k5,_⟩:=hlc.a;simp only[qQ.kind,qQ.text,qQ.num,qQ.line,qQ.col,qQ.kids]at k0 k1 k2 k3 k4 k5 n0 n1 n2 n3 n4 n5;clear hlc hll;refine wp_cutX (X:=Nat×Nat) (fun a0 r=>((((((((((((a0.put (some 7) (.agg #[.string ⟨k.toArray⟩, .string ⟨x.toArray⟩, .int .u64 m, .int .i64 ln, .int .i64 co, .slice (some ⟨g2,off2,none⟩) (p+1) c])).put (some 9) (.pointer (some ⟨w.1.size,5,none⟩))).put (some 10) (.slice (some ⟨g2,off2,none⟩) (p+1) c)).put (some 11) (.pointer (some ⟨w.1.size,5,none⟩))).put (some 12) (.slice (some ⟨g2,off2,none⟩) (p+1) c)).put (some 13) (.int .i64 ((p:Int)+1))).put (some 14) (.int .i64 p)).put (some 15) (.pointer (some ⟨g2,off2+p * 6,none⟩))).put (some 16) (.agg #[.string ⟨lk.toArray⟩, .string ⟨lx.toArray⟩, .int .u64 lm, .int .i64 ll, .int .i64 lc, .slice lq ln2 lcp])).put (some 8) (.agg #[.string ⟨Dn.toArray⟩, .int .i64 Dw, .bool Ds, .int .i64 Dz])).put (some 4) (.pointer (some ⟨r.1,0,none⟩))).put (some 5) (.pointer (some ⟨r.2,0,none⟩)))) (GBox ⟨Dn,(Dw,Ds),Dz⟩ lk lx lm ll lc (.slice lq ln2 lcp) W) (fun _ _=>False) ?_ ?_ ?_;rotate_left 2
 ·rintro ch a' w' _ hf;exact hf.elim
 ·refine wRg (S:=fun w'=>Below W.1.size W w') 99 ?_;refine wTk 0 7 (.agg #[.string ⟨k.toArray⟩, .string ⟨x.toArray⟩, .int .u64 m, .int .i64 ln, .int .i64 co, .slice (some ⟨g2,off2,none⟩) (p+1) c]) ?_ (bD W) ?_
  ·intro _ y;obtain⟨n0,n1,n2,n3,n4,n5⟩:=kP6 y n0 n1 n2 n3 n4 n5;go_simp
  refine wTk 2 9 (.pointer (some ⟨w.1.size,5,none⟩)) ?_ (bD W) ?_
  ·intro _ y;go_simp
  refine wTk 3 10 (.slice (some ⟨g2,off2,none⟩) (p+1) c) ?_ (bD W) ?_
  ·intro _ y;have n5:=kP y n5;go_simp
  refine wTk 4 11 (.pointer (some ⟨w.1.size,5,none⟩)) ?_ (bD W) ?_
  ·intro _ y;go_simp
  refine wTk 5 12 (.slice (some ⟨g2,off2,none⟩) (p+1) c) ?_ (bD W) ?_
  ·intro _ y;have n5:=kP y n5;go_simp
  refine wTk 6 13 (.int .i64 (p+1:Nat)) ?_ (bD W) ?_
  ·intro _ y;go_simp
  refine wTk 7 14 (.int .i64 p) ?_ (bD W) ?_
  ·intro _ y;clear y;have hwp:IntKind.i64.wrap (((p+1:Nat):Int) - 1)=(p:Nat):=by rw[IntWalk.i64_in _ (by omega)];omega
   have hwq:IntKind.i64.wrap (p:Nat)=(p:Nat):=IntWalk.i64_in _ (by omega);go_simp
  refine wTk 8 15 (.pointer (some ⟨g2,off2+p * 6,none⟩)) ?_ (bD W) ?_
  ·intro _ y;go_simp;intro h;omega
  refine wTk 9 16 (.agg #[.string ⟨lk.toArray⟩, .string ⟨lx.toArray⟩, .int .u64 lm, .int .i64 ll, .int .i64 lc, .slice lq ln2 lcp]) ?_ (bD W) ?_
  ·intro _ y;obtain⟨k0,k1,k2,k3,k4,k5⟩:=kP6 y k0 k1 k2 k3 k4 k5;go_simp
  have HB0:=hI ((Below.refl W.1.size W).drew);clear n0 n1 n2 n3 n4 n5 k0 k1 k2 k3 k4 k5;generalize World.drew W=C0 at *;refine qVq (i:=1) (j:=10) (l:=11) rfl rfl rfl (by kernel_rfl) (by rfl) (by rfl) (by rfl) (fun K hK=>?_) (fun K hK=>?_) (fun K hK=>?_)
  ·go_simp;refine(HDE.o C0 (HBL.o.trans (HB0.o.mono hWs))).mono ?_;rintro e C1 ⟨rfl,hb⟩;simp only[qXK];have hw0:=HB0.o.size;have HB1:=hI (HB0.o.trans (hb.mono HB0.o.size));have hs1:=hb.size;refine kK hK HB1.o ?_;clear hK K hb;try simp only[Act.put,pZa,pZb,pZc]
   refine jA (i:=10) (j:=11) rfl rfl (by kernel_rfl) (by rfl) (by rfl) (fun K hK=>?_) (fun K hK=>?_)
   ·go_simp;refine kK hK (bal HB1.o _) ?_;clear hK K;have HB2:=hI (bal HB1.o (.cells #[.string ⟨#[]⟩, .int .i64 0, .bool false, .int .i64 0] 42));have hA:Below C1.1.size C1 (C1.alloc (.cells #[.string ⟨#[]⟩, .int .i64 0, .bool false, .int .i64 0] 42)):=bal (Below.refl _ _) _;have hs2:C1.1.size < (C1.alloc (.cells #[.string ⟨#[]⟩, .int .i64 0, .bool false, .int .i64 0] 42)).1.size:=by simp
    have hw1:=HB1.o.size;have H4:=hI (show qQB C1.1.size qZU (C1.alloc (.cells #[.string ⟨#[]⟩, .int .i64 0, .bool false, .int .i64 0] 42))from qQB.new qZU C1);clear hA;generalize (C1.alloc (.cells #[.string ⟨#[]⟩, .int .i64 0, .bool false, .int .i64 0] 42))=C2 at *;refine wOn 11 fun K hK=>?_
    go_simp;refine kK hK (bal HB2.o _) ?_;clear hK K;have HB3:=hI (bal HB2.o (.cells #[.string ⟨#[]⟩, .string ⟨#[]⟩, .int .u64 0, .int .i64 0, .int .i64 0, .slice none 0 0] 57));have hA:Below C2.1.size C2 (C2.alloc (.cells #[.string ⟨#[]⟩, .string ⟨#[]⟩, .int .u64 0, .int .i64 0, .int .i64 0, .slice none 0 0] 57)):=bal (Below.refl _ _) _;have hs3:C2.1.size < (C2.alloc (.cells #[.string ⟨#[]⟩, .string ⟨#[]⟩, .int .u64 0, .int .i64 0, .int .i64 0, .slice none 0 0] 57)).1.size:=by simp
    have hw2:=HB2.o.size;have H4:=hI (H4.o.below hA);have H5:=hI (show zI C2.1.size [] [] 0 0 0 (.slice none 0 0) (C2.alloc (.cells #[.string ⟨#[]⟩, .string ⟨#[]⟩, .int .u64 0, .int .i64 0, .int .i64 0, .slice none 0 0] 57))from zI.new [] [] 0 0 0 (.slice none 0 0) C2);clear hA;generalize (C2.alloc (.cells #[.string ⟨#[]⟩, .string ⟨#[]⟩, .int .u64 0, .int .i64 0, .int .i64 0, .slice none 0 0] 57))=C3 at *;refine wOn 12 fun K hK=>?_
    have x0:=H4.o.c0;have xf0:=H4.o.f 0 nL;have x1:=H4.o.c1;have xf1:=H4.o.f 1 nL;have x2:=H4.o.c2;have xf2:=H4.o.f 2 nL;have x3:=H4.o.c3;have xf3:=H4.o.f 3 nL;simp only[qZU]at x0 x1 x2 x3;go_simp;refine kK hK (qQ7 HB3.o (by omega) _ _ _ _) ?_;clear hK K;clear x0 xf0 x1 xf1 x2 xf2 x3 xf3;have HB4:=hI (qQ7 (N:=C1.1.size) HB3.o (by omega) (.string ⟨Dn.toArray⟩) (.int .i64 Dw) (.bool Ds) (.int .i64 Dz));have H4:=hI (H4.o.four (d:=⟨Dn,(Dw,Ds),Dz⟩));simp only at H4;have H5:=hI (H5.o.turn (qUc C3 C1.1.size C2.1.size (by omega) (.string ⟨Dn.toArray⟩) (.int .i64 Dw) (.bool Ds) (.int .i64 Dz)));generalize ((((C3.setCell ⟨C1.1.size,0,none⟩ (.string ⟨Dn.toArray⟩)).setCell ⟨C1.1.size,1,none⟩ (.int .i64 Dw)).setCell ⟨C1.1.size,2,none⟩ (.bool Ds)).setCell ⟨C1.1.size,3,none⟩ (.int .i64 Dz))=C4 at *;refine wOn 13 fun K hK=>?_
    have x0:=H5.o.c0;have xf0:=H5.o.f 0 nL;have x1:=H5.o.c1;have xf1:=H5.o.f 1 nL;have x2:=H5.o.c2;have xf2:=H5.o.f 2 nL;have x3:=H5.o.c3;have xf3:=H5.o.f 3 nL;have x4:=H5.o.c4;have xf4:=H5.o.f 4 nL;have x5:=H5.o.c5;have xf5:=H5.o.f 5 nL;go_simp;refine kK hK (vN HB4.o (by omega) _ _ _ _ _ _) ?_;clear hK K;refine wDn ?_ _;exact⟨(C1.1.size,C2.1.size),by simp only[Act.put,pZa,pZb,pZc],vN HB4.o (by omega) _ _ _ _ _ _,H4.o.turn (qZE _ _ _ (by omega) _ _ _ _ _ _),H5.o.six lk lx lm ll lc (.slice lq ln2 lcp),by show W.1.size<=C1.1.size;omega,by show W.1.size<=C2.1.size;omega,by show C1.1.size≠C2.1.size;omega⟩
   ·go_simp;refine kK hK (bal HB1.o _) ?_;clear hK K;have HB2:=hI (bal HB1.o (.cells #[.string ⟨#[]⟩, .string ⟨#[]⟩, .int .u64 0, .int .i64 0, .int .i64 0, .slice none 0 0] 57));have hA:Below C1.1.size C1 (C1.alloc (.cells #[.string ⟨#[]⟩, .string ⟨#[]⟩, .int .u64 0, .int .i64 0, .int .i64 0, .slice none 0 0] 57)):=bal (Below.refl _ _) _;have hs2:C1.1.size < (C1.alloc (.cells #[.string ⟨#[]⟩, .string ⟨#[]⟩, .int .u64 0, .int .i64 0, .int .i64 0, .slice none 0 0] 57)).1.size:=by simp
    have hw1:=HB1.o.size;have H5:=hI (show zI C1.1.size [] [] 0 0 0 (.slice none 0 0) (C1.alloc (.cells #[.string ⟨#[]⟩, .string ⟨#[]⟩, .int .u64 0, .int .i64 0, .int .i64 0, .slice none 0 0] 57))from zI.new [] [] 0 0 0 (.slice none 0 0) C1);clear hA;generalize (C1.alloc (.cells #[.string ⟨#[]⟩, .string ⟨#[]⟩, .int .u64 0, .int .i64 0, .int .i64 0, .slice none 0 0] 57))=C2 at *;refine wOn 10 fun K hK=>?_
    go_simp;refine kK hK (bal HB2.o _) ?_;clear hK K;have HB3:=hI (bal HB2.o (.cells #[.string ⟨#[]⟩, .int .i64 0, .bool false, .int .i64 0] 42));have hA:Below C2.1.size C2 (C2.alloc (.cells #[.string ⟨#[]⟩, .int .i64 0, .bool false, .int .i64 0] 42)):=bal (Below.refl _ _) _;have hs3:C2.1.size < (C2.alloc (.cells #[.string ⟨#[]⟩, .int .i64 0, .bool false, .int .i64 0] 42)).1.size:=by simp
    have hw2:=HB2.o.size;have H5:=hI (H5.o.below hA);have H4:=hI (show qQB C2.1.size qZU (C2.alloc (.cells #[.string ⟨#[]⟩, .int .i64 0, .bool false, .int .i64 0] 42))from qQB.new qZU C2);clear hA;generalize (C2.alloc (.cells #[.string ⟨#[]⟩, .int .i64 0, .bool false, .int .i64 0] 42))=C3 at *;refine wOn 12 fun K hK=>?_
    have x0:=H4.o.c0;have xf0:=H4.o.f 0 nL;have x1:=H4.o.c1;have xf1:=H4.o.f 1 nL;have x2:=H4.o.c2;have xf2:=H4.o.f 2 nL;have x3:=H4.o.c3;have xf3:=H4.o.f 3 nL;simp only[qZU]at x0 x1 x2 x3;go_simp;refine kK hK (qQ7 HB3.o (by omega) _ _ _ _) ?_;clear hK K;clear x0 xf0 x1 xf1 x2 xf2 x3 xf3;have HB4:=hI (qQ7 (N:=C2.1.size) HB3.o (by omega) (.string ⟨Dn.toArray⟩) (.int .i64 Dw) (.bool Ds) (.int .i64 Dz));have H4:=hI (H4.o.four (d:=⟨Dn,(Dw,Ds),Dz⟩));simp only at H4;have H5:=hI (H5.o.turn (qUc C3 C2.1.size C1.1.size (by omega) (.string ⟨Dn.toArray⟩) (.int .i64 Dw) (.bool Ds) (.int .i64 Dz)));generalize ((((C3.setCell ⟨C2.1.size,0,none⟩ (.string ⟨Dn.toArray⟩)).setCell ⟨C2.1.size,1,none⟩ (.int .i64 Dw)).setCell ⟨C2.1.size,2,none⟩ (.bool Ds)).setCell ⟨C2.1.size,3,none⟩ (.int .i64 Dz))=C4 at *;refine wOn 13 fun K hK=>?_
    have x0:=H5.o.c0;have xf0:=H5.o.f 0 nL;have x1:=H5.o.c1;have xf1:=H5.o.f 1 nL;have x2:=H5.o.c2;have xf2:=H5.o.f 2 nL;have x3:=H5.o.c3;have xf3:=H5.o.f 3 nL;have x4:=H5.o.c4;have xf4:=H5.o.f 4 nL;have x5:=H5.o.c5;have xf5:=H5.o.f 5 nL;go_simp;refine kK hK (vN HB4.o (by omega) _ _ _ _ _ _) ?_;clear hK K;refine wDn ?_ _;exact⟨(C2.1.size,C1.1.size),by simp only[Act.put,pZa,pZb,pZc],vN HB4.o (by omega) _ _ _ _ _ _,H4.o.turn (qZE _ _ _ (by omega) _ _ _ _ _ _),H5.o.six lk lx lm ll lc (.slice lq ln2 lcp),by show W.1.size<=C2.1.size;omega,by show W.1.size<=C1.1.size;omega,by show C2.1.size≠C1.1.size;omega⟩
  ·go_simp;refine kK hK (bal HB0.o _) ?_;clear hK K;have HB1:=hI (bal HB0.o (.cells #[.string ⟨#[]⟩, .int .i64 0, .bool false, .int .i64 0] 42));have hA:Below C0.1.size C0 (C0.alloc (.cells #[.string ⟨#[]⟩, .int .i64 0, .bool false, .int .i64 0] 42)):=bal (Below.refl _ _) _;have hs1:C0.1.size < (C0.alloc (.cells #[.string ⟨#[]⟩, .int .i64 0, .bool false, .int .i64 0] 42)).1.size:=by simp
   have hw0:=HB0.o.size;have H4:=hI (show qQB C0.1.size qZU (C0.alloc (.cells #[.string ⟨#[]⟩, .int .i64 0, .bool false, .int .i64 0] 42))from qQB.new qZU C0);clear hA;generalize (C0.alloc (.cells #[.string ⟨#[]⟩, .int .i64 0, .bool false, .int .i64 0] 42))=C1 at *;refine jA (i:=1) (j:=11) rfl rfl (by kernel_rfl) (by rfl) (by rfl) (fun K hK=>?_) (fun K hK=>?_)
   ·go_simp;refine(HDE.o C1 (HBL.o.trans (HB1.o.mono hWs))).mono ?_;rintro e C2 ⟨rfl,hb⟩;simp only[qXK];have hw1:=HB1.o.size;have HB2:=hI (HB1.o.trans (hb.mono HB1.o.size));have hs2:=hb.size;have H4:=hI (H4.o.below hb);refine kK hK HB2.o ?_;clear hK K hb;try simp only[Act.put,pZa,pZb,pZc]
    refine wOn 11 fun K hK=>?_
    go_simp;refine kK hK (bal HB2.o _) ?_;clear hK K;have HB3:=hI (bal HB2.o (.cells #[.string ⟨#[]⟩, .string ⟨#[]⟩, .int .u64 0, .int .i64 0, .int .i64 0, .slice none 0 0] 57));have hA:Below C2.1.size C2 (C2.alloc (.cells #[.string ⟨#[]⟩, .string ⟨#[]⟩, .int .u64 0, .int .i64 0, .int .i64 0, .slice none 0 0] 57)):=bal (Below.refl _ _) _;have hs3:C2.1.size < (C2.alloc (.cells #[.string ⟨#[]⟩, .string ⟨#[]⟩, .int .u64 0, .int .i64 0, .int .i64 0, .slice none 0 0] 57)).1.size:=by simp
    have hw2:=HB2.o.size;have H4:=hI (H4.o.below hA);have H5:=hI (show zI C2.1.size [] [] 0 0 0 (.slice none 0 0) (C2.alloc (.cells #[.string ⟨#[]⟩, .string ⟨#[]⟩, .int .u64 0, .int .i64 0, .int .i64 0, .slice none 0 0] 57))from zI.new [] [] 0 0 0 (.slice none 0 0) C2);clear hA;generalize (C2.alloc (.cells #[.string ⟨#[]⟩, .string ⟨#[]⟩, .int .u64 0, .int .i64 0, .int .i64 0, .slice none 0 0] 57))=C3 at *;refine wOn 12 fun K hK=>?_
    have x0:=H4.o.c0;have xf0:=H4.o.f 0 nL;have x1:=H4.o.c1;have xf1:=H4.o.f 1 nL;have x2:=H4.o.c2;have xf2:=H4.o.f 2 nL;have x3:=H4.o.c3;have xf3:=H4.o.f 3 nL;simp only[qZU]at x0 x1 x2 x3;go_simp;refine kK hK (qQ7 HB3.o (by omega) _ _ _ _) ?_;clear hK K;clear x0 xf0 x1 xf1 x2 xf2 x3 xf3;have HB4:=hI (qQ7 (N:=C0.1.size) HB3.o (by omega) (.string ⟨Dn.toArray⟩) (.int .i64 Dw) (.bool Ds) (.int .i64 Dz));have H4:=hI (H4.o.four (d:=⟨Dn,(Dw,Ds),Dz⟩));simp only at H4;have H5:=hI (H5.o.turn (qUc C3 C0.1.size C2.1.size (by omega) (.string ⟨Dn.toArray⟩) (.int .i64 Dw) (.bool Ds) (.int .i64 Dz)));generalize ((((C3.setCell ⟨C0.1.size,0,none⟩ (.string ⟨Dn.toArray⟩)).setCell ⟨C0.1.size,1,none⟩ (.int .i64 Dw)).setCell ⟨C0.1.size,2,none⟩ (.bool Ds)).setCell ⟨C0.1.size,3,none⟩ (.int .i64 Dz))=C4 at *;refine wOn 13 fun K hK=>?_
    have x0:=H5.o.c0;have xf0:=H5.o.f 0 nL;have x1:=H5.o.c1;have xf1:=H5.o.f 1 nL;have x2:=H5.o.c2;have xf2:=H5.o.f 2 nL;have x3:=H5.o.c3;have xf3:=H5.o.f 3 nL;have x4:=H5.o.c4;have xf4:=H5.o.f 4 nL;have x5:=H5.o.c5;have xf5:=H5.o.f 5 nL;go_simp;refine kK hK (vN HB4.o (by omega) _ _ _ _ _ _) ?_;clear hK K;refine wDn ?_ _;exact⟨(C0.1.size,C2.1.size),by simp only[Act.put,pZa,pZb,pZc],vN HB4.o (by omega) _ _ _ _ _ _,H4.o.turn (qZE _ _ _ (by omega) _ _ _ _ _ _),H5.o.six lk lx lm ll lc (.slice lq ln2 lcp),by show W.1.size<=C0.1.size;omega,by show W.1.size<=C2.1.size;omega,by show C0.1.size≠C2.1.size;omega⟩
   ·go_simp;refine kK hK (bal HB1.o _) ?_;clear hK K;have HB2:=hI (bal HB1.o (.cells #[.string ⟨#[]⟩, .string ⟨#[]⟩, .int .u64 0, .int .i64 0, .int .i64 0, .slice none 0 0] 57));have hA:Below C1.1.size C1 (C1.alloc (.cells #[.string ⟨#[]⟩, .string ⟨#[]⟩, .int .u64 0, .int .i64 0, .int .i64 0, .slice none 0 0] 57)):=bal (Below.refl _ _) _;have hs2:C1.1.size < (C1.alloc (.cells #[.string ⟨#[]⟩, .string ⟨#[]⟩, .int .u64 0, .int .i64 0, .int .i64 0, .slice none 0 0] 57)).1.size:=by simp
    have hw1:=HB1.o.size;have H4:=hI (H4.o.below hA);have H5:=hI (show zI C1.1.size [] [] 0 0 0 (.slice none 0 0) (C1.alloc (.cells #[.string ⟨#[]⟩, .string ⟨#[]⟩, .int .u64 0, .int .i64 0, .int .i64 0, .slice none 0 0] 57))from zI.new [] [] 0 0 0 (.slice none 0 0) C1);clear hA;generalize (C1.alloc (.cells #[.string ⟨#[]⟩, .string ⟨#[]⟩, .int .u64 0, .int .i64 0, .int .i64 0, .slice none 0 0] 57))=C2 at *;refine wOn 1 fun K hK=>?_
    go_simp;refine(HDE.o C2 (HBL.o.trans (HB2.o.mono hWs))).mono ?_;rintro e C3 ⟨rfl,hb⟩;simp only[qXK];have hw2:=HB2.o.size;have HB3:=hI (HB2.o.trans (hb.mono HB2.o.size));have hs3:=hb.size;have H4:=hI (H4.o.below hb);have H5:=hI (H5.o.below hb);refine kK hK HB3.o ?_;clear hK K hb;try simp only[Act.put,pZa,pZb,pZc]
    refine wOn 12 fun K hK=>?_
    have x0:=H4.o.c0;have xf0:=H4.o.f 0 nL;have x1:=H4.o.c1;have xf1:=H4.o.f 1 nL;have x2:=H4.o.c2;have xf2:=H4.o.f 2 nL;have x3:=H4.o.c3;have xf3:=H4.o.f 3 nL;simp only[qZU]at x0 x1 x2 x3;go_simp;refine kK hK (qQ7 HB3.o (by omega) _ _ _ _) ?_;clear hK K;clear x0 xf0 x1 xf1 x2 xf2 x3 xf3;have HB4:=hI (qQ7 (N:=C0.1.size) HB3.o (by omega) (.string ⟨Dn.toArray⟩) (.int .i64 Dw) (.bool Ds) (.int .i64 Dz));have H4:=hI (H4.o.four (d:=⟨Dn,(Dw,Ds),Dz⟩));simp only at H4;have H5:=hI (H5.o.turn (qUc C3 C0.1.size C1.1.size (by omega) (.string ⟨Dn.toArray⟩) (.int .i64 Dw) (.bool Ds) (.int .i64 Dz)));generalize ((((C3.setCell ⟨C0.1.size,0,none⟩ (.string ⟨Dn.toArray⟩)).setCell ⟨C0.1.size,1,none⟩ (.int .i64 Dw)).setCell ⟨C0.1.size,2,none⟩ (.bool Ds)).setCell ⟨C0.1.size,3,none⟩ (.int .i64 Dz))=C4 at *;refine wOn 13 fun K hK=>?_
    have x0:=H5.o.c0;have xf0:=H5.o.f 0 nL;have x1:=H5.o.c1;have xf1:=H5.o.f 1 nL;have x2:=H5.o.c2;have xf2:=H5.o.f 2 nL;have x3:=H5.o.c3;have xf3:=H5.o.f 3 nL;have x4:=H5.o.c4;have xf4:=H5.o.f 4 nL;have x5:=H5.o.c5;have xf5:=H5.o.f 5 nL;go_simp;refine kK hK (vN HB4.o (by omega) _ _ _ _ _ _) ?_;clear hK K;refine wDn ?_ _;exact⟨(C0.1.size,C1.1.size),by simp only[Act.put,pZa,pZb,pZc],vN HB4.o (by omega) _ _ _ _ _ _,H4.o.turn (qZE _ _ _ (by omega) _ _ _ _ _ _),H5.o.six lk lx lm ll lc (.slice lq ln2 lcp),by show W.1.size<=C0.1.size;omega,by show W.1.size<=C1.1.size;omega,by show C0.1.size≠C1.1.size;omega⟩
  ·go_simp;refine kK hK (bal HB0.o _) ?_;clear hK K;have HB1:=hI (bal HB0.o (.cells #[.string ⟨#[]⟩, .string ⟨#[]⟩, .int .u64 0, .int .i64 0, .int .i64 0, .slice none 0 0] 57));have hA:Below C0.1.size C0 (C0.alloc (.cells #[.string ⟨#[]⟩, .string ⟨#[]⟩, .int .u64 0, .int .i64 0, .int .i64 0, .slice none 0 0] 57)):=bal (Below.refl _ _) _;have hs1:C0.1.size < (C0.alloc (.cells #[.string ⟨#[]⟩, .string ⟨#[]⟩, .int .u64 0, .int .i64 0, .int .i64 0, .slice none 0 0] 57)).1.size:=by simp
   have hw0:=HB0.o.size;have H5:=hI (show zI C0.1.size [] [] 0 0 0 (.slice none 0 0) (C0.alloc (.cells #[.string ⟨#[]⟩, .string ⟨#[]⟩, .int .u64 0, .int .i64 0, .int .i64 0, .slice none 0 0] 57))from zI.new [] [] 0 0 0 (.slice none 0 0) C0);clear hA;generalize (C0.alloc (.cells #[.string ⟨#[]⟩, .string ⟨#[]⟩, .int .u64 0, .int .i64 0, .int .i64 0, .slice none 0 0] 57))=C1 at *;refine jA (i:=1) (j:=10) rfl rfl (by kernel_rfl) (by rfl) (by rfl) (fun K hK=>?_) (fun K hK=>?_)
   ·go_simp;refine(HDE.o C1 (HBL.o.trans (HB1.o.mono hWs))).mono ?_;rintro e C2 ⟨rfl,hb⟩;simp only[qXK];have hw1:=HB1.o.size;have HB2:=hI (HB1.o.trans (hb.mono HB1.o.size));have hs2:=hb.size;have H5:=hI (H5.o.below hb);refine kK hK HB2.o ?_;clear hK K hb;try simp only[Act.put,pZa,pZb,pZc]
    refine wOn 10 fun K hK=>?_
    go_simp;refine kK hK (bal HB2.o _) ?_;clear hK K;have HB3:=hI (bal HB2.o (.cells #[.string ⟨#[]⟩, .int .i64 0, .bool false, .int .i64 0] 42));have hA:Below C2.1.size C2 (C2.alloc (.cells #[.string ⟨#[]⟩, .int .i64 0, .bool false, .int .i64 0] 42)):=bal (Below.refl _ _) _;have hs3:C2.1.size < (C2.alloc (.cells #[.string ⟨#[]⟩, .int .i64 0, .bool false, .int .i64 0] 42)).1.size:=by simp
    have hw2:=HB2.o.size;have H5:=hI (H5.o.below hA);have H4:=hI (show qQB C2.1.size qZU (C2.alloc (.cells #[.string ⟨#[]⟩, .int .i64 0, .bool false, .int .i64 0] 42))from qQB.new qZU C2);clear hA;generalize (C2.alloc (.cells #[.string ⟨#[]⟩, .int .i64 0, .bool false, .int .i64 0] 42))=C3 at *;refine wOn 12 fun K hK=>?_
    have x0:=H4.o.c0;have xf0:=H4.o.f 0 nL;have x1:=H4.o.c1;have xf1:=H4.o.f 1 nL;have x2:=H4.o.c2;have xf2:=H4.o.f 2 nL;have x3:=H4.o.c3;have xf3:=H4.o.f 3 nL;simp only[qZU]at x0 x1 x2 x3;go_simp;refine kK hK (qQ7 HB3.o (by omega) _ _ _ _) ?_;clear hK K;clear x0 xf0 x1 xf1 x2 xf2 x3 xf3;have HB4:=hI (qQ7 (N:=C2.1.size) HB3.o (by omega) (.string ⟨Dn.toArray⟩) (.int .i64 Dw) (.bool Ds) (.int .i64 Dz));have H4:=hI (H4.o.four (d:=⟨Dn,(Dw,Ds),Dz⟩));simp only at H4;have H5:=hI (H5.o.turn (qUc C3 C2.1.size C0.1.size (by omega) (.string ⟨Dn.toArray⟩) (.int .i64 Dw) (.bool Ds) (.int .i64 Dz)));generalize ((((C3.setCell ⟨C2.1.size,0,none⟩ (.string ⟨Dn.toArray⟩)).setCell ⟨C2.1.size,1,none⟩ (.int .i64 Dw)).setCell ⟨C2.1.size,2,none⟩ (.bool Ds)).setCell ⟨C2.1.size,3,none⟩ (.int .i64 Dz))=C4 at *;refine wOn 13 fun K hK=>?_
    have x0:=H5.o.c0;have xf0:=H5.o.f 0 nL;have x1:=H5.o.c1;have xf1:=H5.o.f 1 nL;have x2:=H5.o.c2;have xf2:=H5.o.f 2 nL;have x3:=H5.o.c3;have xf3:=H5.o.f 3 nL;have x4:=H5.o.c4;have xf4:=H5.o.f 4 nL;have x5:=H5.o.c5;have xf5:=H5.o.f 5 nL;go_simp;refine kK hK (vN HB4.o (by omega) _ _ _ _ _ _) ?_;clear hK K;refine wDn ?_ _;exact⟨(C2.1.size,C0.1.size),by simp only[Act.put,pZa,pZb,pZc],vN HB4.o (by omega) _ _ _ _ _ _,H4.o.turn (qZE _ _ _ (by omega) _ _ _ _ _ _),H5.o.six lk lx lm ll lc (.slice lq ln2 lcp),by show W.1.size<=C2.1.size;omega,by show W.1.size<=C0.1.size;omega,by show C2.1.size≠C0.1.size;omega⟩
   ·go_simp;refine kK hK (bal HB1.o _) ?_;clear hK K;have HB2:=hI (bal HB1.o (.cells #[.string ⟨#[]⟩, .int .i64 0, .bool false, .int .i64 0] 42));have hA:Below C1.1.size C1 (C1.alloc (.cells #[.string ⟨#[]⟩, .int .i64 0, .bool false, .int .i64 0] 42)):=bal (Below.refl _ _) _;have hs2:C1.1.size < (C1.alloc (.cells #[.string ⟨#[]⟩, .int .i64 0, .bool false, .int .i64 0] 42)).1.size:=by simp
    have hw1:=HB1.o.size;have H5:=hI (H5.o.below hA);have H4:=hI (show qQB C1.1.size qZU (C1.alloc (.cells #[.string ⟨#[]⟩, .int .i64 0, .bool false, .int .i64 0] 42))from qQB.new qZU C1);clear hA;generalize (C1.alloc (.cells #[.string ⟨#[]⟩, .int .i64 0, .bool false, .int .i64 0] 42))=C2 at *;refine wOn 1 fun K hK=>?_
    go_simp;refine(HDE.o C2 (HBL.o.trans (HB2.o.mono hWs))).mono ?_;rintro e C3 ⟨rfl,hb⟩;simp only[qXK];have hw2:=HB2.o.size;have HB3:=hI (HB2.o.trans (hb.mono HB2.o.size));have hs3:=hb.size;have H4:=hI (H4.o.below hb);have H5:=hI (H5.o.below hb);refine kK hK HB3.o ?_;clear hK K hb;try simp only[Act.put,pZa,pZb,pZc]
    refine wOn 12 fun K hK=>?_
    have x0:=H4.o.c0;have xf0:=H4.o.f 0 nL;have x1:=H4.o.c1;have xf1:=H4.o.f 1 nL;have x2:=H4.o.c2;have xf2:=H4.o.f 2 nL;have x3:=H4.o.c3;have xf3:=H4.o.f 3 nL;simp only[qZU]at x0 x1 x2 x3;go_simp;refine kK hK (qQ7 HB3.o (by omega) _ _ _ _) ?_;clear hK K;clear x0 xf0 x1 xf1 x2 xf2 x3 xf3;have HB4:=hI (qQ7 (N:=C1.1.size) HB3.o (by omega) (.string ⟨Dn.toArray⟩) (.int .i64 Dw) (.bool Ds) (.int .i64 Dz));have H4:=hI (H4.o.four (d:=⟨Dn,(Dw,Ds),Dz⟩));simp only at H4;have H5:=hI (H5.o.turn (qUc C3 C1.1.size C0.1.size (by omega) (.string ⟨Dn.toArray⟩) (.int .i64 Dw) (.bool Ds) (.int .i64 Dz)));generalize ((((C3.setCell ⟨C1.1.size,0,none⟩ (.string ⟨Dn.toArray⟩)).setCell ⟨C1.1.size,1,none⟩ (.int .i64 Dw)).setCell ⟨C1.1.size,2,none⟩ (.bool Ds)).setCell ⟨C1.1.size,3,none⟩ (.int .i64 Dz))=C4 at *;refine wOn 13 fun K hK=>?_
    have x0:=H5.o.c0;have xf0:=H5.o.f 0 nL;have x1:=H5.o.c1;have xf1:=H5.o.f 1 nL;have x2:=H5.o.c2;have xf2:=H5.o.f 2 nL;have x3:=H5.o.c3;have xf3:=H5.o.f 3 nL;have x4:=H5.o.c4;have xf4:=H5.o.f 4 nL;have x5:=H5.o.c5;have xf5:=H5.o.f 5 nL;go_simp;refine kK hK (vN HB4.o (by omega) _ _ _ _ _ _) ?_;clear hK K;refine wDn ?_ _;exact⟨(C1.1.size,C0.1.size),by simp only[Act.put,pZa,pZb,pZc],vN HB4.o (by omega) _ _ _ _ _ _,H4.o.turn (qZE _ _ _ (by omega) _ _ _ _ _ _),H5.o.six lk lx lm ll lc (.slice lq ln2 lcp),by show W.1.size<=C1.1.size;omega,by show W.1.size<=C0.1.size;omega,by show C1.1.size≠C0.1.size;omega⟩
 ·rintro⟨N4,N5⟩ w3 hIq;obtain⟨hb3,hV,hN5,h4,h5,h45⟩:=hIq;simp only at hV hN5 h4 h5 h45;have HB3:=hI (HBL.o.trans (hb3.mono hWs));have HW3:=hI (HW.o.below hb3);have HN3:=hI (HN.o.below hb3);have HV3:=hI hV;have HN5:=hI hN5;have hs3:=hb3.size;have h4l:=hV.lt;have h5l:=hN5.lt;clear n0 n1 n2 n3 n4 n5 k0 k1 k2 k3 k4 k5 hb3 hV hN5 HDE HW HN HBL HLA;have y0:=HN5.o.c0;have y2:=HN5.o.c2;have⟨v0,v1,v2,v3,_⟩:=HV3.o.a;have vf3:=HV3.o.f 3 nL;have HKN:=hI (show ∃ b:Bool,(lk == zD)=b from⟨_,rfl⟩);obtain⟨bk,hbk⟩:=HKN.o;have HBK:=hI hbk;unfold zD at hbk;try simp only[Act.put,pZa,pZb,pZc]
  cases bk with
  | false =>
   have hft:ft=true:=by rw[HFT.o,HBK.o];rfl
   have hr:0<=lm/\lm<=16:=by rw[HZ.o HBK.o];decide
   have HPT:=hI (HPB.o.trans (by rw[hft];rfl:_=(jQ (decide (yV gs+max lm 1<=64)) (.mk k x m ln co ks) 45).bind fun _=>(yF ⟨gs,fs.map (fun f=>f.h)⟩ (.mk k x m ln co ks)).bind fun _=>.ok ⟨gs++[⟨Dn,(Dw,Ds),lm⟩],fs.map (fun f=>f.h)⟩));have hwr:IntKind.i64.wrap lm=lm:=IntWalk.i64_in _ (by omega);obtain⟨n,hn⟩:∃ n,yV gs+max lm 1=n:=⟨_,rfl⟩;have hcg:=H0.o.cg;have hcp:(gs.length:Int)<=yV gs:=qJ4 gs;have hwn:IntKind.i64.wrap n=n:=IntWalk.i64_in _ (by omega);have HNY:=hI (fun w'=>qQl (.mk lk lx lm ll lc lks) (.slice lq ln2 lcp) 42 w');try simp only[qZ,qS,qQ.kind,qQ.text,qQ.num,qQ.line,qQ.col,qQ.kids]at HNY
   go_wp2
   have HBV:=hI (jR (o:=3) HB3.o (show w.1.size<=N4 by omega) (.int .i64 lm));have HWV:=hI (H0.o.below HBV.o);have HNV:=hI (show Bx w.1.size (.mk k x m ln co ks) (.slice (some ⟨g2,off2,none⟩) (p+1) c) (w3.setCell ⟨N4,3,none⟩ (.int .i64 lm))from(hS w3 ⟨N4,3,none⟩ (.int .i64 lm) w.1.size (by show w.1.size≠N4;omega)).trans HN3.o);have HVV:=hI (HV3.o.sized lm);have HLV:=hI (HN5.o.turn (hS w3 ⟨N4,3,none⟩ (.int .i64 lm) N5 (by show N5≠N4;omega)));have hsV:(w3.setCell ⟨N4,3,none⟩ (.int .i64 lm)).1.size=w3.1.size:=by simp
   try simp only at HVV
   clear y0 y2 v0 v1 v2 v3 vf3 HB3 HW3 HN3 HV3 HN5;generalize (w3.setCell ⟨N4,3,none⟩ (.int .i64 lm))=V at *;have c5:=HWV.o.c5;have cf5:=HWV.o.bf 5 (by omega);have⟨v0,v1,v2,v3,_⟩:=HVV.o.a;try simp only at v0 v1 v2 v3
   have hBV:B < V.1.size:=qJ c5;refine wRg (S:=fun w'=>Below V.1.size V w') 9 ?_;refine wTk 0 35 (.pointer (some ⟨B,0,none⟩)) ?_ (bD V) ?_
   ·intro _ y;go_simp
   refine wTk 1 36 (.pointer (some ⟨B,0,none⟩)) ?_ (bD V) ?_
   ·intro _ y;go_simp
   refine wTk 2 37 (.pointer (some ⟨B,5,none⟩)) ?_ (bD V) ?_
   ·intro _ y;go_simp
   refine wTk 3 38 (.int .i64 (yV gs)) ?_ (bD V) ?_
   ·intro _ y;have c5:=kP y c5;go_simp
   refine wTk 4 39 (.agg #[.string ⟨Dn.toArray⟩, .int .i64 Dw, .bool Ds, .int .i64 lm]) ?_ (bD V) ?_
   ·intro _ y;obtain⟨v0,v1,v2,v3⟩:=kP4 y v0 v1 v2 v3;go_simp
   refine wOn 5 fun K hK=>?_
   go_simp;refine(qVy _ _ _ _ _).mono ?_;rintro e w5 ⟨rfl,hb5⟩;have hb5:=zF hb5;refine kK hK hb5 ?_;clear hK K;have cf5:=(hb5.frozen (p:=⟨B,5,none⟩) hBV).trans cf5;have c5:=kP hb5 c5;have hs5:=hb5.size;clear v0 v1 v2 v3;refine wOn 6 fun K hK=>?_
   go_simp;refine kK hK hb5 ?_;clear hK K;try simp only[Act.put,pZa,pZb,pZc]
   refine wOn 7 fun K hK=>?_
   go_simp;refine kK hK hb5 ?_;clear hK K;try simp only[Act.put,pZa,pZb,pZc]
   refine wOn 8 fun K hK=>?_
   go_simp;refine kK hK hb5 ?_;clear hK K;try simp only[Act.put,pZa,pZb,pZc]
   refine wOn 9 fun K hK=>?_
   go_simp;refine kD hK ?_;clear hK K;refine wDn ?_ _;have HB5:=hI (HBV.o.trans (hb5.mono HBV.o.size));have HW5:=hI ((HWV.o.below hb5).set5 n);have hlo:=H0.o.lo;have HT5:=hI ((jW.of_below (L:=L) HB5.o).set (N:=B) hlo.2.1 5 (.int .i64 n));have hxB:∀ b,b≠B->(w5.setCell ⟨B,5,none⟩ (.int .i64 n)).1[b]? = w5.1[b]?:=fun b hb=>hS w5 ⟨B,5,none⟩ (.int .i64 n) b hb
   have HNU:=hI (show Bx w.1.size (.mk k x m ln co ks) (.slice (some ⟨g2,off2,none⟩) (p+1) c) (w5.setCell ⟨B,5,none⟩ (.int .i64 n))from(hxB _ (by omega)).trans (HNV.o.below hb5));have HVU:=hI ((HVV.o.below hb5).turn (hxB N4 (by omega)));have HLU:=hI ((HLV.o.below hb5).turn (hxB N5 (by omega)));have hsU:(w5.setCell ⟨B,5,none⟩ (.int .i64 n)).1.size=w5.1.size:=by simp
   try simp only[hn,hwn]
   clear hxB hb5 c5 cf5 HBV HWV HNV HVV HLV;generalize (w5.setCell ⟨B,5,none⟩ (.int .i64 n))=U at *;have c5:=HW5.o.c5;obtain⟨n0,n1,n2,n3,n4,n5⟩:=HNU.o.cells;try simp only[qQ.kind,qQ.text,qQ.num,qQ.line,qQ.col,qQ.kids]at n0 n1 n2 n3 n4 n5
   go_wp2
   refine wRg (S:=fun w'=>Below U.1.size U w') 10 ?_;refine wTk 0 44 (.bool true) ?_ (bD U) ?_
   ·intro _ y;go_simp
   refine wTk 1 45 (.bool false) ?_ (bD U) ?_
   ·intro _ y;go_simp
   refine wTk 2 46 (.bool false) ?_ (bD U) ?_
   ·intro _ y;go_simp
   refine wTk 3 47 (.pointer (some ⟨B,0,none⟩)) ?_ (bD U) ?_
   ·intro _ y;go_simp
   refine wTk 4 48 (.pointer (some ⟨B,0,none⟩)) ?_ (bD U) ?_
   ·intro _ y;go_simp
   refine wTk 5 49 (.pointer (some ⟨B,5,none⟩)) ?_ (bD U) ?_
   ·intro _ y;go_simp
   refine wTk 6 50 (.int .i64 n) ?_ (bD U) ?_
   ·intro _ y;have c5:=kP y c5;go_simp
   refine wTk 7 51 (.bool (decide (n<=64))) ?_ (bD U) ?_
   ·intro _ y;go_simp
   refine wTk 8 52 (.bool (decide (n<=64))) ?_ (bD U) ?_
   ·intro _ y;go_simp
   refine wTk 9 53 (.agg #[.string ⟨k.toArray⟩, .string ⟨x.toArray⟩, .int .u64 m, .int .i64 ln, .int .i64 co, .slice (some ⟨g2,off2,none⟩) (p+1) c]) ?_ (bD U) ?_
   ·intro _ y;obtain⟨n0,n1,n2,n3,n4,n5⟩:=kP6 y n0 n1 n2 n3 n4 n5;go_simp
   refine wOn 10 fun K hK=>?_
   go_simp;refine(HNA.o _ 45 _).mono ?_;rintro e w4 (⟨hbt,rfl,hb4⟩ | ⟨hbt,rfl,hb4⟩);rotate_left
   ·exact⟨rfl,wP.badI (by rw[HPT.o,hn,hbt];rfl) (HT5.o.trans (jW.of_below (zF hb4)))⟩
   have hb4:=zF hb4;have hle:n<=64:=of_decide_eq_true hbt;have HPU:=hI (HPT.o.trans (by rw[hn,hbt];rfl:_=(yF ⟨gs,fs.map (fun f=>f.h)⟩ (.mk k x m ln co ks)).bind fun _=>.ok ⟨gs++[⟨Dn,(Dw,Ds),lm⟩],fs.map (fun f=>f.h)⟩));have HW4:=hI (HW5.o.below hb4);have HT4:=hI (HT5.o.trans (jW.of_below hb4));have HN4:=hI (HNU.o.below hb4);have HV4:=hI (HVU.o.below hb4);have HL4:=hI (HLU.o.below hb4);have hs4:=hb4.size;refine kD hK ?_;clear hK K hb4 n0 n1 n2 n3 n4 n5 c5 HW5 HT5 HNU HVU HLU HPT hbt;try simp only[Act.put,pZa,pZb,pZc]
   refine wDn ?_ _;obtain⟨n0,n1,n2,n3,n4,n5⟩:=HN4.o.cells;try simp only[qQ.kind,qQ.text,qQ.num,qQ.line,qQ.col,qQ.kids]at n0 n1 n2 n3 n4 n5
   go_wp2_with fail
   refine(HUN.o _ _ HW4.o).mono ?_;rintro e w7 hX;rcases hX.cases with⟨a,u',hp,rfl,rfl,hb7⟩ | ⟨l',c',code,hp,rfl,hb7⟩;rotate_left
   ·exact⟨rfl,wP.badI (by rw[HPU.o,hp];rfl) (HT4.o.trans (jW.of_below hb7))⟩
   have HPOS:=hI (qKQ hp);have HPV:=hI (HPU.o.trans (by rw[hp];rfl:_=.ok ⟨gs++[⟨Dn,(Dw,Ds),lm⟩],fs.map (fun f=>f.h)⟩));have HW7:=hI (HW4.o.below hb7);have HT7:=hI (HT4.o.trans (jW.of_below hb7));have HV7:=hI (HV4.o.below hb7);have HL7:=hI (HL4.o.below hb7);have hs7:=hb7.size;clear n0 n1 n2 n3 n4 n5 hX hp hb7 HW4 HT4 HN4 HV4 HL4 HPU;have⟨y0,y1,y2,y3,y4,y5,_⟩:=HL7.o.a;go_wp2_with fail
   refine(HNY.o _).mono ?_;rintro e Z ⟨rfl,hbZ⟩;have HWZ:=hI (HW7.o.below hbZ);have HTZ:=hI (HT7.o.trans (jW.of_below hbZ));have HVZ:=hI (HV7.o.below hbZ);have hsZ:=hbZ.size;clear y0 y1 y2 y3 y4 y5 hbZ HW7 HT7 HV7 HL7;have c3:=HWZ.o.c3;have c0:=HWZ.o.c0;have v0:=HVZ.o.c0;try simp only at v0
   obtain⟨vq,vc,hgv⟩:=qZL HWZ.o.grow;obtain⟨ol,hol⟩:∃ ol:Nat,ol=gs.length:=⟨_,rfl⟩;have HOL:=hI hol;rw[<-hol]at hgv;have HGV:=hI hgv;rw[hgv]at c0;have ho63:(ol:Int) < 1000000:=by omega
   obtain⟨w6,hrun,hm6,hg6⟩:=(HWZ.o.gm.below (Below.refl _ _).drew).store Dn (by rw[HDN.o];have:=HX.o;unfold maxLen;omega) (by rw[HDN.o];exact HPOS.o.1) (by simp only[List.length_map];omega);rw[show((gs.map (·.name)).length:Int)=(ol:Nat) by rw[List.length_map,hol]]at hrun;clear hol hgv;go_wp2
   refine wRg (S:=fun w'=>Below Z.1.size Z w') 12 ?_;refine wTk 0 61 (.pointer (some ⟨B,0,none⟩)) ?_ (bD Z) ?_
   ·intro _ y;go_simp
   refine wTk 1 62 (.pointer (some ⟨B,0,none⟩)) ?_ (bD Z) ?_
   ·intro _ y;go_simp
   refine wTk 2 63 (.pointer (some ⟨B,3,none⟩)) ?_ (bD Z) ?_
   ·intro _ y;go_simp
   refine wTk 3 64 (.map (some Mg)) ?_ (bD Z) ?_
   ·intro _ y;have c3:=kP y c3;have v0:=kP y v0;go_simp
   refine wTk 4 65 (.pointer (some ⟨N4,0,none⟩)) ?_ (bD Z) ?_
   ·intro _ y;go_simp
   refine wTk 5 66 (.string ⟨Dn.toArray⟩) ?_ (bD Z) ?_
   ·intro _ y;have v0:=kP y v0;go_simp
   refine wTk 6 67 (.pointer (some ⟨B,0,none⟩)) ?_ (bD Z) ?_
   ·intro _ y;go_simp
   refine wTk 7 68 (.pointer (some ⟨B,0,none⟩)) ?_ (bD Z) ?_
   ·intro _ y;go_simp
   refine wTk 8 69 (.pointer (some ⟨B,0,none⟩)) ?_ (bD Z) ?_
   ·intro _ y;go_simp
   refine wTk 9 70 (.pointer (some ⟨B,0,none⟩)) ?_ (bD Z) ?_
   ·intro _ y;go_simp
   refine wTk 10 71 (.slice vq ol vc) ?_ (bD Z) ?_
   ·intro _ y;have c0:=kP y c0;go_simp
   refine wTk 11 72 (.int .i64 ol) ?_ (bD Z) ?_
   ·intro _ y;go_simp
   refine wOn 12 fun K hK=>?_
   go_simp;refine kD hK ?_;clear hK K;refine wDn ?_ _;have hM:=HWZ.o.gm.isMap;have HK6:=hI (show ∀ b,b < Z.1.size->b≠Mg->w6.1[b]? = Z.1[b]? from fun b hb hne=>hg6.block b hb (fun e=>hne (by injection e)));have hBM:B≠Mg:=(vU hM HWZ.o.kb).symm;have hNM:N4≠Mg:=fun e=>by have:=H0.o.gm.lt;omega
   have kc:∀ {b o u},b < Z.1.size->b≠Mg->Z.cell? ⟨b,o,none⟩=some u->w6.cell? ⟨b,o,none⟩=some u:=fun hb hne hc=>(cB (HK6.o _ hb hne)).trans hc
   have hBZ:B < Z.1.size:=qJ HWZ.o.c0;have c0:=kc hBZ hBM c0;have v0:=kc HVZ.o.lt hNM HVZ.o.c0;have v1:=kc HVZ.o.lt hNM HVZ.o.c1;have v2:=kc HVZ.o.lt hNM HVZ.o.c2;have v3:=kc HVZ.o.lt hNM HVZ.o.c3;try simp only at v0 v1 v2 v3
   have hr0:w.ownsRow L 42 4 (.slice vq ol vc) ol (xD qQe gs):=by
    have hr:=H0.o.grow;rw[HGV.o]at hr;unfold qQI at hr;rw[<-HOL.o]at hr;exact hr
   have hrZ:Z.ownsRow L 42 4 (.slice vq ol vc) ol (xD qQe gs):=by
    have hr:=HWZ.o.grow;rw[HGV.o]at hr;unfold qQI at hr;rw[<-HOL.o]at hr;exact hr
   have hvk:∀ g,(Value.slice vq ol vc).ownBlock=some g->jX Z g 42/\g < w.1.size:=fun g hg=>⟨zE hrZ hg,(hr0.lt g hg).2⟩
   have hneB:some B≠(Value.slice vq ol vc).ownBlock:=fun e=>(HWZ.o.kb.ne (hvk B e.symm).1 (by decide)) rfl
   have hneN:some N4≠(Value.slice vq ol vc).ownBlock:=fun e=>by have:=(hvk _ e.symm).2;omega
   have HROW:=hI (show w6.ownsRow L 42 4 (.slice vq ol vc) ol (xD qQe gs)from zU hrZ (fun g hg=>HK6.o g (by have:=(hvk g hg).2;omega) (vU hM (hvk g hg).1).symm));have hs6:Z.1.size<=w6.1.size:=hg6.size;have HG6:=hI hg6;have HM6:=hI hm6;clear hg6 hm6 kc hrun c3 hr0 hrZ;go_wp2
   refine wRg (S:=fun w'=>∀ b,b < w6.1.size->some b≠(Value.slice vq ol vc).ownBlock->w'.1[b]? = w6.1[b]?) 12 ?_;refine wTk 0 73 (.pointer (some ⟨B,0,none⟩)) ?_ ((fun _ _ _=>rfl)) ?_
   ·intro _ y;go_simp
   refine wTk 1 74 (.pointer (some ⟨B,0,none⟩)) ?_ ((fun _ _ _=>rfl)) ?_
   ·intro _ y;go_simp
   refine wTk 2 75 (.pointer (some ⟨B,0,none⟩)) ?_ ((fun _ _ _=>rfl)) ?_
   ·intro _ y;go_simp
   refine wTk 3 76 (.pointer (some ⟨B,0,none⟩)) ?_ ((fun _ _ _=>rfl)) ?_
   ·intro _ y;go_simp
   refine wTk 4 77 (.pointer (some ⟨B,0,none⟩)) ?_ ((fun _ _ _=>rfl)) ?_
   ·intro _ y;go_simp
   refine wTk 5 78 (.slice vq ol vc) ?_ ((fun _ _ _=>rfl)) ?_
   ·intro _ y;have c0:=(cB (y _ (qJ c0) hneB)).trans c0;go_simp
   refine wTk 6 79 (.agg #[.string ⟨Dn.toArray⟩, .int .i64 Dw, .bool Ds, .int .i64 lm]) ?_ ((fun _ _ _=>rfl)) ?_
   ·intro _ y;have v0:=(cB (y _ (qJ v0) hneN)).trans v0;have v1:=(cB (y _ (qJ v1) hneN)).trans v1;have v2:=(cB (y _ (qJ v2) hneN)).trans v2;have v3:=(cB (y _ (qJ v3) hneN)).trans v3;go_simp
   refine wOn 7 fun K hK=>?_
   go_simp;refine kK hK (fun b hb _=>Below.heap_alloc w6.drew _ b hb) ?_;clear hK K;refine wOn 8 fun K hK=>?_
   refine qQJ (lo:=L) (dd:=81) (news:=qQe ⟨Dn,(Dw,Ds),lm⟩) underlying27 info42 (by decide) rfl (by decide) _ _ rfl rfl HROW.o.drew (by simp;omega) rfl rfl rfl rfl (qVo _) (by omega) (fun v9 w9 ho9 hg9 hbk9=>?_);obtain⟨q9,c9,rfl⟩:∃ q c,v9=.slice q (ol+1) c:=by
    rcases ho9.2 with⟨_,h0⟩ | ⟨g,cap,cur,rfl,_⟩
    ·omega
    ·exact⟨_,_,rfl⟩
   have S9:∀ b,b < w6.1.size->some b≠(Value.slice vq ol vc).ownBlock->w9.1[b]? = w6.1[b]?:=fun b hb hne=>(hg9.block b (by simp;omega) hne).trans (Below.heap_alloc w6.drew _ b hb)
   refine kK hK S9 ?_;clear hK K;refine wOn 9 fun K hK=>?_
   go_simp;refine kK hK S9 ?_;clear hK K;try simp only[Act.put,pZa,pZb,pZc]
   refine wOn 10 fun K hK=>?_
   go_simp;refine kK hK S9 ?_;clear hK K;try simp only[Act.put,pZa,pZb,pZc]
   refine wOn 11 fun K hK=>?_
   go_simp;refine kK hK S9 ?_;clear hK K;try simp only[Act.put,pZa,pZb,pZc]
   have hB6:B < w6.1.size:=qJ c0;have c09:=(cB (S9 B hB6 hneB)).trans c0;have f09:w9.frozen? ⟨B,0,none⟩=false:=(World.frozen?_of_block (S9 B hB6 hneB)).trans ((World.frozen?_of_block (HK6.o B hBZ hBM)).trans (HWZ.o.bf 0 (by omega)));have hs9:w6.1.size+1<=w9.1.size:=by have:=hg9.size;simpa using this
   refine wOn 12 fun K hK=>?_
   go_simp;refine kD hK ?_;clear hK K;refine wDn ?_ _;have HO9:=hI ho9;have HG9:=hI hg9;have HBK9:=hI hbk9;have HS9:=hI S9;have hcB:=hlo.2.1;have HC9:=hI c09;clear c0 v0 v1 v2 v3 c09 f09 ho9 hg9 hbk9 S9;go_wp2
   go_end0;have base:∀ b,b < Z.1.size->b≠B->b≠Mg->some b≠gv.ownBlock->(w9.setCell ⟨B,0,none⟩ (.slice q9 (ol+1) c9)).1[b]? = Z.1[b]?:=fun b hb h1 h2 h3=>by
    rw[hS _ _ _ _ h1];refine(HS9.o b (by omega) ?_).trans (HK6.o b hb h2);rw[<-HGV.o];exact h3
   have hT:jW L w (w9.setCell ⟨B,0,none⟩ (.slice q9 (ol+1) c9)):=HTZ.o.trans ⟨(rfl:(w9.setCell ⟨B,0,none⟩ (.slice q9 (ol+1) c9)).os=w9.os).trans (HG9.o.os.trans HG6.o.os),by simpa using HG9.o.tape.trans HG6.o.tape,(rfl:(w9.setCell ⟨B,0,none⟩ (.slice q9 (ol+1) c9)).output=w9.output).trans (HG9.o.output.trans HG6.o.output),by simp;omega,fun b hb hbL=>base b hb (by omega) (by have:=H0.o.lo;omega) (fun e=>by have:=(H0.o.grow.lt b e.symm).1;omega)⟩;refine wP.okI (gv:=.slice q9 (ol+1) c9) (fv:=fv) HPV.o ?_ hT;have hBW9:(w9.setCell ⟨B,0,none⟩ (.slice q9 (ol+1) c9)).1.size=w9.1.size:=by simp
   have hxk:∀ b,b < Z.1.size->b≠Mg->some b≠(Value.slice vq ol vc).ownBlock->w9.1[b]? = Z.1[b]?:=fun b hb h2 h3=>(HS9.o b (by omega) h3).trans (HK6.o b hb h2)
   refine HWZ.o.glob (gv':=.slice q9 (ol+1) c9) (d:=⟨Dn,(Dw,Ds),lm⟩) (by rw[hBW9];omega) base (World.cell?_setCell_same _ _ _ HC9.o) ?_ ?_ ?_ ?_ ?_ ?_ ?_ hle
   ·intro o ho;exact(World.cell?_setCell_other _ _ _ _ (by simpa using Ne.symm ho)).trans (cB (hxk B hBZ hBM hneB))
   ·intro o;exact(World.frozen?_setCell _ _ _ _).trans (World.frozen?_of_block (hxk B hBZ hBM hneB))
   ·exact(HWZ.o.kb.turn (hxk B hBZ hBM hneB)).set _ _ _
   ·refine wY.kept HM6.o ?_;rw[hS _ _ _ _ hBM.symm];exact HS9.o Mg (by have:=HWZ.o.gm.lt;omega) (fun e=>vU hM (hvk Mg e.symm).1 rfl)
   ·rw[<-HOL.o];refine zU HO9.o (fun g hg=>hS _ _ _ _ ?_);rcases HBK9.o with h1 | h1
    ·rw[h1]at hg;exact(HWZ.o.kb.ne (hvk g hg).1 (by decide)).symm
    ·rw[h1]at hg;injection hg with hg;simp at hg;show g≠B
     omega
   ·rcases HBK9.o with h1 | h1
    ·left;rw[h1,HGV.o]
    ·right;exact⟨_,by simp;omega,h1⟩
   ·rw[qWM,<-hn]
  | true =>
   by_cases hl1:1<=lm
   ·by_cases hl2:lm<=16
    ·have hft:ft=true:=by rw[HFT.o,HBK.o];simp[hl1,hl2]
     have hr:0<=lm/\lm<=16:=by omega
     have HPT:=hI (HPB.o.trans (by rw[hft];rfl:_=(jQ (decide (yV gs+max lm 1<=64)) (.mk k x m ln co ks) 45).bind fun _=>(yF ⟨gs,fs.map (fun f=>f.h)⟩ (.mk k x m ln co ks)).bind fun _=>.ok ⟨gs++[⟨Dn,(Dw,Ds),lm⟩],fs.map (fun f=>f.h)⟩));have hwr:IntKind.i64.wrap lm=lm:=IntWalk.i64_in _ (by omega);obtain⟨n,hn⟩:∃ n,yV gs+max lm 1=n:=⟨_,rfl⟩;have hcg:=H0.o.cg;have hcp:(gs.length:Int)<=yV gs:=qJ4 gs;have hwn:IntKind.i64.wrap n=n:=IntWalk.i64_in _ (by omega);have HNY:=hI (fun w'=>qQl (.mk lk lx lm ll lc lks) (.slice lq ln2 lcp) 42 w');try simp only[qZ,qS,qQ.kind,qQ.text,qQ.num,qQ.line,qQ.col,qQ.kids]at HNY
     go_wp2
     have HBV:=hI (jR (o:=3) HB3.o (show w.1.size<=N4 by omega) (.int .i64 lm));have HWV:=hI (H0.o.below HBV.o);have HNV:=hI (show Bx w.1.size (.mk k x m ln co ks) (.slice (some ⟨g2,off2,none⟩) (p+1) c) (w3.setCell ⟨N4,3,none⟩ (.int .i64 lm))from(hS w3 ⟨N4,3,none⟩ (.int .i64 lm) w.1.size (by show w.1.size≠N4;omega)).trans HN3.o);have HVV:=hI (HV3.o.sized lm);have HLV:=hI (HN5.o.turn (hS w3 ⟨N4,3,none⟩ (.int .i64 lm) N5 (by show N5≠N4;omega)));have hsV:(w3.setCell ⟨N4,3,none⟩ (.int .i64 lm)).1.size=w3.1.size:=by simp
     try simp only at HVV
     clear y0 y2 v0 v1 v2 v3 vf3 HB3 HW3 HN3 HV3 HN5;generalize (w3.setCell ⟨N4,3,none⟩ (.int .i64 lm))=V at *;have c5:=HWV.o.c5;have cf5:=HWV.o.bf 5 (by omega);have⟨v0,v1,v2,v3,_⟩:=HVV.o.a;try simp only at v0 v1 v2 v3
     have hBV:B < V.1.size:=qJ c5;refine wRg (S:=fun w'=>Below V.1.size V w') 9 ?_;refine wTk 0 35 (.pointer (some ⟨B,0,none⟩)) ?_ (bD V) ?_
     ·intro _ y;go_simp
     refine wTk 1 36 (.pointer (some ⟨B,0,none⟩)) ?_ (bD V) ?_
     ·intro _ y;go_simp
     refine wTk 2 37 (.pointer (some ⟨B,5,none⟩)) ?_ (bD V) ?_
     ·intro _ y;go_simp
     refine wTk 3 38 (.int .i64 (yV gs)) ?_ (bD V) ?_
     ·intro _ y;have c5:=kP y c5;go_simp
     refine wTk 4 39 (.agg #[.string ⟨Dn.toArray⟩, .int .i64 Dw, .bool Ds, .int .i64 lm]) ?_ (bD V) ?_
     ·intro _ y;obtain⟨v0,v1,v2,v3⟩:=kP4 y v0 v1 v2 v3;go_simp
     refine wOn 5 fun K hK=>?_
     go_simp;refine(qVy _ _ _ _ _).mono ?_;rintro e w5 ⟨rfl,hb5⟩;have hb5:=zF hb5;refine kK hK hb5 ?_;clear hK K;have cf5:=(hb5.frozen (p:=⟨B,5,none⟩) hBV).trans cf5;have c5:=kP hb5 c5;have hs5:=hb5.size;clear v0 v1 v2 v3;refine wOn 6 fun K hK=>?_
     go_simp;refine kK hK hb5 ?_;clear hK K;try simp only[Act.put,pZa,pZb,pZc]
     refine wOn 7 fun K hK=>?_
     go_simp;refine kK hK hb5 ?_;clear hK K;try simp only[Act.put,pZa,pZb,pZc]
     refine wOn 8 fun K hK=>?_
     go_simp;refine kK hK hb5 ?_;clear hK K;try simp only[Act.put,pZa,pZb,pZc]
     refine wOn 9 fun K hK=>?_
     go_simp;refine kD hK ?_;clear hK K;refine wDn ?_ _;have HB5:=hI (HBV.o.trans (hb5.mono HBV.o.size));have HW5:=hI ((HWV.o.below hb5).set5 n);have hlo:=H0.o.lo;have HT5:=hI ((jW.of_below (L:=L) HB5.o).set (N:=B) hlo.2.1 5 (.int .i64 n));have hxB:∀ b,b≠B->(w5.setCell ⟨B,5,none⟩ (.int .i64 n)).1[b]? = w5.1[b]?:=fun b hb=>hS w5 ⟨B,5,none⟩ (.int .i64 n) b hb
     have HNU:=hI (show Bx w.1.size (.mk k x m ln co ks) (.slice (some ⟨g2,off2,none⟩) (p+1) c) (w5.setCell ⟨B,5,none⟩ (.int .i64 n))from(hxB _ (by omega)).trans (HNV.o.below hb5));have HVU:=hI ((HVV.o.below hb5).turn (hxB N4 (by omega)));have HLU:=hI ((HLV.o.below hb5).turn (hxB N5 (by omega)));have hsU:(w5.setCell ⟨B,5,none⟩ (.int .i64 n)).1.size=w5.1.size:=by simp
     try simp only[hn,hwn]
     clear hxB hb5 c5 cf5 HBV HWV HNV HVV HLV;generalize (w5.setCell ⟨B,5,none⟩ (.int .i64 n))=U at *;have c5:=HW5.o.c5;obtain⟨n0,n1,n2,n3,n4,n5⟩:=HNU.o.cells;try simp only[qQ.kind,qQ.text,qQ.num,qQ.line,qQ.col,qQ.kids]at n0 n1 n2 n3 n4 n5
     go_wp2
     refine wRg (S:=fun w'=>Below U.1.size U w') 10 ?_;refine wTk 0 44 (.bool true) ?_ (bD U) ?_
     ·intro _ y;go_simp
     refine wTk 1 45 (.bool false) ?_ (bD U) ?_
     ·intro _ y;go_simp
     refine wTk 2 46 (.bool false) ?_ (bD U) ?_
     ·intro _ y;go_simp
     refine wTk 3 47 (.pointer (some ⟨B,0,none⟩)) ?_ (bD U) ?_
     ·intro _ y;go_simp
     refine wTk 4 48 (.pointer (some ⟨B,0,none⟩)) ?_ (bD U) ?_
     ·intro _ y;go_simp
     refine wTk 5 49 (.pointer (some ⟨B,5,none⟩)) ?_ (bD U) ?_
     ·intro _ y;go_simp
     refine wTk 6 50 (.int .i64 n) ?_ (bD U) ?_
     ·intro _ y;have c5:=kP y c5;go_simp
     refine wTk 7 51 (.bool (decide (n<=64))) ?_ (bD U) ?_
     ·intro _ y;go_simp
     refine wTk 8 52 (.bool (decide (n<=64))) ?_ (bD U) ?_
     ·intro _ y;go_simp
     refine wTk 9 53 (.agg #[.string ⟨k.toArray⟩, .string ⟨x.toArray⟩, .int .u64 m, .int .i64 ln, .int .i64 co, .slice (some ⟨g2,off2,none⟩) (p+1) c]) ?_ (bD U) ?_
     ·intro _ y;obtain⟨n0,n1,n2,n3,n4,n5⟩:=kP6 y n0 n1 n2 n3 n4 n5;go_simp
     refine wOn 10 fun K hK=>?_
     go_simp;refine(HNA.o _ 45 _).mono ?_;rintro e w4 (⟨hbt,rfl,hb4⟩ | ⟨hbt,rfl,hb4⟩);rotate_left
     ·exact⟨rfl,wP.badI (by rw[HPT.o,hn,hbt];rfl) (HT5.o.trans (jW.of_below (zF hb4)))⟩
     have hb4:=zF hb4;have hle:n<=64:=of_decide_eq_true hbt;have HPU:=hI (HPT.o.trans (by rw[hn,hbt];rfl:_=(yF ⟨gs,fs.map (fun f=>f.h)⟩ (.mk k x m ln co ks)).bind fun _=>.ok ⟨gs++[⟨Dn,(Dw,Ds),lm⟩],fs.map (fun f=>f.h)⟩));have HW4:=hI (HW5.o.below hb4);have HT4:=hI (HT5.o.trans (jW.of_below hb4));have HN4:=hI (HNU.o.below hb4);have HV4:=hI (HVU.o.below hb4);have HL4:=hI (HLU.o.below hb4);have hs4:=hb4.size;refine kD hK ?_;clear hK K hb4 n0 n1 n2 n3 n4 n5 c5 HW5 HT5 HNU HVU HLU HPT hbt;try simp only[Act.put,pZa,pZb,pZc]
     refine wDn ?_ _;obtain⟨n0,n1,n2,n3,n4,n5⟩:=HN4.o.cells;try simp only[qQ.kind,qQ.text,qQ.num,qQ.line,qQ.col,qQ.kids]at n0 n1 n2 n3 n4 n5
     go_wp2_with fail
     refine(HUN.o _ _ HW4.o).mono ?_;rintro e w7 hX;rcases hX.cases with⟨a,u',hp,rfl,rfl,hb7⟩ | ⟨l',c',code,hp,rfl,hb7⟩;rotate_left
     ·exact⟨rfl,wP.badI (by rw[HPU.o,hp];rfl) (HT4.o.trans (jW.of_below hb7))⟩
     have HPOS:=hI (qKQ hp);have HPV:=hI (HPU.o.trans (by rw[hp];rfl:_=.ok ⟨gs++[⟨Dn,(Dw,Ds),lm⟩],fs.map (fun f=>f.h)⟩));have HW7:=hI (HW4.o.below hb7);have HT7:=hI (HT4.o.trans (jW.of_below hb7));have HV7:=hI (HV4.o.below hb7);have HL7:=hI (HL4.o.below hb7);have hs7:=hb7.size;clear n0 n1 n2 n3 n4 n5 hX hp hb7 HW4 HT4 HN4 HV4 HL4 HPU;have⟨y0,y1,y2,y3,y4,y5,_⟩:=HL7.o.a;go_wp2_with fail
     refine(HNY.o _).mono ?_;rintro e Z ⟨rfl,hbZ⟩;have HWZ:=hI (HW7.o.below hbZ);have HTZ:=hI (HT7.o.trans (jW.of_below hbZ));have HVZ:=hI (HV7.o.below hbZ);have hsZ:=hbZ.size;clear y0 y1 y2 y3 y4 y5 hbZ HW7 HT7 HV7 HL7;have c3:=HWZ.o.c3;have c0:=HWZ.o.c0;have v0:=HVZ.o.c0;try simp only at v0
     obtain⟨vq,vc,hgv⟩:=qZL HWZ.o.grow;obtain⟨ol,hol⟩:∃ ol:Nat,ol=gs.length:=⟨_,rfl⟩;have HOL:=hI hol;rw[<-hol]at hgv;have HGV:=hI hgv;rw[hgv]at c0;have ho63:(ol:Int) < 1000000:=by omega
     obtain⟨w6,hrun,hm6,hg6⟩:=(HWZ.o.gm.below (Below.refl _ _).drew).store Dn (by rw[HDN.o];have:=HX.o;unfold maxLen;omega) (by rw[HDN.o];exact HPOS.o.1) (by simp only[List.length_map];omega);rw[show((gs.map (·.name)).length:Int)=(ol:Nat) by rw[List.length_map,hol]]at hrun;clear hol hgv;go_wp2
     refine wRg (S:=fun w'=>Below Z.1.size Z w') 12 ?_;refine wTk 0 61 (.pointer (some ⟨B,0,none⟩)) ?_ (bD Z) ?_
     ·intro _ y;go_simp
     refine wTk 1 62 (.pointer (some ⟨B,0,none⟩)) ?_ (bD Z) ?_
     ·intro _ y;go_simp
     refine wTk 2 63 (.pointer (some ⟨B,3,none⟩)) ?_ (bD Z) ?_
     ·intro _ y;go_simp
     refine wTk 3 64 (.map (some Mg)) ?_ (bD Z) ?_
     ·intro _ y;have c3:=kP y c3;have v0:=kP y v0;go_simp
     refine wTk 4 65 (.pointer (some ⟨N4,0,none⟩)) ?_ (bD Z) ?_
     ·intro _ y;go_simp
     refine wTk 5 66 (.string ⟨Dn.toArray⟩) ?_ (bD Z) ?_
     ·intro _ y;have v0:=kP y v0;go_simp
     refine wTk 6 67 (.pointer (some ⟨B,0,none⟩)) ?_ (bD Z) ?_
     ·intro _ y;go_simp
     refine wTk 7 68 (.pointer (some ⟨B,0,none⟩)) ?_ (bD Z) ?_
     ·intro _ y;go_simp
     refine wTk 8 69 (.pointer (some ⟨B,0,none⟩)) ?_ (bD Z) ?_
     ·intro _ y;go_simp
     refine wTk 9 70 (.pointer (some ⟨B,0,none⟩)) ?_ (bD Z) ?_
     ·intro _ y;go_simp
     refine wTk 10 71 (.slice vq ol vc) ?_ (bD Z) ?_
     ·intro _ y;have c0:=kP y c0;go_simp
     refine wTk 11 72 (.int .i64 ol) ?_ (bD Z) ?_
     ·intro _ y;go_simp
     refine wOn 12 fun K hK=>?_
     go_simp;refine kD hK ?_;clear hK K;refine wDn ?_ _;have hM:=HWZ.o.gm.isMap;have HK6:=hI (show ∀ b,b < Z.1.size->b≠Mg->w6.1[b]? = Z.1[b]? from fun b hb hne=>hg6.block b hb (fun e=>hne (by injection e)));have hBM:B≠Mg:=(vU hM HWZ.o.kb).symm;have hNM:N4≠Mg:=fun e=>by have:=H0.o.gm.lt;omega
     have kc:∀ {b o u},b < Z.1.size->b≠Mg->Z.cell? ⟨b,o,none⟩=some u->w6.cell? ⟨b,o,none⟩=some u:=fun hb hne hc=>(cB (HK6.o _ hb hne)).trans hc
     have hBZ:B < Z.1.size:=qJ HWZ.o.c0;have c0:=kc hBZ hBM c0;have v0:=kc HVZ.o.lt hNM HVZ.o.c0;have v1:=kc HVZ.o.lt hNM HVZ.o.c1;have v2:=kc HVZ.o.lt hNM HVZ.o.c2;have v3:=kc HVZ.o.lt hNM HVZ.o.c3;try simp only at v0 v1 v2 v3
     have hr0:w.ownsRow L 42 4 (.slice vq ol vc) ol (xD qQe gs):=by
      have hr:=H0.o.grow;rw[HGV.o]at hr;unfold qQI at hr;rw[<-HOL.o]at hr;exact hr
     have hrZ:Z.ownsRow L 42 4 (.slice vq ol vc) ol (xD qQe gs):=by
      have hr:=HWZ.o.grow;rw[HGV.o]at hr;unfold qQI at hr;rw[<-HOL.o]at hr;exact hr
     have hvk:∀ g,(Value.slice vq ol vc).ownBlock=some g->jX Z g 42/\g < w.1.size:=fun g hg=>⟨zE hrZ hg,(hr0.lt g hg).2⟩
     have hneB:some B≠(Value.slice vq ol vc).ownBlock:=fun e=>(HWZ.o.kb.ne (hvk B e.symm).1 (by decide)) rfl
     have hneN:some N4≠(Value.slice vq ol vc).ownBlock:=fun e=>by have:=(hvk _ e.symm).2;omega
     have HROW:=hI (show w6.ownsRow L 42 4 (.slice vq ol vc) ol (xD qQe gs)from zU hrZ (fun g hg=>HK6.o g (by have:=(hvk g hg).2;omega) (vU hM (hvk g hg).1).symm));have hs6:Z.1.size<=w6.1.size:=hg6.size;have HG6:=hI hg6;have HM6:=hI hm6;clear hg6 hm6 kc hrun c3 hr0 hrZ;go_wp2
     refine wRg (S:=fun w'=>∀ b,b < w6.1.size->some b≠(Value.slice vq ol vc).ownBlock->w'.1[b]? = w6.1[b]?) 12 ?_;refine wTk 0 73 (.pointer (some ⟨B,0,none⟩)) ?_ ((fun _ _ _=>rfl)) ?_
     ·intro _ y;go_simp
     refine wTk 1 74 (.pointer (some ⟨B,0,none⟩)) ?_ ((fun _ _ _=>rfl)) ?_
     ·intro _ y;go_simp
     refine wTk 2 75 (.pointer (some ⟨B,0,none⟩)) ?_ ((fun _ _ _=>rfl)) ?_
     ·intro _ y;go_simp
     refine wTk 3 76 (.pointer (some ⟨B,0,none⟩)) ?_ ((fun _ _ _=>rfl)) ?_
     ·intro _ y;go_simp
     refine wTk 4 77 (.pointer (some ⟨B,0,none⟩)) ?_ ((fun _ _ _=>rfl)) ?_
     ·intro _ y;go_simp
     refine wTk 5 78 (.slice vq ol vc) ?_ ((fun _ _ _=>rfl)) ?_
     ·intro _ y;have c0:=(cB (y _ (qJ c0) hneB)).trans c0;go_simp
     refine wTk 6 79 (.agg #[.string ⟨Dn.toArray⟩, .int .i64 Dw, .bool Ds, .int .i64 lm]) ?_ ((fun _ _ _=>rfl)) ?_
     ·intro _ y;have v0:=(cB (y _ (qJ v0) hneN)).trans v0;have v1:=(cB (y _ (qJ v1) hneN)).trans v1;have v2:=(cB (y _ (qJ v2) hneN)).trans v2;have v3:=(cB (y _ (qJ v3) hneN)).trans v3;go_simp
     refine wOn 7 fun K hK=>?_
     go_simp;refine kK hK (fun b hb _=>Below.heap_alloc w6.drew _ b hb) ?_;clear hK K;refine wOn 8 fun K hK=>?_
     refine qQJ (lo:=L) (dd:=81) (news:=qQe ⟨Dn,(Dw,Ds),lm⟩) underlying27 info42 (by decide) rfl (by decide) _ _ rfl rfl HROW.o.drew (by simp;omega) rfl rfl rfl rfl (qVo _) (by omega) (fun v9 w9 ho9 hg9 hbk9=>?_);obtain⟨q9,c9,rfl⟩:∃ q c,v9=.slice q (ol+1) c:=by
      rcases ho9.2 with⟨_,h0⟩ | ⟨g,cap,cur,rfl,_⟩
      ·omega
      ·exact⟨_,_,rfl⟩
     have S9:∀ b,b < w6.1.size->some b≠(Value.slice vq ol vc).ownBlock->w9.1[b]? = w6.1[b]?:=fun b hb hne=>(hg9.block b (by simp;omega) hne).trans (Below.heap_alloc w6.drew _ b hb)
     refine kK hK S9 ?_;clear hK K;refine wOn 9 fun K hK=>?_
     go_simp;refine kK hK S9 ?_;clear hK K;try simp only[Act.put,pZa,pZb,pZc]
     refine wOn 10 fun K hK=>?_
     go_simp;refine kK hK S9 ?_;clear hK K;try simp only[Act.put,pZa,pZb,pZc]
     refine wOn 11 fun K hK=>?_
     go_simp;refine kK hK S9 ?_;clear hK K;try simp only[Act.put,pZa,pZb,pZc]
     have hB6:B < w6.1.size:=qJ c0;have c09:=(cB (S9 B hB6 hneB)).trans c0;have f09:w9.frozen? ⟨B,0,none⟩=false:=(World.frozen?_of_block (S9 B hB6 hneB)).trans ((World.frozen?_of_block (HK6.o B hBZ hBM)).trans (HWZ.o.bf 0 (by omega)));have hs9:w6.1.size+1<=w9.1.size:=by have:=hg9.size;simpa using this
     refine wOn 12 fun K hK=>?_
     go_simp;refine kD hK ?_;clear hK K;refine wDn ?_ _;have HO9:=hI ho9;have HG9:=hI hg9;have HBK9:=hI hbk9;have HS9:=hI S9;have hcB:=hlo.2.1;have HC9:=hI c09;clear c0 v0 v1 v2 v3 c09 f09 ho9 hg9 hbk9 S9;go_wp2
     go_end0;have base:∀ b,b < Z.1.size->b≠B->b≠Mg->some b≠gv.ownBlock->(w9.setCell ⟨B,0,none⟩ (.slice q9 (ol+1) c9)).1[b]? = Z.1[b]?:=fun b hb h1 h2 h3=>by
      rw[hS _ _ _ _ h1];refine(HS9.o b (by omega) ?_).trans (HK6.o b hb h2);rw[<-HGV.o];exact h3
     have hT:jW L w (w9.setCell ⟨B,0,none⟩ (.slice q9 (ol+1) c9)):=HTZ.o.trans ⟨(rfl:(w9.setCell ⟨B,0,none⟩ (.slice q9 (ol+1) c9)).os=w9.os).trans (HG9.o.os.trans HG6.o.os),by simpa using HG9.o.tape.trans HG6.o.tape,(rfl:(w9.setCell ⟨B,0,none⟩ (.slice q9 (ol+1) c9)).output=w9.output).trans (HG9.o.output.trans HG6.o.output),by simp;omega,fun b hb hbL=>base b hb (by omega) (by have:=H0.o.lo;omega) (fun e=>by have:=(H0.o.grow.lt b e.symm).1;omega)⟩;refine wP.okI (gv:=.slice q9 (ol+1) c9) (fv:=fv) HPV.o ?_ hT;have hBW9:(w9.setCell ⟨B,0,none⟩ (.slice q9 (ol+1) c9)).1.size=w9.1.size:=by simp
     have hxk:∀ b,b < Z.1.size->b≠Mg->some b≠(Value.slice vq ol vc).ownBlock->w9.1[b]? = Z.1[b]?:=fun b hb h2 h3=>(HS9.o b (by omega) h3).trans (HK6.o b hb h2)
     refine HWZ.o.glob (gv':=.slice q9 (ol+1) c9) (d:=⟨Dn,(Dw,Ds),lm⟩) (by rw[hBW9];omega) base (World.cell?_setCell_same _ _ _ HC9.o) ?_ ?_ ?_ ?_ ?_ ?_ ?_ hle
     ·intro o ho;exact(World.cell?_setCell_other _ _ _ _ (by simpa using Ne.symm ho)).trans (cB (hxk B hBZ hBM hneB))
     ·intro o;exact(World.frozen?_setCell _ _ _ _).trans (World.frozen?_of_block (hxk B hBZ hBM hneB))
     ·exact(HWZ.o.kb.turn (hxk B hBZ hBM hneB)).set _ _ _
     ·refine wY.kept HM6.o ?_;rw[hS _ _ _ _ hBM.symm];exact HS9.o Mg (by have:=HWZ.o.gm.lt;omega) (fun e=>vU hM (hvk Mg e.symm).1 rfl)
     ·rw[<-HOL.o];refine zU HO9.o (fun g hg=>hS _ _ _ _ ?_);rcases HBK9.o with h1 | h1
      ·rw[h1]at hg;exact(HWZ.o.kb.ne (hvk g hg).1 (by decide)).symm
      ·rw[h1]at hg;injection hg with hg;simp at hg;show g≠B
       omega
     ·rcases HBK9.o with h1 | h1
      ·left;rw[h1,HGV.o]
      ·right;exact⟨_,by simp;omega,h1⟩
     ·rw[qWM,<-hn]
    ·have hft:ft=false:=by rw[HFT.o,HBK.o];simp[hl1,hl2]
     have hl3:16 < lm:=by omega
     have HPF:=hI (HPB.o.trans (by rw[hft];rfl:_=(yF ⟨gs,fs.map (fun f=>f.h)⟩ (.mk k x m ln co ks)).bind fun _=>.bad ll lc 42));obtain⟨n0,n1,n2,n3,n4,n5⟩:=HN3.o.cells;have HNN:=hI (fun w'=>qQ5 (.mk lk lx lm ll lc lks) (.slice lq ln2 lcp) 42 w');try simp only[qZ,qS,qQ.kind,qQ.text,qQ.num,qQ.line,qQ.col,qQ.kids]at HNN n0 n1 n2 n3 n4 n5
     go_wp2
     refine wRg (S:=fun w'=>Below w3.1.size w3 w') 10 ?_;refine wTk 0 44 (.bool false) ?_ (bD w3) ?_
     ·intro _ y;go_simp
     refine wTk 1 45 (.bool true) ?_ (bD w3) ?_
     ·intro _ y;go_simp
     refine wTk 2 46 (.bool true) ?_ (bD w3) ?_
     ·intro _ y;go_simp
     refine xG (i:=3) (d:=47) rfl rfl (by kernel_rfl) (fun _ _ _ h=>h) (by rfl) ((Below.refl w3.1.size w3).drew) ?_;try simp only[Act.put,pZa,pZb,pZc]
     refine xG (i:=4) (d:=48) rfl rfl (by kernel_rfl) (fun _ _ _ h=>h) (by rfl) ((Below.refl w3.1.size w3).drew) ?_;try simp only[Act.put,pZa,pZb,pZc]
     refine xG (i:=5) (d:=49) rfl rfl (by kernel_rfl) (fun _ _ _ h=>h) (by rfl) ((Below.refl w3.1.size w3).drew) ?_;try simp only[Act.put,pZa,pZb,pZc]
     refine xG (i:=6) (d:=50) rfl rfl (by kernel_rfl) (fun _ _ _ h=>h) (by rfl) ((Below.refl w3.1.size w3).drew) ?_;try simp only[Act.put,pZa,pZb,pZc]
     refine xG (i:=7) (d:=51) rfl rfl (by kernel_rfl) (fun _ _ _ h=>h) (by rfl) ((Below.refl w3.1.size w3).drew) ?_;try simp only[Act.put,pZa,pZb,pZc]
     refine wTk 8 52 (.bool true) ?_ (bD w3) ?_
     ·intro _ y;go_simp
     refine wTk 9 53 (.agg #[.string ⟨k.toArray⟩, .string ⟨x.toArray⟩, .int .u64 m, .int .i64 ln, .int .i64 co, .slice (some ⟨g2,off2,none⟩) (p+1) c]) ?_ (bD w3) ?_
     ·intro _ y;obtain⟨n0,n1,n2,n3,n4,n5⟩:=kP6 y n0 n1 n2 n3 n4 n5;go_simp
     refine wOn 10 fun K hK=>?_
     go_simp;refine(HNA.o true 45 _).mono ?_;rintro e w4 (⟨_,rfl,hb4⟩ | ⟨hbt,_⟩);rotate_left
     ·cases hbt
     have hb4:=zF hb4;have HW4:=hI (HW3.o.below hb4);have HB4:=hI (HB3.o.trans (hb4.mono (by omega)));have HN4:=hI (HN3.o.below hb4);have HL4:=hI (HN5.o.below hb4);have hs4:=hb4.size;refine kD hK ?_;clear hK K hb4 n0 n1 n2 n3 n4 n5 y0 y2 v0 v1 v2 v3 vf3;try simp only[Act.put,pZa,pZb,pZc]
     refine wDn ?_ _;obtain⟨n0,n1,n2,n3,n4,n5⟩:=HN4.o.cells;try simp only[qQ.kind,qQ.text,qQ.num,qQ.line,qQ.col,qQ.kids]at n0 n1 n2 n3 n4 n5
     have⟨y0,y1,y2,y3,y4,y5,_⟩:=HL4.o.a;go_wp2_with fail
     refine(HUN.o _ _ HW4.o).mono ?_;rintro e w5 hX;rcases hX.cases with⟨a,u',hp,rfl,rfl,hb5⟩ | ⟨l',c',code,hp,rfl,hb5⟩;rotate_left
     ·exact⟨rfl,wP.badI (by rw[HPF.o,hp];rfl) (jW.of_below (HB4.o.trans (hb5.mono HB4.o.size)))⟩
     have HL5:=hI (HL4.o.below hb5);have HB5:=hI (HB4.o.trans (hb5.mono HB4.o.size));have HPG:=hI (HPF.o.trans (by rw[hp];rfl:_=.bad ll lc 42));clear n0 n1 n2 n3 n4 n5 y0 y1 y2 y3 y4 y5 hX hp hb5;have⟨y0,y1,y2,y3,y4,y5,_⟩:=HL5.o.a;go_wp2_with fail
     refine(HNN.o _).mono ?_;rintro e w6 ⟨rfl,hb6⟩;exact⟨rfl,wP.badI HPG.o (jW.of_below (HB5.o.trans (hb6.mono HB5.o.size)))⟩
   ·have hft:ft=false:=by rw[HFT.o,HBK.o];simp[hl1]
    have hl3:lm < 1:=by omega
    have HPF:=hI (HPB.o.trans (by rw[hft];rfl:_=(yF ⟨gs,fs.map (fun f=>f.h)⟩ (.mk k x m ln co ks)).bind fun _=>.bad ll lc 42));obtain⟨n0,n1,n2,n3,n4,n5⟩:=HN3.o.cells;have HNN:=hI (fun w'=>qQ5 (.mk lk lx lm ll lc lks) (.slice lq ln2 lcp) 42 w');try simp only[qZ,qS,qQ.kind,qQ.text,qQ.num,qQ.line,qQ.col,qQ.kids]at HNN n0 n1 n2 n3 n4 n5
    go_wp2
    refine wRg (S:=fun w'=>Below w3.1.size w3 w') 10 ?_;refine wTk 0 44 (.bool false) ?_ (bD w3) ?_
    ·intro _ y;go_simp
    refine wTk 1 45 (.bool true) ?_ (bD w3) ?_
    ·intro _ y;go_simp
    refine wTk 2 46 (.bool true) ?_ (bD w3) ?_
    ·intro _ y;go_simp
    refine xG (i:=3) (d:=47) rfl rfl (by kernel_rfl) (fun _ _ _ h=>h) (by rfl) ((Below.refl w3.1.size w3).drew) ?_;try simp only[Act.put,pZa,pZb,pZc]
    refine xG (i:=4) (d:=48) rfl rfl (by kernel_rfl) (fun _ _ _ h=>h) (by rfl) ((Below.refl w3.1.size w3).drew) ?_;try simp only[Act.put,pZa,pZb,pZc]
    refine xG (i:=5) (d:=49) rfl rfl (by kernel_rfl) (fun _ _ _ h=>h) (by rfl) ((Below.refl w3.1.size w3).drew) ?_;try simp only[Act.put,pZa,pZb,pZc]
    refine xG (i:=6) (d:=50) rfl rfl (by kernel_rfl) (fun _ _ _ h=>h) (by rfl) ((Below.refl w3.1.size w3).drew) ?_;try simp only[Act.put,pZa,pZb,pZc]
    refine xG (i:=7) (d:=51) rfl rfl (by kernel_rfl) (fun _ _ _ h=>h) (by rfl) ((Below.refl w3.1.size w3).drew) ?_;try simp only[Act.put,pZa,pZb,pZc]
    refine wTk 8 52 (.bool true) ?_ (bD w3) ?_
    ·intro _ y;go_simp
    refine wTk 9 53 (.agg #[.string ⟨k.toArray⟩, .string ⟨x.toArray⟩, .int .u64 m, .int .i64 ln, .int .i64 co, .slice (some ⟨g2,off2,none⟩) (p+1) c]) ?_ (bD w3) ?_
    ·intro _ y;obtain⟨n0,n1,n2,n3,n4,n5⟩:=kP6 y n0 n1 n2 n3 n4 n5;go_simp
    refine wOn 10 fun K hK=>?_
    go_simp;refine(HNA.o true 45 _).mono ?_;rintro e w4 (⟨_,rfl,hb4⟩ | ⟨hbt,_⟩);rotate_left
    ·cases hbt
    have hb4:=zF hb4;have HW4:=hI (HW3.o.below hb4);have HB4:=hI (HB3.o.trans (hb4.mono (by omega)));have HN4:=hI (HN3.o.below hb4);have HL4:=hI (HN5.o.below hb4);have hs4:=hb4.size;refine kD hK ?_;clear hK K hb4 n0 n1 n2 n3 n4 n5 y0 y2 v0 v1 v2 v3 vf3;try simp only[Act.put,pZa,pZb,pZc]
    refine wDn ?_ _;obtain⟨n0,n1,n2,n3,n4,n5⟩:=HN4.o.cells;try simp only[qQ.kind,qQ.text,qQ.num,qQ.line,qQ.col,qQ.kids]at n0 n1 n2 n3 n4 n5
    have⟨y0,y1,y2,y3,y4,y5,_⟩:=HL4.o.a;go_wp2_with fail
    refine(HUN.o _ _ HW4.o).mono ?_;rintro e w5 hX;rcases hX.cases with⟨a,u',hp,rfl,rfl,hb5⟩ | ⟨l',c',code,hp,rfl,hb5⟩;rotate_left
    ·exact⟨rfl,wP.badI (by rw[HPF.o,hp];rfl) (jW.of_below (HB4.o.trans (hb5.mono HB4.o.size)))⟩
    have HL5:=hI (HL4.o.below hb5);have HB5:=hI (HB4.o.trans (hb5.mono HB4.o.size));have HPG:=hI (HPF.o.trans (by rw[hp];rfl:_=.bad ll lc 42));clear n0 n1 n2 n3 n4 n5 y0 y1 y2 y3 y4 y5 hX hp hb5;have⟨y0,y1,y2,y3,y4,y5,_⟩:=HL5.o.a;go_wp2_with fail
    refine(HNN.o _).mono ?_;rintro e w6 ⟨rfl,hb6⟩;exact⟨rfl,wP.badI HPG.o (jW.of_below (HB5.o.trans (hb6.mono HB5.o.size)))⟩
structure qZj(N:Nat)(x:List UInt8)(T:Ty)(n:Int)(vv bv:Value)(w:World):Prop where
 c0:w.cell? ⟨N,0,none⟩=some (.string ⟨x.toArray⟩)
 c1:w.cell? ⟨N,1,none⟩=some (.int .i64 T.1)
 c2:w.cell? ⟨N,2,none⟩=some (.bool T.2)
 c3:w.cell? ⟨N,3,none⟩=some (.int .i64 n)
 c4:w.cell? ⟨N,4,none⟩=some vv
 c5:w.cell? ⟨N,5,none⟩=some bv
 f:∀ k,k < 6->w.frozen? ⟨N,k,none⟩=false
theorem qZj.a{N:Nat}{x:List UInt8}{T:Ty}{n:Int}{vv bv:Value}{w:World}(h:qZj N x T n vv bv w):w.cell? ⟨N,0,none⟩=some (.string ⟨x.toArray⟩)/\w.cell? ⟨N,1,none⟩=some (.int .i64 T.1)/\w.cell? ⟨N,2,none⟩=some (.bool T.2)/\w.cell? ⟨N,3,none⟩=some (.int .i64 n)/\w.cell? ⟨N,4,none⟩=some vv/\w.cell? ⟨N,5,none⟩=some bv/\True:=⟨h.c0,h.c1,h.c2,h.c3,h.c4,h.c5,trivial⟩
theorem qZj.b{N:Nat}{x:List UInt8}{T:Ty}{n:Int}{vv bv:Value}{w:World}(h:qZj N x T n vv bv w):w.frozen? ⟨N,0,none⟩=false/\w.frozen? ⟨N,1,none⟩=false/\w.frozen? ⟨N,2,none⟩=false/\w.frozen? ⟨N,3,none⟩=false/\w.frozen? ⟨N,4,none⟩=false/\w.frozen? ⟨N,5,none⟩=false/\True:=⟨h.f 0 (by decide),h.f 1 (by decide),h.f 2 (by decide),h.f 3 (by decide),h.f 4 (by decide),h.f 5 (by decide),trivial⟩
theorem qZj.lt{N:Nat}{x:List UInt8}{T:Ty}{n:Int}{vv bv:Value}{w:World}(h:qZj N x T n vv bv w):N < w.1.size:=qJ h.c0
theorem qZj.turn{N:Nat}{x:List UInt8}{T:Ty}{n:Int}{vv bv:Value}{w w':World}(h:qZj N x T n vv bv w)(hb:w'.1[N]? = w.1[N]?):qZj N x T n vv bv w' :=
 have e:=fun {o:Nat} {u:Value} (e:w.cell? ⟨N,o,none⟩=some u)=>(cB (w:=w) (w':=w') (a:=⟨N,o,none⟩) hb).trans e
 ⟨e h.c0,e h.c1,e h.c2,e h.c3,e h.c4,e h.c5,fun j hj=>(World.frozen?_of_block hb).trans (h.f j hj)⟩
theorem qZj.below{N:Nat}{x:List UInt8}{T:Ty}{n:Int}{vv bv:Value}{w w':World}(h:qZj N x T n vv bv w)(hb:Below w.1.size w w'):qZj N x T n vv bv w':=h.turn (hb.block _ h.lt)
theorem qZj.new(w:World):qZj w.1.size [] (0,false) 0 (.slice none 0 0) (.slice none 0 0) (w.alloc (.cells #[.string ⟨#[]⟩, .int .i64 0, .bool false, .int .i64 0, .slice none 0 0, .slice none 0 0] 40)):=by
 constructor
 case f=>intro k hk;match k,hk with | 0,_=>simp[go_sem] | 1,_=>simp[go_sem] | 2,_=>simp[go_sem] | 3,_=>simp[go_sem] | 4,_=>simp[go_sem] | 5,_=>simp[go_sem]
 all_goals simp[go_sem]
theorem qZj.six{N:Nat}{x:List UInt8}{T:Ty}{n:Int}{vv bv:Value}{w:World}(h:qZj N x T n vv bv w)(x':List UInt8)(T':Ty)(n':Int)(vv' bv':Value) :
 qZj N x' T' n' vv' bv' ((((((w.setCell ⟨N,0,none⟩ (.string ⟨x'.toArray⟩)).setCell ⟨N,1,none⟩ (.int .i64 T'.1)).setCell ⟨N,2,none⟩ (.bool T'.2)).setCell ⟨N,3,none⟩ (.int .i64 n')).setCell ⟨N,4,none⟩ vv').setCell ⟨N,5,none⟩ bv'):=by
 have⟨h0,h1,h2,h3,h4,h5,_⟩:=h.a;have hf:=h.f;constructor
 case f=>intro j hj;have:=hf j hj;simp[go_sem, *]
 all_goals simp[go_sem, *]
theorem qZj.setV{N:Nat}{x:List UInt8}{T:Ty}{n:Int}{vv bv:Value}{w:World}(h:qZj N x T n vv bv w)(vv':Value):qZj N x T n vv' bv (w.setCell ⟨N,4,none⟩ vv'):=by
 have⟨h0,h1,h2,h3,h4,h5,_⟩:=h.a;have hf:=h.f;constructor
 case f=>intro j hj;have:=hf j hj;simp[go_sem, *]
 all_goals simp[go_sem, *]
theorem qPW{ps:List qQ}{k:Nat}{acc:List qI}(h:k < ps.length):yH (ps.drop k) acc=(jQ (decide (acc.length < 64)) ps[k] 45).bind fun _=>(jQ (qQj ps[k].text 0 acc).isNone ps[k] 40).bind fun _=>yH (ps.drop (k+1)) (acc++[qZr ps[k]]):=by
 rw[List.drop_eq_getElem_cons h,yH]
theorem qYB.snoc{l:List qI}{d:qI}(h:qYB l)(hn:qZc d.name 0 (l.map (·.name))=none)(hd:d.name.length<=1000000):qYB (l++[d]):=by
 intro k hk;rw[lL]at hk;simp only[lO,lZ]at hk;by_cases hl:k < l.length
 ·rw[List.getElem_append_left hl,List.take_append_of_le_length (by omega)];exact h k hl
 ·have e:k=l.length:=by omega
  subst e;rw[List.getElem_append_right (Nat.le_refl _),List.take_append_of_le_length (by omega),List.take_of_length_le (Nat.le_refl _)];simpa using⟨hn,hd⟩
structure FIn(Nf Mn:Nat)(t:qQ)(v:Value)(x:List UInt8)(T:Ty)(ps:List qQ)(k:Nat)(acc:List qI)(vv:Value)(nms:List (List UInt8))(w wr:World):Prop where
 hb:Below w.1.size w wr
 nd:Bx w.1.size t v wr
 fb:qZj Nf x T ps.length vv (.slice none 0 0) wr
 nm:wY wr Mn nms
 vr:qQI wr (Mn+1) acc vv
 di:qYB acc
 hp:yH ps []=yH (ps.drop k) acc
 hl:acc.length=k
 lo:w.1.size < Nf/\Nf < Mn
 k64:k<=64
section
variable {Nf Mn:Nat} {t:qQ} {v:Value} {x:List UInt8} {T:Ty} {ps:List qQ} {k:Nat} {acc:List qI} {vv:Value} {nms:List (List UInt8)} {w wr wr':World}
theorem FIn.below(h:FIn Nf Mn t v x T ps k acc vv nms w wr)(hb:Below wr.1.size wr wr'):FIn Nf Mn t v x T ps k acc vv nms w wr' :=
 ⟨h.hb.trans (hb.mono h.hb.size),h.nd.below hb,h.fb.below hb,h.nm.below hb,zU h.vr (fun g hg=>hb.block g (h.vr.lt g hg).2),h.di,h.hp,h.hl,h.lo,h.k64⟩
theorem FIn.store(h:FIn Nf Mn t v x T ps k acc vv nms w wr){nms':List (List UInt8)}(hg:wr.grownBy wr' (some Mn))(hm:wY wr' Mn nms'):FIn Nf Mn t v x T ps k acc vv nms' w wr' :=
 have hlo:=h.lo;have st:∀ b,b < wr.1.size->b≠Mn->wr'.1[b]? = wr.1[b]?:=fun b hb hne=>hg.block b hb (fun e=>hne (by injection e))
 have s1:=h.hb.size
 ⟨⟨hg.os.trans h.hb.os,hg.tape.trans h.hb.tape,hg.output.trans h.hb.output,Nat.le_trans s1 hg.size,fun b hb=>(st b (by omega) (by omega)).trans (h.hb.block b hb)⟩,(st _ h.nd.lt (by omega)).trans h.nd,h.fb.turn (st _ h.fb.lt (by omega)),hm,zU h.vr (fun g hg'=>st g (h.vr.lt g hg').2 (by have:=(h.vr.lt g hg').1;omega)),h.di,h.hp,h.hl,h.lo,h.k64⟩
theorem FIn.more(h:FIn Nf Mn t v x T ps k acc vv nms w wr){d:qI}{vv':Value}(hs:wr.1.size<=wr'.1.size)(ho:wr'.os=wr.os)(ht:wr'.tape=wr.tape)(hu:wr'.output=wr.output)
 (st:∀ b,b < wr.1.size->some b≠vv.ownBlock->wr'.1[b]? = wr.1[b]?) (hrow:wr'.ownsRow (Mn+1) 42 4 vv' (k+1) (xD qQe acc++qQe d))
 (hn:nms=(acc++[d]).map (·.name)) (hd:qYB (acc++[d])) (hp:yH ps []=yH (ps.drop (k+1)) (acc++[d])) (h64:k < 64) :
 FIn Nf Mn t v x T ps (k+1) (acc++[d]) vv' ((acc++[d]).map (·.name)) w (wr'.setCell ⟨Nf,4,none⟩ vv'):=by
 have hlo:=h.lo;have hl:=h.hl;have s1:=h.hb.size;have s2:∀ b,b < wr.1.size->b<=Mn->wr'.1[b]? = wr.1[b]?:=fun b hb hle=>st b hb (fun e=>by have:=(h.vr.lt b e.symm).1;omega)
 have s3:∀ b,b≠Nf->(wr'.setCell ⟨Nf,4,none⟩ vv').1[b]? = wr'.1[b]?:=fun b hb=>hS _ _ _ _ hb
 have hnm:=h.nm;have hnl:=h.nm.lt;subst hn;refine⟨⟨ho.trans h.hb.os,ht.trans h.hb.tape,hu.trans h.hb.output,by simp;omega,fun b hb=>(s3 b (by omega)).trans ((s2 b (by omega) (by omega)).trans (h.hb.block b hb))⟩,(s3 _ (by omega)).trans ((s2 _ h.nd.lt (by omega)).trans h.nd),(h.fb.turn (s2 _ h.fb.lt (by omega))).setV vv',hnm.kept ((s3 _ (by omega)).trans (s2 _ hnl (by omega))),?_,hd,hp,by simp[hl],h.lo,by omega⟩;unfold qQI;rw[lL,qZt,hl];simp only[lO,lZ,xD,lA];exact zU hrow (fun g hg=>s3 g (by have:=(hrow.lt g hg).1;omega))
end
def FcRel(Nf Mn:Nat)(t:qQ)(v:Value)(x:List UInt8)(T:Ty)(ps:List qQ)(w:World)(i:Value)(wr:World):Prop :=
 ∃ (k:Nat) (acc:List qI) (vv:Value),k<=ps.length/\i=.int .i64 k/\FIn Nf Mn t v x T ps k acc vv (acc.map (·.name)) w wr
theorem info40:(prog.info? 40).map (fun i=>(i.zero,i.size,i.bytes))=some (some (.agg #[.string ⟨#[]⟩, .int .i64 0, .bool false, .int .i64 0, .slice none 0 0, .slice none 0 0]),6,88):=by kernel_rfl
theorem fnC_one(f:FnM)(h1:f.vv.oneCell'=true)(h2:f.bv.oneCell'=true):∀ u∈fnC f,u.oneCell'=true:=by
 intro u hu;simp[fnC]at hu;rcases hu with rfl | rfl | rfl | rfl | rfl | rfl;all_goals first | rfl | assumption
theorem qUM(S:HdS)(t u z:qQ)(ps:List qQ)(h:t.kids=u :: (ps++[z])):wF S t=(jQ (decide (S.fs.length < 16)) t 45).bind fun _=>(yF S t).bind fun _=>(yH ps []).bind fun l=>.ok ⟨S.gs,S.fs++[⟨t.text,tyL u.text,l⟩]⟩:=by
 unfold wF;rw[h];have e:((u :: (ps++[z])).dropLast.drop 1)=ps:=by
  rw[show u :: (ps++[z])=(u :: ps)++[z]from rfl,List.dropLast_concat];rfl
 rw[e];rfl
theorem qWA.mid{B:Nat}{w:World}{u z:qQ}{ps:List qQ}{g off:Nat}(h:qWA B w (u :: (ps++[z])) g off):qWA B w ps g (off+6):=by
 refine⟨h.1,fun i hi=>?_⟩;obtain⟨q,n,c,h1,h2⟩:=h.2 (i+1) (by simp;omega);have e:(u :: (ps++[z]))[i+1]'(by simp;omega)=ps[i]:=by
  rw[List.getElem_cons_succ,List.getElem_append_left hi]
 rw[e]at h1 h2;exact⟨q,n,c,h1,by rw[show off+6+i * 6=off+(i+1) * 6 by omega];exact h2⟩
def FMade(x:List UInt8)(T:Ty)(n:Nat)(W:World)(N:Nat)(w':World):Prop:=Below W.1.size W w'/\qZj N x T n (.slice none 0 0) (.slice none 0 0) w'/\W.1.size<=N
theorem qUN(B L:Nat)(gs:List qI)(fs:List FnM)(gv fv:Value)(Mg Mf Mr:Nat)(cl:vE)(t u z:qQ)(ps:List qQ)(v:Value)(w:World)(h:HIn B L gs fs gv fv Mg Mf Mr cl (yV gs) w)
 (hL:L<=w.1.size) (hks:t.kids=u :: (ps++[z])) (hl:xZ w (· < L) t v) (hx:t.text.length<=1000000) (hkl:t.kids.length<=1000000) (hps:∀ a∈ps,a.text.length<=1000000/\a.kids≠[]) :
 Calls prog 85 #[.pointer (some ⟨B,0,none⟩),qZ t v] w (wP B L Mg Mf Mr cl (wF ⟨gs,fs.map (fun f=>f.h)⟩ t) w):=by
 obtain⟨q,c,rfl,hc1,hc2,hK⟩:=hl.kids;have HBL:=hI (bal (Below.refl w.1.size w) (qB t (.slice q t.kids.length c)));have HN:=hI (Bx.new t (.slice q t.kids.length c) w);have HW:=hI (h.below HBL.o);have hsz:(w.alloc (qB t (.slice q t.kids.length c))).1.size=w.1.size+1:=by simp
 have HPB:=hI (qUM ⟨gs,fs.map (fun f=>f.h)⟩ t u z ps hks);have HNA:=hI (fun b cd w'=>qQk b t (.slice q t.kids.length c) cd w');have HUN:=hI (fun w' (h':HIn B L gs fs gv fv Mg Mf Mr cl (yV gs) w')=>qWf B L gs fs gv fv Mg Mf Mr cl (yV gs) t (.slice q t.kids.length c) w' h' hx ⟨_,_,rfl⟩);have HX:=hI hx;have H0:=hI h;have HPS:=hI hps;obtain⟨g2,off2,rfl,hR2⟩:=hK.resolve_left (by rw[hks];simp);have hlen:t.kids.length=ps.length+1+1:=by rw[hks];simp
 rw[hks]at hR2;have HRP:=hI hR2.mid;obtain⟨uq,un,ucp,hul,huc⟩:=hR2.2 0 (by simp);simp only[List.getElem_cons_zero,Nat.zero_mul,Nat.add_zero]at hul huc;have hg2:=hR2.1;have hBw:B < w.1.size:=qJ h.c0;have HTY:=hI (fun w' (hb:Below w.1.size w w')=>qKd u (.slice uq un ucp) w' (h.wtab.below hb));have huc:=huc.move (HBL.o.block g2 (by omega));have hc1:=Nat.le_trans (Nat.le_of_eq hlen.symm) hc1;obtain⟨pn,hpn⟩:∃ n,ps.length=n:=⟨_,rfl⟩;have hpb:pn < 1000000:=by omega
 have HLN:=hI hpn;rw[hpn]at hlen hc1;generalize hU:tyL u.text=U at *;obtain⟨U0,U1⟩:=U;clear h hl hK hks hR2 hx hps hul hU hkl hpn;obtain⟨k,x,m,ln,co,ks⟩:=t;obtain⟨uk,ux,um,ul,uc,uks⟩:=u;obtain⟨fq,fc,hfv⟩:∃ q c,fv=.slice q fs.length c:=by
  rcases H0.o.frow.2 with⟨h1,h0⟩ | ⟨g,cap,cur,h1,_⟩
  ·exact⟨none,0,by rw[h0];exact h1⟩
  ·exact⟨_,_,h1⟩
 obtain⟨fl,hfl⟩:∃ fl:Nat,fl=fs.length:=⟨_,rfl⟩;have hfl16:=H0.o.fl;have HFV:=hI (show fv=.slice fq fl fc by rw[hfv,hfl]);have HFL:=hI hfl;rw[<-hfl]at hfl16;clear hfl;simp only[qZ,qB,qS,tyV,qQ.kind,qQ.text,qQ.num,qQ.line,qQ.col,qQ.kids]at *;rw[hlen]at HBL HN HW hsz HNA HUN huc;rw[hlen];clear hlen;have hci:(pn:Int)+1+1<=(c:Nat):=by omega
 go_enter func85,ntmps85
 go_wp2
 generalize (w.alloc _)=W at *;have hWs:w.1.size<=W.1.size:=by omega
 obtain⟨n0,n1,n2,n3,n4,n5⟩:=HN.o.cells;try simp only[qQ.kind,qQ.text,qQ.num,qQ.line,qQ.col,qQ.kids]at n0 n1 n2 n3 n4 n5
 have c1:=HW.o.c1;rw[HFV.o]at c1;clear hfv;refine wRg (S:=fun w'=>Below W.1.size W w') 8 ?_;refine wTk 0 11 (.pointer (some ⟨B,0,none⟩)) ?_ (bD W) ?_
 ·intro _ y;go_simp
 refine wTk 1 12 (.pointer (some ⟨B,0,none⟩)) ?_ (bD W) ?_
 ·intro _ y;go_simp
 refine wTk 2 13 (.pointer (some ⟨B,0,none⟩)) ?_ (bD W) ?_
 ·intro _ y;go_simp
 refine wTk 3 14 (.pointer (some ⟨B,1,none⟩)) ?_ (bD W) ?_
 ·intro _ y;go_simp
 refine wTk 4 15 (.slice fq fl fc) ?_ (bD W) ?_
 ·intro _ y;have c1:=kP y c1;go_simp
 refine wTk 5 16 (.int .i64 fl) ?_ (bD W) ?_
 ·intro _ y;go_simp
 refine wTk 6 17 (.bool (decide ((fl:Int) < 16))) ?_ (bD W) ?_
 ·intro _ y;go_simp
 refine wTk 7 18 (.agg #[.string ⟨k.toArray⟩, .string ⟨x.toArray⟩, .int .u64 m, .int .i64 ln, .int .i64 co, .slice (some ⟨g2,off2,none⟩) (pn+1+1) c]) ?_ (bD W) ?_
 ·intro _ y;obtain⟨n0,n1,n2,n3,n4,n5⟩:=kP6 y n0 n1 n2 n3 n4 n5;go_simp
 refine wOn 8 fun K hK=>?_
 go_simp;refine(HNA.o _ 45 _).mono ?_;rintro e w4 (⟨hbt,rfl,hb4⟩ | ⟨hbt,rfl,hb4⟩);rotate_left
 ·exact⟨rfl,wP.badI (ln:=ln) (co:=co) (code:=45) (by rw[HPB.o,show decide ((fs.map (fun f=>f.h)).length < 16)=false by rw[List.length_map,<-HFL.o];have:=of_decide_eq_false hbt;exact decide_eq_false (by omega)];rfl) (jW.of_below (HBL.o.trans ((zF hb4).mono hWs)))⟩
 have hb4:=zF hb4;have hle:fl < 16:=by have:=of_decide_eq_true hbt;omega
 have HPU:=hI (HPB.o.trans (by rw[show decide ((fs.map (fun f=>f.h)).length < 16)=true by rw[List.length_map,<-HFL.o];exact decide_eq_true hle];rfl:_=(yF ⟨gs,fs.map (fun f=>f.h)⟩ (.mk k x m ln co ks)).bind fun _=>(yH ps []).bind fun l=>.ok ⟨gs,fs.map (fun f=>f.h)++[⟨x,(U0,U1),l⟩]⟩));have HW4:=hI (HW.o.below hb4);have HB4:=hI (HBL.o.trans (hb4.mono hWs));have HN4:=hI (HN.o.below hb4);have hs4:=hb4.size;have huc:=huc.move (hb4.block g2 (by omega));refine kD hK ?_;clear hK K hb4 n0 n1 n2 n3 n4 n5 c1 HW HN HBL HPB hbt;try simp only[Act.put,pZa,pZb,pZc]
 refine wDn ?_ _;obtain⟨n0,n1,n2,n3,n4,n5⟩:=HN4.o.cells;try simp only[qQ.kind,qQ.text,qQ.num,qQ.line,qQ.col,qQ.kids]at n0 n1 n2 n3 n4 n5
 go_wp2_with fail
 refine(HUN.o _ HW4.o).mono ?_;rintro e W2 hX;rcases hX.cases with⟨a,u',hp,rfl,rfl,hb7⟩ | ⟨l',c',code,hp,rfl,hb7⟩;rotate_left
 ·exact⟨rfl,wP.badI (by rw[HPU.o,hp];rfl) (jW.of_below (HB4.o.trans (hb7.mono HB4.o.size)))⟩
 have HPOS:=hI (qKQ hp);have HPV:=hI (HPU.o.trans (by rw[hp];rfl:_=(yH ps []).bind fun l=>.ok ⟨gs,fs.map (fun f=>f.h)++[⟨x,(U0,U1),l⟩]⟩));have HW7:=hI (HW4.o.below hb7);have HB7:=hI (HB4.o.trans (hb7.mono HB4.o.size));have HN7:=hI (HN4.o.below hb7);have hs7:=hb7.size;have huc:=huc.move (hb7.block g2 (by omega));clear n0 n1 n2 n3 n4 n5 hX hp hb7 HW4 HN4 HPU HUN;obtain⟨n0,n1,n2,n3,n4,n5⟩:=HN7.o.cells;have⟨k0,k1,k2,k3,k4,k5,_⟩:=huc.a;try simp only[qQ.kind,qQ.text,qQ.num,qQ.line,qQ.col,qQ.kids]at n0 n1 n2 n3 n4 n5 k0 k1 k2 k3 k4 k5
 have hw1:IntKind.i64.wrap (((pn+1+1:Nat):Int) - 1)=(pn+1:Nat):=by rw[IntWalk.i64_in _ (by omega)];omega
 have hw2:IntKind.i64.wrap ((pn:Int)+1+1 - 1)=(pn:Int)+1:=by rw[IntWalk.i64_in _ (by omega)];omega
 have hw3:IntKind.i64.wrap ((pn:Int)+1)=(pn:Int)+1:=IntWalk.i64_in _ (by omega);have hW2s:w.1.size<=W2.1.size:=by omega
 go_wp2
 refine qXG (fun a0 r=>((((((((((((a0.put (some 30) (.pointer (some ⟨w.1.size,1,none⟩))).put (some 31) (.string ⟨x.toArray⟩)).put (some 33) (.pointer (some ⟨w.1.size,5,none⟩))).put (some 34) (.slice (some ⟨g2,off2,none⟩) (pn+1+1) c)).put (some 35) (.pointer (some ⟨g2,off2,none⟩))).put (some 36) (.agg #[.string ⟨uk.toArray⟩, .string ⟨ux.toArray⟩, .int .u64 um, .int .i64 ul, .int .i64 uc, .slice uq un ucp])).put (some 38) (.slice (some ⟨g2,off2+6,none⟩) pn (c - 1))).put (some 39) (.int .i64 pn)).put (some 32) (.string ⟨x.toArray⟩)).put (some 37) (.agg #[.int .i64 U0, .bool U1])).put (some 40) (.agg #[.string ⟨x.toArray⟩, .int .i64 U0, .bool U1, .int .i64 pn, .slice none 0 0, .slice none 0 0])).put (some 5) (.pointer (some ⟨r,0,none⟩)))) (FMade x (U0,U1) pn W2) ?_ ?_
 ·refine wRg (S:=fun w'=>Below W2.1.size W2 w') 99 ?_;refine wTk 0 30 (.pointer (some ⟨w.1.size,1,none⟩)) ?_ (bD W2) ?_
  ·intro _ y;go_simp
  refine wTk 1 31 (.string ⟨x.toArray⟩) ?_ (bD W2) ?_
  ·intro _ y;have n1:=kP y n1;go_simp
  refine wTk 3 33 (.pointer (some ⟨w.1.size,5,none⟩)) ?_ (bD W2) ?_
  ·intro _ y;go_simp
  refine wTk 4 34 (.slice (some ⟨g2,off2,none⟩) (pn+1+1) c) ?_ (bD W2) ?_
  ·intro _ y;have n5:=kP y n5;go_simp
  refine wTk 5 35 (.pointer (some ⟨g2,off2,none⟩)) ?_ (bD W2) ?_
  ·intro _ y;go_simp;intro h;omega
  refine wTk 6 36 (.agg #[.string ⟨uk.toArray⟩, .string ⟨ux.toArray⟩, .int .u64 um, .int .i64 ul, .int .i64 uc, .slice uq un ucp]) ?_ (bD W2) ?_
  ·intro _ y;obtain⟨k0,k1,k2,k3,k4,k5⟩:=kP6 y k0 k1 k2 k3 k4 k5;go_simp
  refine wTk 8 38 (.slice (some ⟨g2,off2+6,none⟩) pn (c - 1)) ?_ (bD W2) ?_
  ·intro _ y;go_simp
  refine wTk 9 39 (.int .i64 pn) ?_ (bD W2) ?_
  ·intro _ y;go_simp
  have HB0:=hI ((Below.refl W2.1.size W2).drew);clear n0 n1 n2 n3 n4 n5 k0 k1 k2 k3 k4 k5;generalize World.drew W2=C0 at *;refine jA (i:=2) (j:=11) rfl rfl (by kernel_rfl) (by rfl) (by rfl) (fun K hK=>?_) (fun K hK=>?_)
  ·go_simp;refine(yP ⟨x.toArray⟩ _ (by have:=HX.o;simpa[ByteArray.size]using this)).mono ?_;rintro e C1 ⟨rfl,hb⟩;have hw0:=HB0.o.size;have HB1:=hI (HB0.o.trans (hb.mono HB0.o.size));have hs1:=hb.size;refine kK hK HB1.o ?_;clear hK K hb;try simp only[Act.put,pZa,pZb,pZc]
   refine jA (i:=7) (j:=11) rfl rfl (by kernel_rfl) (by rfl) (by rfl) (fun K hK=>?_) (fun K hK=>?_)
   ·go_simp;refine(HTY.o C1 (HB7.o.trans (HB1.o.mono hW2s))).mono ?_;rintro e C2 ⟨rfl,hb⟩;have hw1:=HB1.o.size;have HB2:=hI (HB1.o.trans (hb.mono HB1.o.size));have hs2:=hb.size;refine kK hK HB2.o ?_;clear hK K hb;try simp only[Act.put,pZa,pZb,pZc]
    refine jA (i:=10) (j:=11) rfl rfl (by kernel_rfl) (by rfl) (by rfl) (fun K hK=>?_) (fun K hK=>?_)
    ·go_simp;refine kK hK HB2.o ?_;clear hK K;have HB3:=HB2;refine wOn 11 fun K hK=>?_
     go_simp;refine kK hK (bal HB2.o _) ?_;clear hK K;have HB3:=hI (bal HB2.o (.cells #[.string ⟨#[]⟩, .int .i64 0, .bool false, .int .i64 0, .slice none 0 0, .slice none 0 0] 40));have hs3:C2.1.size < (C2.alloc (.cells #[.string ⟨#[]⟩, .int .i64 0, .bool false, .int .i64 0, .slice none 0 0, .slice none 0 0] 40)).1.size:=by simp
     have hw2:=HB2.o.size;have H4:=hI (show qZj C2.1.size [] (0,false) 0 (.slice none 0 0) (.slice none 0 0) (C2.alloc (.cells #[.string ⟨#[]⟩, .int .i64 0, .bool false, .int .i64 0, .slice none 0 0, .slice none 0 0] 40))from qZj.new C2);generalize (C2.alloc (.cells #[.string ⟨#[]⟩, .int .i64 0, .bool false, .int .i64 0, .slice none 0 0, .slice none 0 0] 40))=C3 at *;refine wOn 12 fun K hK=>?_
     have x0:=H4.o.c0;have xf0:=H4.o.f 0 nL;have x1:=H4.o.c1;have xf1:=H4.o.f 1 nL;have x2:=H4.o.c2;have xf2:=H4.o.f 2 nL;have x3:=H4.o.c3;have xf3:=H4.o.f 3 nL;have x4:=H4.o.c4;have xf4:=H4.o.f 4 nL;have x5:=H4.o.c5;have xf5:=H4.o.f 5 nL;simp only at x0 x1 x2 x3 x4 x5;go_simp;refine kK hK (vN HB3.o (by omega) _ _ _ _ _ _) ?_;clear hK K;refine wDn ?_ _;exact⟨C2.1.size,by simp only[Act.put,pZa,pZb,pZc],vN HB3.o (by omega) _ _ _ _ _ _,H4.o.six x (U0,U1) pn (.slice none 0 0) (.slice none 0 0),by show W2.1.size<=C2.1.size;omega⟩
    ·go_simp;refine kK hK (bal HB2.o _) ?_;clear hK K;have HB3:=hI (bal HB2.o (.cells #[.string ⟨#[]⟩, .int .i64 0, .bool false, .int .i64 0, .slice none 0 0, .slice none 0 0] 40));have hs3:C2.1.size < (C2.alloc (.cells #[.string ⟨#[]⟩, .int .i64 0, .bool false, .int .i64 0, .slice none 0 0, .slice none 0 0] 40)).1.size:=by simp
     have hw2:=HB2.o.size;have H4:=hI (show qZj C2.1.size [] (0,false) 0 (.slice none 0 0) (.slice none 0 0) (C2.alloc (.cells #[.string ⟨#[]⟩, .int .i64 0, .bool false, .int .i64 0, .slice none 0 0, .slice none 0 0] 40))from qZj.new C2);generalize (C2.alloc (.cells #[.string ⟨#[]⟩, .int .i64 0, .bool false, .int .i64 0, .slice none 0 0, .slice none 0 0] 40))=C3 at *;refine wOn 10 fun K hK=>?_
     go_simp;refine kK hK HB3.o ?_;clear hK K;have HB4:=HB3;refine wOn 12 fun K hK=>?_
     have x0:=H4.o.c0;have xf0:=H4.o.f 0 nL;have x1:=H4.o.c1;have xf1:=H4.o.f 1 nL;have x2:=H4.o.c2;have xf2:=H4.o.f 2 nL;have x3:=H4.o.c3;have xf3:=H4.o.f 3 nL;have x4:=H4.o.c4;have xf4:=H4.o.f 4 nL;have x5:=H4.o.c5;have xf5:=H4.o.f 5 nL;simp only at x0 x1 x2 x3 x4 x5;go_simp;refine kK hK (vN HB3.o (by omega) _ _ _ _ _ _) ?_;clear hK K;refine wDn ?_ _;exact⟨C2.1.size,by simp only[Act.put,pZa,pZb,pZc],vN HB3.o (by omega) _ _ _ _ _ _,H4.o.six x (U0,U1) pn (.slice none 0 0) (.slice none 0 0),by show W2.1.size<=C2.1.size;omega⟩
   ·go_simp;refine kK hK (bal HB1.o _) ?_;clear hK K;have HB2:=hI (bal HB1.o (.cells #[.string ⟨#[]⟩, .int .i64 0, .bool false, .int .i64 0, .slice none 0 0, .slice none 0 0] 40));have hs2:C1.1.size < (C1.alloc (.cells #[.string ⟨#[]⟩, .int .i64 0, .bool false, .int .i64 0, .slice none 0 0, .slice none 0 0] 40)).1.size:=by simp
    have hw1:=HB1.o.size;have H4:=hI (show qZj C1.1.size [] (0,false) 0 (.slice none 0 0) (.slice none 0 0) (C1.alloc (.cells #[.string ⟨#[]⟩, .int .i64 0, .bool false, .int .i64 0, .slice none 0 0, .slice none 0 0] 40))from qZj.new C1);generalize (C1.alloc (.cells #[.string ⟨#[]⟩, .int .i64 0, .bool false, .int .i64 0, .slice none 0 0, .slice none 0 0] 40))=C2 at *;refine wOn 7 fun K hK=>?_
    go_simp;refine(HTY.o C2 (HB7.o.trans (HB2.o.mono hW2s))).mono ?_;rintro e C3 ⟨rfl,hb⟩;have hw2:=HB2.o.size;have HB3:=hI (HB2.o.trans (hb.mono HB2.o.size));have hs3:=hb.size;have H4:=hI (H4.o.below hb);refine kK hK HB3.o ?_;clear hK K hb;try simp only[Act.put,pZa,pZb,pZc]
    refine wOn 10 fun K hK=>?_
    go_simp;refine kK hK HB3.o ?_;clear hK K;have HB4:=HB3;refine wOn 12 fun K hK=>?_
    have x0:=H4.o.c0;have xf0:=H4.o.f 0 nL;have x1:=H4.o.c1;have xf1:=H4.o.f 1 nL;have x2:=H4.o.c2;have xf2:=H4.o.f 2 nL;have x3:=H4.o.c3;have xf3:=H4.o.f 3 nL;have x4:=H4.o.c4;have xf4:=H4.o.f 4 nL;have x5:=H4.o.c5;have xf5:=H4.o.f 5 nL;simp only at x0 x1 x2 x3 x4 x5;go_simp;refine kK hK (vN HB3.o (by omega) _ _ _ _ _ _) ?_;clear hK K;refine wDn ?_ _;exact⟨C1.1.size,by simp only[Act.put,pZa,pZb,pZc],vN HB3.o (by omega) _ _ _ _ _ _,H4.o.six x (U0,U1) pn (.slice none 0 0) (.slice none 0 0),by show W2.1.size<=C1.1.size;omega⟩
  ·go_simp;refine kK hK (bal HB0.o _) ?_;clear hK K;have HB1:=hI (bal HB0.o (.cells #[.string ⟨#[]⟩, .int .i64 0, .bool false, .int .i64 0, .slice none 0 0, .slice none 0 0] 40));have hs1:C0.1.size < (C0.alloc (.cells #[.string ⟨#[]⟩, .int .i64 0, .bool false, .int .i64 0, .slice none 0 0, .slice none 0 0] 40)).1.size:=by simp
   have hw0:=HB0.o.size;have H4:=hI (show qZj C0.1.size [] (0,false) 0 (.slice none 0 0) (.slice none 0 0) (C0.alloc (.cells #[.string ⟨#[]⟩, .int .i64 0, .bool false, .int .i64 0, .slice none 0 0, .slice none 0 0] 40))from qZj.new C0);generalize (C0.alloc (.cells #[.string ⟨#[]⟩, .int .i64 0, .bool false, .int .i64 0, .slice none 0 0, .slice none 0 0] 40))=C1 at *;refine wOn 2 fun K hK=>?_
   go_simp;refine(yP ⟨x.toArray⟩ _ (by have:=HX.o;simpa[ByteArray.size]using this)).mono ?_;rintro e C2 ⟨rfl,hb⟩;have hw1:=HB1.o.size;have HB2:=hI (HB1.o.trans (hb.mono HB1.o.size));have hs2:=hb.size;have H4:=hI (H4.o.below hb);refine kK hK HB2.o ?_;clear hK K hb;try simp only[Act.put,pZa,pZb,pZc]
   refine wOn 7 fun K hK=>?_
   go_simp;refine(HTY.o C2 (HB7.o.trans (HB2.o.mono hW2s))).mono ?_;rintro e C3 ⟨rfl,hb⟩;have hw2:=HB2.o.size;have HB3:=hI (HB2.o.trans (hb.mono HB2.o.size));have hs3:=hb.size;have H4:=hI (H4.o.below hb);refine kK hK HB3.o ?_;clear hK K hb;try simp only[Act.put,pZa,pZb,pZc]
   refine wOn 10 fun K hK=>?_
   go_simp;refine kK hK HB3.o ?_;clear hK K;have HB4:=HB3;refine wOn 12 fun K hK=>?_
   have x0:=H4.o.c0;have xf0:=H4.o.f 0 nL;have x1:=H4.o.c1;have xf1:=H4.o.f 1 nL;have x2:=H4.o.c2;have xf2:=H4.o.f 2 nL;have x3:=H4.o.c3;have xf3:=H4.o.f 3 nL;have x4:=H4.o.c4;have xf4:=H4.o.f 4 nL;have x5:=H4.o.c5;have xf5:=H4.o.f 5 nL;simp only at x0 x1 x2 x3 x4 x5;go_simp;refine kK hK (vN HB3.o (by omega) _ _ _ _ _ _) ?_;clear hK K;refine wDn ?_ _;exact⟨C0.1.size,by simp only[Act.put,pZa,pZb,pZc],vN HB3.o (by omega) _ _ _ _ _ _,H4.o.six x (U0,U1) pn (.slice none 0 0) (.slice none 0 0),by show W2.1.size<=C0.1.size;omega⟩
 ·rintro Nf W3 ⟨hb3,hF,hNf⟩;have hN3:=hF.lt;have hs3:=hb3.size;have HB3:=hI (HB7.o.trans (hb3.mono hW2s));have HW3:=hI (HW7.o.below hb3);have HN3:=hI (HN7.o.below hb3);have HF3:=hI hF;have hmp:=bal (Below.refl W3.1.size W3) (.map #[] 0);have HFI:=hI (show FIn Nf W3.1.size (.mk k x m ln co ks) (.slice (some ⟨g2,off2,none⟩) (pn+1+1) c) x (U0,U1) ps 0 [] (.slice none 0 0) [] w (W3.alloc (.map #[] 0))from
   ⟨HB3.o.trans (hmp.mono HB3.o.size),HN3.o.below hmp,by rw[HLN.o];exact HF3.o.below hmp,wY.made W3,⟨rfl, .inl ⟨rfl,rfl⟩⟩,fun k hk=>by simp at hk,rfl,rfl,by omega,by omega⟩)
  clear n0 n1 n2 n3 n4 n5 k0 k1 k2 k3 k4 k5 hb3 hF hmp HB3 HW3 HN3 HF3 HB7 HW7 HN7 huc HB4 HTY;try simp only[Act.put,pZa,pZb,pZc]
  have hmm:=@run_makeMap prog;go_wp2
  clear hmm;go_loopw [44] (fun i wr=>FcRel Nf W3.1.size (.mk k x m ln co ks) (.slice (some ⟨g2,off2,none⟩) (pn+1+1) c) x (U0,U1) ps w i wr) (fun i _=>ps.length - (intOf i).toNat)
  case atStart=>exact⟨0,[],_,Nat.zero_le _,rfl,HFI.o⟩
  case round =>
   obtain⟨j,acc,vv,hj,rfl,hIq⟩:=hrel;have HI:=hI hIq;have hsr:=hIq.hb.size;have hMr:=hIq.nm.lt;have h64:=hIq.k64;obtain⟨vq,vc,hvv⟩:=qZL hIq.vr;rw[hIq.hl]at hvv;subst hvv;clear hIq;by_cases hlt:j < ps.length
   ·skip
    obtain⟨qa,na,ca,hla,hca⟩:=HRP.o.2 j hlt;have hca:=hca.move (HI.o.hb.block g2 (by omega));have HST:=hI (qPW (acc:=acc) hlt);have HPJ:=hI (HPS.o ps[j] (List.getElem_mem hlt));generalize ps[j]=a at *;obtain⟨qa',ca',e,_,_,_⟩:=hla.kids;injection e with e1 e2 e3;subst e2 e1 e3;obtain⟨hax,hak⟩:=HPJ.o;obtain⟨au,ar,hau⟩:∃ u r,a.kids=u :: r:=by
     cases hk:a.kids with
     | nil=>exact absurd hk hak
     | cons u r=>exact⟨u,r,rfl⟩
    have HDE:=hI (fun w' (hb:Below w.1.size w w')=>qJc L a au ar (.slice qa a.kids.length ca) w' hau (H0.o.wtab.below hb) (by have:=hb.size;omega) (xZ.move (fun g hg hok=>⟨hok,hb.block g (by omega)⟩) a _ hla) hax);have HAX:=hI hax;have HNJ:=hI (fun b cd w'=>qQk b a (.slice qa a.kids.length ca) cd w');have HNB:=hI (Bx.new a (.slice qa a.kids.length ca) wr);have hbZ:=bal (Below.refl wr.1.size wr) (qB a (.slice qa a.kids.length ca));have HIZ:=hI (HI.o.below hbZ);have hszZ:(wr.alloc (qB a (.slice qa a.kids.length ca))).1.size=wr.1.size+1:=by simp
    have HDN:=hI (show(qZr a).name=a.text from rfl);clear hla HPJ hau hak hax hbZ;generalize hD:qZr a=D at *;clear hD;obtain⟨ak,ax,am,al,ac,aks⟩:=a;have⟨k0,k1,k2,k3,k4,k5,_⟩:=hca.a;try simp only[qZ,qB,qS,qQ.kind,qQ.text,qQ.num,qQ.line,qQ.col,qQ.kids]at *
    have hjp:(j:Int) < (pn:Nat):=by have:=HLN.o;omega
    clear hca;go_wp2_with fail
    clear k0 k1 k2 k3 k4 k5;generalize (wr.alloc _)=Z at *;refine(HNJ.o _ 45 _).mono ?_;rintro e w4 (⟨hbt,rfl,hb4⟩ | ⟨hbt,rfl,hb4⟩);rotate_left
    ·exact⟨rfl,wP.badI (ln:=al) (co:=ac) (code:=45) (by rw[HPV.o,HIZ.o.hp,HST.o,HIZ.o.hl,show decide (j < 64)=false by have:=of_decide_eq_false hbt;exact decide_eq_false (by omega)];rfl) (jW.of_below ((HIZ.o.below hb4).hb))⟩
    have hj64:j < 64:=by have:=of_decide_eq_true hbt;omega
    have HST2:=hI (HST.o.trans (by rw[HIZ.o.hl,show decide (j < 64)=true from decide_eq_true hj64];rfl:_=(jQ (qQj ax 0 acc).isNone (.mk ak ax am al ac aks) 40).bind fun _=>yH (ps.drop (j+1)) (acc++[D])));have HI4:=hI (HIZ.o.below hb4);have HN4:=hI (HNB.o.below hb4);have hs4:=hb4.size;clear hb4 hbt HIZ HNB HST;obtain⟨b0,b1,b2,b3,b4,b5⟩:=HN4.o.cells;try simp only[qQ.kind,qQ.text,qQ.num,qQ.line,qQ.col,qQ.kids]at b0 b1 b2 b3 b4 b5
    have hlk:=HI4.o.nm.look ax (by have:=HAX.o;unfold maxLen;omega);have hcases:∃ b i,(qQj ax 0 acc).isNone=!b/\qVh ax (acc.map (·.name))=b/\qVi ax (acc.map (·.name))=i:=by
     cases hl:qQj ax 0 acc with
     | none=>obtain⟨e1,e2⟩:=qXq hl;exact⟨false,_,rfl,e1,rfl⟩
     | some p=>obtain⟨p1,p2⟩:=p;obtain⟨e1,e2,_⟩:=qJL hl;exact⟨true,_,rfl,e1,rfl⟩
    obtain⟨bb,bi,hnb,eb,ei⟩:=hcases;rw[eb,ei]at hlk;have HNBB:=hI hnb;clear eb ei hnb;go_wp2_with fail
    clear hlk;refine(HNJ.o _ 40 _).mono ?_;rintro e w5 (⟨hbt,rfl,hb5⟩ | ⟨hbt,rfl,hb5⟩);rotate_left
    ·exact⟨rfl,wP.badI (ln:=al) (co:=ac) (code:=40) (by rw[HPV.o,HI4.o.hp,HST2.o,HNBB.o,hbt];rfl) (jW.of_below ((HI4.o.below hb5).hb))⟩
    have HST3:=hI (HST2.o.trans (by rw[HNBB.o,hbt];rfl:_=yH (ps.drop (j+1)) (acc++[D])));have HPN:=hI (show qZc ax 0 (acc.map (·.name))=none from qZI.1.1 (Option.isNone_iff_eq_none.1 (by rw[HNBB.o,hbt])));have HI5:=hI (HI4.o.below hb5);have HN5:=hI (HN4.o.below hb5);have hs5:=hb5.size;have hlj:=HI4.o.hl;have HLJ:=hI hlj;have hlo:=HI4.o.lo;obtain⟨w6,hrun,hm6,hg6⟩:=HI5.o.nm.store ax (by have:=HAX.o;unfold maxLen;omega) HPN.o (by rw[List.length_map];omega);rw[show((acc.map (·.name)).length:Int)=(j:Nat) by rw[List.length_map,hlj]]at hrun;clear hb5 hbt HI4 HN4 HST2 b0 b1 b2 b3 b4 b5 hlj;obtain⟨b0,b1,b2,b3,b4,b5⟩:=HN5.o.cells;try simp only[qQ.kind,qQ.text,qQ.num,qQ.line,qQ.col,qQ.kids]at b0 b1 b2 b3 b4 b5
    have hMl:=HI5.o.nm.lt;have hAM:wr.1.size≠W3.1.size:=by omega
    have HN6:=hI (show Bx wr.1.size (.mk ak ax am al ac aks) (.slice qa aks.length ca) w6 from(hg6.block wr.1.size HN5.o.lt (fun e=>hAM (by injection e))).trans HN5.o);have HI6:=hI (HI5.o.store hg6 hm6);have hs6:w5.1.size<=w6.1.size:=hg6.size;clear hg6 hm6;go_wp2
    clear hrun b0 b1 b2 b3 b4 b5;obtain⟨b0,b1,b2,b3,b4,b5⟩:=HN6.o.cells;try simp only[qQ.kind,qQ.text,qQ.num,qQ.line,qQ.col,qQ.kids]at b0 b1 b2 b3 b4 b5
    have f4:=HI6.o.fb.c4;have hrow6:w6.ownsRow (W3.1.size+1) 42 4 (.slice vq j vc) j (xD qQe acc):=by
     have h:=HI6.o.vr;unfold qQI at h;rw[HLJ.o]at h;exact h
    have hneF:some Nf≠(Value.slice vq j vc).ownBlock:=fun e=>by have:=(hrow6.lt _ e.symm).1;omega
    have hneA:some wr.1.size≠(Value.slice vq j vc).ownBlock:=fun e=>by have:=(HI.o.vr.lt _ e.symm).2;omega
    refine wRg (S:=fun w'=>∀ b,b < w6.1.size->some b≠(Value.slice vq j vc).ownBlock->w'.1[b]? = w6.1[b]?) 7 ?_;refine wTk 0 68 (.pointer (some ⟨Nf,4,none⟩)) ?_ ((fun _ _ _=>rfl)) ?_
    ·intro _ y;go_simp
    refine wTk 1 69 (.slice vq j vc) ?_ ((fun _ _ _=>rfl)) ?_
    ·intro _ y;have f4:=(cB (y _ (qJ f4) hneF)).trans f4;go_simp
    refine wTk 2 70 (.agg #[.string ⟨ak.toArray⟩, .string ⟨ax.toArray⟩, .int .u64 am, .int .i64 al, .int .i64 ac, .slice qa aks.length ca]) ?_ ((fun _ _ _=>rfl)) ?_
    ·intro _ y;have b0:=(cB (y _ (qJ b0) hneA)).trans b0;have b1:=(cB (y _ (qJ b1) hneA)).trans b1;have b2:=(cB (y _ (qJ b2) hneA)).trans b2;have b3:=(cB (y _ (qJ b3) hneA)).trans b3;have b4:=(cB (y _ (qJ b4) hneA)).trans b4;have b5:=(cB (y _ (qJ b5) hneA)).trans b5;go_simp
    refine wOn 3 fun K hK=>?_
    go_simp;refine(HDE.o _ HI6.o.hb.drew).mono ?_;rintro e w5 ⟨rfl,hb5⟩;have hb5:=zF hb5;have S5:∀ b,b < w6.1.size->some b≠(Value.slice vq j vc).ownBlock->w5.1[b]? = w6.1[b]?:=fun b hb _=>hb5.block b hb
    have hs5:=hb5.size;have HROW:=hI (show w5.ownsRow (W3.1.size+1) 42 4 (.slice vq j vc) j (xD qQe acc)from zU hrow6 (fun g hg=>hb5.block g (hrow6.lt g hg).2));have HB5:=hI hb5;unfold qXK;refine kK hK S5 ?_;clear hK K;refine wOn 4 fun K hK=>?_
    go_simp;refine kK hK (fun b hb hne=>(Below.heap_alloc w5 _ b (by omega)).trans (S5 b hb hne)) ?_;clear hK K;refine wOn 5 fun K hK=>?_
    refine qQJ (lo:=W3.1.size+1) (dd:=73) (news:=qQe D) underlying27 info42 (by decide) rfl (by decide) _ _ rfl rfl HROW.o (by omega) rfl rfl rfl rfl (qVo _) (by omega) (fun v9 w9 ho9 hg9 hbk9=>?_);obtain⟨q9,c9,rfl⟩:∃ q c,v9=.slice q (j+1) c:=by
     rcases ho9.2 with⟨_,h0⟩ | ⟨g,cap,cur,rfl,_⟩
     ·omega
     ·exact⟨_,_,rfl⟩
    have S9:∀ b,b < w6.1.size->some b≠(Value.slice vq j vc).ownBlock->w9.1[b]? = w6.1[b]?:=fun b hb hne=>(hg9.block b (by simp;omega) hne).trans ((Below.heap_alloc w5 _ b (by omega)).trans (S5 b hb hne))
    refine kK hK S9 ?_;clear hK K;refine wOn 6 fun K hK=>?_
    go_simp;refine kK hK S9 ?_;clear hK K;have f49:=(cB (S9 Nf HI6.o.fb.lt hneF)).trans f4;have ff9:w9.frozen? ⟨Nf,4,none⟩=false:=(World.frozen?_of_block (S9 Nf HI6.o.fb.lt hneF)).trans (HI6.o.fb.f 4 nL);have hs9:w5.1.size+1<=w9.1.size:=by have:=hg9.size;simpa using this
    refine wOn 7 fun K hK=>?_
    go_simp;refine kD hK ?_;clear hK K;refine wDn ?_ _;have HO9:=hI ho9;have HG9:=hI hg9;have HS9:=hI S9;have hbb:=HB5.o;clear f4 f49 ff9 b0 b1 b2 b3 b4 b5 ho9 hg9 S9 S5 hb5;go_wp2
    have hjw:IntKind.i64.wrap ((j:Int)+1)=((j+1:Nat):Int):=by rw[IntWalk.i64_in _ (by omega)];omega
    try rw[hjw]
    refine⟨⟨j+1,acc++[D], .slice q9 (j+1) c9,by omega,rfl,HI6.o.more (by omega) (HG9.o.os.trans hbb.os) (HG9.o.tape.trans hbb.tape) (HG9.o.output.trans hbb.output) HS9.o HO9.o (by rw[List.map_append];show _=_++[D.name];rw[HDN.o]) (HI6.o.di.snoc (by rw[HDN.o];exact HPN.o) (by rw[HDN.o];exact HAX.o)) (HI6.o.hp.trans HST3.o) hj64⟩,?_⟩;simp only[intOf];omega
   ·skip
    have hjn:j=ps.length:=by omega
    have HPL:yH ps []=.ok acc:=HI.o.hp.trans (by rw[hjn,List.drop_length,yH]);have HPW:=hI (HPV.o.trans (by rw[HPL];show CR.ok _=CR.ok _;rw[List.map_append];rfl:_=.ok ⟨gs,(fs++[(⟨⟨x,(U0,U1),acc⟩,acc, .slice vq j vc, .slice none 0 0⟩:FnM)]).map (fun f=>f.h)⟩));have hjp:(pn:Int)<=(j:Nat):=by have:=HLN.o;omega
    have HWr:=hI (H0.o.below HI.o.hb);have c1:=HWr.o.c1;rw[HFV.o]at c1;have c4:=HWr.o.c4;have f0:=HI.o.fb.c0;have HAL:=hI (show acc.length=pn by rw[HI.o.hl,hjn,HLN.o]);have HNEW:=hI (show fnC (⟨⟨x,(U0,U1),acc⟩,acc, .slice vq j vc, .slice none 0 0⟩:FnM)=[.string ⟨x.toArray⟩, .int .i64 U0, .bool U1, .int .i64 pn, .slice vq j vc, .slice none 0 0] by unfold fnC;rw[show(⟨⟨x,(U0,U1),acc⟩,acc, .slice vq j vc, .slice none 0 0⟩:FnM).h.params.length=pn from HAL.o]);have hlo:=H0.o.lo;have hlo2:=HI.o.lo;obtain⟨w6,hrun,hm6,hg6⟩:=(HWr.o.fm.below (Below.refl _ _).drew).store x (by have:=HX.o;unfold maxLen;omega) HPOS.o.2 (by simp only[List.length_map];rw[<-HFL.o];omega);rw[show(((fs.map (fun f=>f.h)).map (·.name)).length:Int)=(fl:Nat) by rw[List.length_map,List.length_map,HFL.o]]at hrun;clear hjn HPL;go_wp2
    refine wRg (S:=fun w'=>Below wr.1.size wr w') 12 ?_;refine wTk 0 76 (.pointer (some ⟨B,0,none⟩)) ?_ (bD wr) ?_
    ·intro _ y;go_simp
    refine wTk 1 77 (.pointer (some ⟨B,0,none⟩)) ?_ (bD wr) ?_
    ·intro _ y;go_simp
    refine wTk 2 78 (.pointer (some ⟨B,4,none⟩)) ?_ (bD wr) ?_
    ·intro _ y;go_simp
    refine wTk 3 79 (.map (some Mf)) ?_ (bD wr) ?_
    ·intro _ y;have c4:=kP y c4;have f0:=kP y f0;go_simp
    refine wTk 4 80 (.pointer (some ⟨Nf,0,none⟩)) ?_ (bD wr) ?_
    ·intro _ y;go_simp
    refine wTk 5 81 (.string ⟨x.toArray⟩) ?_ (bD wr) ?_
    ·intro _ y;have f0:=kP y f0;go_simp
    refine wTk 6 82 (.pointer (some ⟨B,0,none⟩)) ?_ (bD wr) ?_
    ·intro _ y;go_simp
    refine wTk 7 83 (.pointer (some ⟨B,0,none⟩)) ?_ (bD wr) ?_
    ·intro _ y;go_simp
    refine wTk 8 84 (.pointer (some ⟨B,0,none⟩)) ?_ (bD wr) ?_
    ·intro _ y;go_simp
    refine wTk 9 85 (.pointer (some ⟨B,1,none⟩)) ?_ (bD wr) ?_
    ·intro _ y;go_simp
    refine wTk 10 86 (.slice fq fl fc) ?_ (bD wr) ?_
    ·intro _ y;have c1:=kP y c1;go_simp
    refine wTk 11 87 (.int .i64 fl) ?_ (bD wr) ?_
    ·intro _ y;go_simp
    refine wOn 12 fun K hK=>?_
    go_simp;refine kD hK ?_;clear hK K;refine wDn ?_ _;have hM:=HWr.o.fm.isMap;have HK6:=hI (show ∀ b,b < wr.1.size->b≠Mf->w6.1[b]? = wr.1[b]? from fun b hb hne=>hg6.block b hb (fun e=>hne (by injection e)));have hMfl:=H0.o.fm.lt;have hBM:B≠Mf:=(vU hM HWr.o.kb).symm;have hNM:Nf≠Mf:=by omega
    have kc:∀ {b o u},b < wr.1.size->b≠Mf->wr.cell? ⟨b,o,none⟩=some u->w6.cell? ⟨b,o,none⟩=some u:=fun hb hne hc=>(cB (HK6.o _ hb hne)).trans hc
    have hBr:B < wr.1.size:=qJ HWr.o.c1;have hNr:=HI.o.fb.lt;have c1:=kc hBr hBM c1;have f0:=kc hNr hNM HI.o.fb.c0;have f1:=kc hNr hNM HI.o.fb.c1;have f2:=kc hNr hNM HI.o.fb.c2;have f3:=kc hNr hNM HI.o.fb.c3;have f4:=kc hNr hNM HI.o.fb.c4;have f5:=kc hNr hNM HI.o.fb.c5;rw[HLN.o]at f3;try simp only at f1 f2
    have hr0:w.ownsRow L 40 6 (.slice fq fl fc) fl (xD fnC fs):=by
     have hr:=H0.o.frow;rw[HFV.o,<-HFL.o]at hr;exact hr
    have hrZ:wr.ownsRow L 40 6 (.slice fq fl fc) fl (xD fnC fs):=by
     have hr:=HWr.o.frow;rw[HFV.o,<-HFL.o]at hr;exact hr
    have hvk:∀ g,(Value.slice fq fl fc).ownBlock=some g->jX wr g 40/\g < w.1.size:=fun g hg=>⟨zE hrZ hg,(hr0.lt g hg).2⟩
    have hneB:some B≠(Value.slice fq fl fc).ownBlock:=fun e=>(HWr.o.kb.ne (hvk B e.symm).1 (by decide)) rfl
    have hneF:some Nf≠(Value.slice fq fl fc).ownBlock:=fun e=>by have:=(hvk _ e.symm).2;omega
    have HROW:=hI (show w6.ownsRow L 40 6 (.slice fq fl fc) fl (xD fnC fs)from zU hrZ (fun g hg=>HK6.o g (by have:=(hvk g hg).2;omega) (vU hM (hvk g hg).1).symm));have hs6:wr.1.size<=w6.1.size:=hg6.size;have HG6:=hI hg6;have HM6:=hI hm6;clear hg6 hm6 kc hrun c4 hr0 hrZ;go_wp2
    refine wRg (S:=fun w'=>∀ b,b < w6.1.size->some b≠(Value.slice fq fl fc).ownBlock->w'.1[b]? = w6.1[b]?) 12 ?_;refine wTk 0 88 (.pointer (some ⟨B,0,none⟩)) ?_ ((fun _ _ _=>rfl)) ?_
    ·intro _ y;go_simp
    refine wTk 1 89 (.pointer (some ⟨B,0,none⟩)) ?_ ((fun _ _ _=>rfl)) ?_
    ·intro _ y;go_simp
    refine wTk 2 90 (.pointer (some ⟨B,0,none⟩)) ?_ ((fun _ _ _=>rfl)) ?_
    ·intro _ y;go_simp
    refine wTk 3 91 (.pointer (some ⟨B,0,none⟩)) ?_ ((fun _ _ _=>rfl)) ?_
    ·intro _ y;go_simp
    refine wTk 4 92 (.pointer (some ⟨B,1,none⟩)) ?_ ((fun _ _ _=>rfl)) ?_
    ·intro _ y;go_simp
    refine wTk 5 93 (.slice fq fl fc) ?_ ((fun _ _ _=>rfl)) ?_
    ·intro _ y;have c1:=(cB (y _ (qJ c1) hneB)).trans c1;go_simp
    refine wTk 6 94 (.agg #[.string ⟨x.toArray⟩, .int .i64 U0, .bool U1, .int .i64 pn, .slice vq j vc, .slice none 0 0]) ?_ ((fun _ _ _=>rfl)) ?_
    ·intro _ y;have f0:=(cB (y _ (qJ f0) hneF)).trans f0;have f1:=(cB (y _ (qJ f1) hneF)).trans f1;have f2:=(cB (y _ (qJ f2) hneF)).trans f2;have f3:=(cB (y _ (qJ f3) hneF)).trans f3;have f4:=(cB (y _ (qJ f4) hneF)).trans f4;have f5:=(cB (y _ (qJ f5) hneF)).trans f5;go_simp
    refine wOn 7 fun K hK=>?_
    go_simp;refine kK hK (fun b hb _=>Below.heap_alloc w6.drew _ b hb) ?_;clear hK K;refine wOn 8 fun K hK=>?_
    refine qQJ (lo:=L) (dd:=96) (news:=[.string ⟨x.toArray⟩, .int .i64 U0, .bool U1, .int .i64 pn, .slice vq j vc, .slice none 0 0]) underlying28 info40 (by decide) rfl (by decide) _ _ rfl rfl HROW.o.drew (by simp;omega) rfl rfl rfl rfl (by rw[<-HNEW.o];exact fnC_one _ rfl rfl) (by omega) (fun v9 w9 ho9 hg9 hbk9=>?_);obtain⟨q9,c9,rfl⟩:∃ q c,v9=.slice q (fl+1) c:=by
     rcases ho9.2 with⟨_,h0⟩ | ⟨g,cap,cur,rfl,_⟩
     ·omega
     ·exact⟨_,_,rfl⟩
    have S9:∀ b,b < w6.1.size->some b≠(Value.slice fq fl fc).ownBlock->w9.1[b]? = w6.1[b]?:=fun b hb hne=>(hg9.block b (by simp;omega) hne).trans (Below.heap_alloc w6.drew _ b hb)
    refine kK hK S9 ?_;clear hK K;refine wOn 9 fun K hK=>?_
    go_simp;refine kK hK S9 ?_;clear hK K;refine wOn 10 fun K hK=>?_
    go_simp;refine kK hK S9 ?_;clear hK K;refine wOn 11 fun K hK=>?_
    go_simp;refine kK hK S9 ?_;clear hK K;have hB6:B < w6.1.size:=qJ c1;have c19:=(cB (S9 B hB6 hneB)).trans c1;have f19:w9.frozen? ⟨B,1,none⟩=false:=(World.frozen?_of_block (S9 B hB6 hneB)).trans ((World.frozen?_of_block (HK6.o B hBr hBM)).trans (HWr.o.bf 1 (by omega)));have hs9:w6.1.size+1<=w9.1.size:=by have:=hg9.size;simpa using this
    refine wOn 12 fun K hK=>?_
    go_simp;refine kD hK ?_;clear hK K;refine wDn ?_ _;have HO9:=hI ho9;have HG9:=hI hg9;have HBK9:=hI hbk9;have HS9:=hI S9;have HC9:=hI c19;clear c1 f0 f1 f2 f3 f4 f5 c19 f19 ho9 hg9 hbk9 S9;go_wp2
    go_end0;have hxk:∀ b,b < wr.1.size->b≠Mf->some b≠(Value.slice fq fl fc).ownBlock->w9.1[b]? = wr.1[b]?:=fun b hb h2 h3=>(HS9.o b (by omega) h3).trans (HK6.o b hb h2)
    have base:∀ b,b < w.1.size->b≠B->b≠Mf->some b≠fv.ownBlock->(w9.setCell ⟨B,1,none⟩ (.slice q9 (fl+1) c9)).1[b]? = w.1[b]?:=fun b hb h1 h2 h3=>by
     rw[hS _ _ _ _ h1];refine(hxk b (by omega) h2 ?_).trans (HI.o.hb.block b hb);rw[<-HFV.o];exact h3
    have hwb:=HI.o.hb;have hT:jW L w (w9.setCell ⟨B,1,none⟩ (.slice q9 (fl+1) c9)):=⟨(rfl:(w9.setCell ⟨B,1,none⟩ (.slice q9 (fl+1) c9)).os=w9.os).trans (HG9.o.os.trans (HG6.o.os.trans hwb.os)),by simpa using HG9.o.tape.trans (HG6.o.tape.trans hwb.tape),(rfl:(w9.setCell ⟨B,1,none⟩ (.slice q9 (fl+1) c9)).output=w9.output).trans (HG9.o.output.trans (HG6.o.output.trans hwb.output)),by simp;omega,fun b hb hbL=>base b hb (by omega) (by omega) (fun e=>by have:=(H0.o.frow.lt b e.symm).1;omega)⟩;refine wP.okI (gv:=gv) (fv:=.slice q9 (fl+1) c9) HPW.o ?_ hT;have hBW9:(w9.setCell ⟨B,1,none⟩ (.slice q9 (fl+1) c9)).1.size=w9.1.size:=by simp
    have hnB:∀ g,(Value.slice vq j vc).ownBlock=some g->g≠B:=fun g hg=>by have:=(HI.o.vr.lt g hg).1;omega
    refine H0.o.func (fv':=.slice q9 (fl+1) c9) (f:=⟨⟨x,(U0,U1),acc⟩,acc, .slice vq j vc, .slice none 0 0⟩) (by rw[hBW9];omega) base (World.cell?_setCell_same _ _ _ HC9.o) ?_ ?_ ?_ ?_ ?_ ?_ ?_ ⟨rfl,HI.o.di,by show acc.length<=64;rw[HI.o.hl];exact HI.o.k64⟩ (by rw[<-HFL.o];exact hle)
    ·intro o ho;exact((World.cell?_setCell_other _ _ _ _ (by simpa using Ne.symm ho)).trans (cB (hxk B hBr hBM hneB))).trans (cB (hwb.block B hBw))
    ·intro o;exact((World.frozen?_setCell _ _ _ _).trans (World.frozen?_of_block (hxk B hBr hBM hneB))).trans (World.frozen?_of_block (hwb.block B hBw))
    ·exact(HWr.o.kb.turn (hxk B hBr hBM hneB)).set _ _ _
    ·refine wY.kept HM6.o ?_;rw[hS _ _ _ _ hBM.symm];exact HS9.o Mf (by omega) (fun e=>vU hM (hvk Mf e.symm).1 rfl)
    ·rw[<-HFL.o,HNEW.o];refine zU HO9.o (fun g hg=>hS _ _ _ _ ?_);rcases HBK9.o with h1 | h1
     ·rw[h1]at hg;exact(HWr.o.kb.ne (hvk g hg).1 (by decide)).symm
     ·rw[h1]at hg;injection hg with hg;simp at hg;show g≠B
      omega
    ·refine qX2 (zU HI.o.vr (fun g hg=>?_)) (by omega);have h1:=HI.o.vr.lt g hg;exact(hS _ _ _ _ (hnB g hg)).trans (hxk g h1.2 (by omega) (fun e=>by have:=(hvk g e.symm).2;omega))
    ·intro g hg;have:=(HI.o.vr.lt g hg).1;omega
def HdOk(t:qQ):Prop:=t.text.length<=1000000/\t.kids.length<=1000000/\((t.kind == qC)=true->∃ u ps z,t.kids=u :: (ps++[z])/\∀ a∈ps,a.text.length<=1000000/\a.kids≠[]) /\
 ((t.kind == qC)=false->(∃ u r,t.kids=u :: r)/\(((yE t).kind == zD)=false->(yE t).num=0)/\0<=(yE t).num/\(yE t).num < 18446744073709551616)
theorem wP.cases{B L Mg Mf Mr:Nat}{cl:vE}{p:CR HdS}{w w':World}{e:Ending}(h:wP B L Mg Mf Mr cl p w e w') :
 (∃ gs fs gv fv,p=.ok ⟨gs,fs.map (fun f=>f.h)⟩/\e=.returned (.tuple #[])/\HIn B L gs fs gv fv Mg Mf Mr cl (yV gs) w'/\jW L w w')\/∃ ln co code,p=.bad ln co code/\e=.panicked [{ v:=xO ln co code,recovered:=false }]/\jW L w w':=by
 cases p with
 | ok S=>obtain⟨h1,fs,gv,fv,h2,h3,h4⟩:=h;obtain⟨gs,hs⟩:=S;exact .inl ⟨gs,fs,gv,fv,by rw[show hs=_ from h2],h1,h3,h4⟩
 | bad ln co code=>exact .inr ⟨ln,co,code,rfl,h.1,h.2⟩
theorem qPI{ts:List qQ}{k:Nat}{S:HdS}(h:k < ts.length):yS (ts.drop k) S=(if ts[k].kind == qC then wF S ts[k]else qZ9 S ts[k]).bind fun S'=>yS (ts.drop (k+1)) S':=by
 rw[List.drop_eq_getElem_cons h,yS]
def HdRel(B L Mg Mf Mr:Nat)(cl:vE)(ts:List qQ)(S0:HdS)(W:World)(i:Value)(wr:World):Prop :=
 ∃ (k:Nat) (gs:List qI) (fs:List FnM) (gv fv:Value),k<=ts.length/\i=.int .i64 k/\HIn B L gs fs gv fv Mg Mf Mr cl (yV gs) wr/\jW L W wr/\yS ts S0=yS (ts.drop k) ⟨gs,fs.map (fun f=>f.h)⟩
theorem heads_any(B L:Nat)(gs0:List qI)(fs0:List FnM)(gv0 fv0:Value)(Mg Mf Mr:Nat)(cl:vE)(ts:List qQ)(q:Option Addr)(c:Nat)(W:World)(h:HIn B L gs0 fs0 gv0 fv0 Mg Mf Mr cl (yV gs0) W)(hL:L<=W.1.size)(hK:yD L W ts q)(hlen:ts.length<=1000000)
 (hok:∀ t∈ts,HdOk t) :
 Calls prog 65 #[.pointer (some ⟨B,0,none⟩), .slice q ts.length c] W (wP B L Mg Mf Mr cl (yS ts ⟨gs0,fs0.map (fun f=>f.h)⟩) W):=by
 have H0:=hI h;have HK:=hI hK;have HOK:=hI hok;have hBW:B < W.1.size:=qJ h.c0;clear h hK hok;go_enter func65,ntmps65
 go_wp2
 go_loopw [8] (fun i wr=>HdRel B L Mg Mf Mr cl ts ⟨gs0,fs0.map (fun f=>f.h)⟩ W i wr) (fun i _=>ts.length - (intOf i).toNat)
 case atStart=>exact⟨0,gs0,fs0,gv0,fv0,Nat.zero_le _,rfl,H0.o,jW.refl _ _,rfl⟩
 case round =>
  obtain⟨k,gs,fs,gv,fv,hk,rfl,hH,hT,hP⟩:=hrel;have HH:=hI hH;have HT:=hI hT;have HP:=hI hP;have hts:=hT.size;clear hH hT hP;by_cases hlt:k < ts.length
  ·obtain⟨g,off,rfl,hRN⟩:=(HK.o.low hL HT.o.block).resolve_left (fun e=>by rw[e]at hlt;simp at hlt);obtain⟨qa,na,ca,hla,hca⟩:=hRN.2 k hlt;have⟨k0,k1,k2,k3,k4,k5,_⟩:=hca.a;have HNB:=hI (Bx.new ts[k] (.slice qa na ca) wr);have HBA:=hI (bal (Below.refl wr.1.size wr) (qB ts[k] (.slice qa na ca)));have hszA:(wr.alloc (qB ts[k] (.slice qa na ca))).1.size=wr.1.size+1:=by simp
   have HLA:=hI (show xZ (wr.alloc (qB ts[k] (.slice qa na ca))) (· < L) ts[k] (.slice qa na ca)from xZ.move (fun g hg hok=>⟨hok,HBA.o.block g hg⟩) _ _ hla);have HH2:=hI (HH.o.below HBA.o);have HST:=hI (qPI (S:=⟨gs,fs.map (fun f=>f.h)⟩) hlt);have HO:=hI (HOK.o ts[k] (List.getElem_mem hlt));have hkl:(k:Int) < (ts.length:Nat):=by omega
   clear hca hla hRN;generalize hu:ts[k]=u at *;clear hu;have HTT:=hI (HT.o.trans (jW.of_below (L:=L) HBA.o));have hsL:L<=(wr.alloc (qB u (.slice qa na ca))).1.size:=by omega
   have HFU:=hI (fun(hkf:(u.kind == qC)=true)=>by
    obtain⟨h1,h2,h3,_⟩:=HO.o;obtain⟨a,ps,z,e1,e2⟩:=h3 hkf;exact qUN B L gs fs gv fv Mg Mf Mr cl u a z ps (.slice qa na ca) _ HH2.o hsL e1 HLA.o h1 h2 e2)
   have HGL:=hI (fun(hkf:(u.kind == qC)=false)=>by
    obtain⟨h1,h2,_,h3⟩:=HO.o;obtain⟨⟨a,r,e1⟩,e2,e3⟩:=h3 hkf;exact qL8 B L gs fs gv fv Mg Mf Mr cl u a r (.slice qa na ca) _ HH2.o hsL e1 HLA.o h1 h2 e2 e3)
   obtain⟨uk,ux,um,ul,uc,uks⟩:=u;cases hkf:(uk == qC);case true =>
    have HFU:=hI (HFU.o hkf);have HST:=hI (HST.o.trans (by rw[show((qQ.mk uk ux um ul uc uks).kind == qC)=true from hkf];rfl:_=(wF ⟨gs,fs.map (fun f=>f.h)⟩ (.mk uk ux um ul uc uks)).bind fun S'=>yS (ts.drop (k+1)) S'));unfold qC at hkf;clear HGL HO HLA;simp only[qS,qZ,qB,qQ.kind,qQ.text,qQ.num,qQ.line,qQ.col,qQ.kids]at *;go_wp2_with fail
    refine(HFU.o).mono ?_;rintro e w7 hX;rcases hX.cases with⟨gs',fs',gv',fv',hp,rfl,hH7,hT7⟩ | ⟨l',c',code,hp,rfl,hT7⟩;rotate_left
    ·exact⟨rfl,wP.badI (by rw[HP.o,HST.o,hp];rfl) (HTT.o.trans hT7)⟩
    have hPP:=HP.o.trans (HST.o.trans (by rw[hp];rfl:_=yS (ts.drop (k+1)) ⟨gs',fs'.map (fun f=>f.h)⟩));have HPP:=hI hPP;have HT7:=hI (HTT.o.trans hT7);have HH7:=hI hH7;clear hX hp hH7 hT7 hPP HFU HST HTT HH2 HNB HBA hsL hszA k0 k1 k2 k3 k4 k5;go_wp2
    refine⟨⟨k+1,gs',fs',gv',fv',by omega,rfl,HH7.o,HT7.o,HPP.o⟩,?_⟩;simp only[intOf];omega
   case false =>
    have HGL:=hI (HGL.o hkf);have HST:=hI (HST.o.trans (by rw[show((qQ.mk uk ux um ul uc uks).kind == qC)=false from hkf];rfl:_=(qZ9 ⟨gs,fs.map (fun f=>f.h)⟩ (.mk uk ux um ul uc uks)).bind fun S'=>yS (ts.drop (k+1)) S'));unfold qC at hkf;clear HFU HO HLA;simp only[qS,qZ,qB,qQ.kind,qQ.text,qQ.num,qQ.line,qQ.col,qQ.kids]at *;go_wp2_with fail
    refine(HGL.o).mono ?_;rintro e w7 hX;rcases hX.cases with⟨gs',fs',gv',fv',hp,rfl,hH7,hT7⟩ | ⟨l',c',code,hp,rfl,hT7⟩;rotate_left
    ·exact⟨rfl,wP.badI (by rw[HP.o,HST.o,hp];rfl) (HTT.o.trans hT7)⟩
    have hPP:=HP.o.trans (HST.o.trans (by rw[hp];rfl:_=yS (ts.drop (k+1)) ⟨gs',fs'.map (fun f=>f.h)⟩));have HPP:=hI hPP;have HT7:=hI (HTT.o.trans hT7);have HH7:=hI hH7;clear hX hp hH7 hT7 hPP HGL HST HTT HH2 HNB HBA hsL hszA k0 k1 k2 k3 k4 k5;go_wp2
    refine⟨⟨k+1,gs',fs',gv',fv',by omega,rfl,HH7.o,HT7.o,HPP.o⟩,?_⟩;simp only[intOf];omega
  ·have hke:k=ts.length:=by omega
   subst hke;have HPP:=hI (HP.o.trans (by rw[List.drop_length,yS]:_=.ok ⟨gs,fs.map (fun f=>f.h)⟩));go_wp2
   go_end0;exact wP.okI HPP.o HH.o HT.o
open Go Go.RowKit Go.Maps Go.WideMaps
def qQG(w:World)(b:Nat)(R:List (List UInt8×Nat))(c:vE):Prop :=
 ∃ D:DataW Value,w.ownsMap prog 9 qWY b R.length D/\IsMap D/\∀ x r,kE x R=some r->∀ z,D.atKey (.string x) z=.held (qKr c r)
theorem qQG.lt{w:World}{b:Nat}{R:List (List UInt8×Nat)}{c:vE}(h:qQG w b R c):b < w.1.size:=by
 obtain⟨D,h1,_⟩:=h;exact h1.lt
theorem qQG.kept{w w':World}{b:Nat}{R:List (List UInt8×Nat)}{c:vE}(h:qQG w b R c)(hb:w'.1[b]? = w.1[b]?):qQG w' b R c:=by
 obtain⟨D,⟨es,k,h1,h2⟩,h3⟩:=h;exact⟨D,⟨es,k,hb.trans h1,h2⟩,h3⟩
theorem qQG.isMap{w:World}{b:Nat}{R:List (List UInt8×Nat)}{c:vE}(h:qQG w b R c):∃ es k,w.1[b]? = some (Obj.map es k):=by
 obtain⟨D,⟨es,k,h1,_⟩,_⟩:=h;exact⟨es,k,h1⟩
theorem qQG.made(w:World)(c:vE):qQG (w.alloc (.map #[] 0)) w.1.size [] c :=
 ⟨.map [],World.ownsMap_made w _ _ _,isMap_empty,fun x r h=>by simp[kE]at h⟩
theorem qQG.full{w:World}{b:Nat}{c:vE}(h:qQG w b qQP c):qJs w b c:=by
 obtain⟨D,h1,_,h3⟩:=h;exact⟨_,D,h1,by decide,h3⟩
theorem qKq{x y:List UInt8}{r:Nat}:∀ {R:List (List UInt8×Nat)},kE y (R++[(x,r)])=match kE y R with | some q=>some q | none=>if x == y then some r else none
 | []=>by simp[kE]
 | (z,q) :: R=>by
  rw[lC,kE,kE];by_cases h:(z == y)=true
  ·rw[if_pos h,if_pos h]
  ·rw[if_neg h,if_neg h,qKq]
theorem qQG.put{w:World}{b:Nat}{R:List (List UInt8×Nat)}{c:vE}(h:qQG w b R c)(x:List UInt8)(r:Nat)(hx:x.length<=maxLen)(hn:kE x R=none)(hl:R.length < 1000) :
 ∃ w',(Instr.mapUpdate 118 (.map (some b)) (.string ⟨x.toArray⟩) (qKr c r)).run prog w=.ok () w'/\qQG w' b (R++[(x,r)]) c/\w.grownBy w' (some b):=by
 obtain⟨D,h1,h2,h3⟩:=h;have hkey:keyOf prog 9 (.string ⟨x.toArray⟩)=some (.string x):=keyOf_string_mk underlying9 (by simpa[ByteArray.size]using hx);obtain⟨w',hrun,hown,hg⟩:=h1.update Tryz.strKey underlying118 (by unfold maxLen;omega) hkey (d:=.held (qKr c r)) (ps:=[]) (val:=qKr c r) rfl;refine⟨w',hrun,⟨_,by simpa using hown,h2.put _ _,fun y q hy=>?_⟩,hg⟩;rw[qKq]at hy;by_cases hyx:x=y
 ·subst hyx;rw[hn]at hy;simp only[beq_self_eq_true,if_true,Option.some.injEq]at hy;subst hy;intro z;rw[atKey_put_same (k:=.string x) h2 trivial]
 ·have hne:(Lit.string y)≠.string x:=fun e=>hyx (Lit.string.inj e).symm
  intro z;rw[atKey_put_other hne];refine h3 y q ?_ z;cases hf:kE y R with
  | some q'=>rw[hf]at hy;exact hy
  | none=>rw[hf]at hy;simp[hyx]at hy
def PutRel(Mr:Nat)(c:vE)(R:List (List UInt8×Nat))(xs:List (List UInt8))(r:Nat)(W:World)(i:Value)(wr:World):Prop :=
 ∃ j:Nat,j<=xs.length/\i=.int .i64 j/\qQG wr Mr (R++(xs.take j).map fun x=>(x,r)) c/\W.grownBy wr (some Mr)
theorem cput_any(c:vE)(r f:Nat)(caps:Array Value)(xs:List (List UInt8))(g N8 Mr:Nat)(R:List (List UInt8×Nat))(w:World)(hf:qUZ c r=.func (.func f) #[] caps)(hM:w.cell? ⟨N8,0,none⟩=some (.map (some Mr)))(hR:qQG w Mr R c)
 (hxs:∀ i (h:i < xs.length),w.cell? ⟨g,i,none⟩=some (.string ⟨xs[i].toArray⟩)) (hl:∀ x∈xs,x.length<=1000) (hn:∀ i (h:i < xs.length),kE xs[i] (R++(xs.take i).map fun x=>(x,r))=none) (hR9:R.length+xs.length<=900) :
 Calls prog 84 #[.agg #[.bool (decide (r<=2)), .func (.func f) #[] caps], .slice (some ⟨g,0,none⟩) xs.length xs.length, .pointer (some ⟨N8,0,none⟩)] w fun e w'=>e=.returned (.tuple #[])/\qQG w' Mr (R++xs.map fun x=>(x,r)) c/\w.grownBy w' (some Mr):=by
 have hV:qKr c r=.agg #[.bool (decide (r<=2)), .func (.func f) #[] caps]:=by unfold qKr;rw[hf]
 have HV:=hI hV;generalize decide (r<=2)=bb at *;have HB:=hI (bal (Below.refl w.1.size w) (.cells #[.bool bb, .func (.func f) #[] caps] 140));have r0:(w.alloc (.cells #[.bool bb, .func (.func f) #[] caps] 140)).cell? ⟨w.1.size,0,none⟩=some (.bool bb):=by simp[go_sem]
 have r1:(w.alloc (.cells #[.bool bb, .func (.func f) #[] caps] 140)).cell? ⟨w.1.size,1,none⟩=some (.func (.func f) #[] caps):=by simp[go_sem]
 have HR:=hI (hR.kept (HB.o.block Mr hR.lt));have hM8:N8≠Mr:=fun e=>by
  subst e;obtain⟨es,k,h1⟩:=hR.isMap;simp[World.cell?,h1]at hM
 have hMl:=hR.lt;have hsz:(w.alloc (.cells #[.bool bb, .func (.func f) #[] caps] 140)).1.size=w.1.size+1:=by simp
 have m8:=(HB.o.cell (p:=⟨N8,0,none⟩) (qJ hM)).trans hM;have HXS:=hI (fun i h=>(HB.o.cell (p:=⟨g,i,none⟩) (qJ (hxs i h))).trans (hxs i h));have hgM:0 < xs.length->g≠Mr:=fun h0 e=>by
  have:=hxs 0 h0;subst e;obtain⟨es,k,h1⟩:=hR.isMap;simp[World.cell?,h1]at this
 have HL:=hI hl;have HN:=hI hn;have hxl:xs.length<=900:=by omega
 have HG:=hI (World.grownBy_alloc w (.cells #[.bool bb, .func (.func f) #[] caps] 140) (some Mr));clear hV hf hM hR hxs hl hn;go_enter func84,ntmps84
 go_wp2
 generalize (w.alloc _)=W at *;go_loopw [9] (fun i wr=>PutRel Mr c R xs r W i wr) (fun i _=>xs.length - (intOf i).toNat)
 case atStart=>exact⟨0,Nat.zero_le _,rfl,by simpa using HR.o,jS _ _⟩
 case round =>
  obtain⟨j,hj,rfl,hR,hg⟩:=hrel;have HRJ:=hI hR;have HGJ:=hI hg;have hgs:=hg.size;clear hR hg;by_cases hlt:j < xs.length
  ·have hjl:(j:Int) < (xs.length:Nat):=by omega
   have kc:∀ {b o:Nat} {u:Value},b≠Mr->W.cell? ⟨b,o,none⟩=some u->wr.cell? ⟨b,o,none⟩=some u:=fun hne hc=>(cB (HGJ.o.block _ (qJ hc) (fun e=>hne (by injection e)))).trans hc
   have m8:=kc hM8 m8;have r0:=kc (by omega) r0;have r1:=kc (by omega) r1;have xj:=kc (hgM (by omega)) (HXS.o j hlt);have HNJ:=hI (HN.o j hlt);have HLJ:=hI (HL.o xs[j] (List.getElem_mem hlt));have HTK:=hI (show(xs.take (j+1)).map (fun x=>(x,r))=(xs.take j).map (fun x=>(x,r))++[(xs[j],r)] by rw[List.take_succ_eq_append_getElem hlt,List.map_append];rfl);generalize xs[j]=y at *;obtain⟨w6,hrun,hr6,hg6⟩:=HRJ.o.put y r (by have:=HLJ.o;unfold maxLen;omega) HNJ.o (by simp;omega);rw[HV.o]at hrun;have HR6:=hI hr6;have HG6:=hI (qR HGJ.o hg6);clear hr6 hg6 kc;go_wp2
   have hjw:IntKind.i64.wrap ((j:Int)+1)=((j+1:Nat):Int):=by rw[IntWalk.i64_in _ (by omega)];omega
   try rw[hjw]
   refine⟨⟨j+1,by omega,rfl,by rw[HTK.o,<-List.append_assoc];exact HR6.o,HG6.o⟩,?_⟩;simp only[intOf];omega
  ·have hje:j=xs.length:=by omega
   have hjl:(xs.length:Int)<=(j:Nat):=by omega
   have HRF:=hI (show qQG wr Mr (R++xs.map fun x=>(x,r)) c by have:=HRJ.o;rw[hje,List.take_length]at this;exact this);clear hje;go_wp2
   go_end0;exact⟨rfl,HRF.o,qR HG.o HGJ.o⟩
end Go.Proofs.YtiajhekdhhhghaaGreatDoor
