/- Walks. -/
import Derived.Test.YtiajhekdhhhghaaGreatDoorMao
set_option linter.all false
set_option maxHeartbeats 8000000
set_option maxRecDepth 100000
namespace Go.Proofs.YtiajhekdhhhghaaGreatDoor
open Tryz Go.Proofs.Tryz
open Go Go.RowKit
def GBox(D:qI)(lk lx:List UInt8)(lm ll lc:Int)(lv:Value)(W:World)(x:Nat×Nat)(w':World):Prop :=
 Below W.1.size W w'/\qQB x.1 D w'/\zI x.2 lk lx lm ll lc lv w'/\W.1.size<=x.1/\W.1.size<=x.2/\x.1≠x.2
def qUa(t:qQ):Bool:=!((yE t).kind == zD) || (decide (1<=(yE t).num) && decide ((yE t).num<=16))
theorem qWW(S:HdS)(t:qQ):qZ9 S t=(jQ (!(qUa t) || decide (yV S.gs+max (if qUa t then(yE t).num else 0) 1<=64)) t 45).bind fun _=>(yF S t).bind fun _=>(jQ (qUa t) (yE t) 42).bind fun _=>.ok ⟨S.gs++[⟨(qZr t).name,(qZr t).t,if qUa t then(yE t).num else 0⟩],S.fs⟩:=rfl
theorem qKQ{S:HdS}{t:qQ}{u:Unit}(h:yF S t=.ok u):qZc t.text 0 (S.gs.map (·.name))=none/\qZc t.text 0 (S.fs.map (·.name))=none:=by
 unfold yF jQ at h;split at h
 ·rename_i hb;simp only[bE]at hb;exact⟨qZI.1.1 (Option.isNone_iff_eq_none.1 hb.1),qX1.1.1 (Option.isNone_iff_eq_none.1 hb.2)⟩
 ·cases h
theorem qL8(B L:Nat)(gs:List qI)(fs:List FnM)(gv fv:Value)(Mg Mf Mr:Nat)(cl:vE)(t u:qQ)(r:List qQ)(v:Value)(w:World)(h:HIn B L gs fs gv fv Mg Mf Mr cl (yV gs) w)
 (hL:L<=w.1.size) (hks:t.kids=u :: r) (hl:xZ w (· < L) t v) (hx:t.text.length<=1000000) (hkl:t.kids.length<=1000000) (hz:((yE t).kind == zD)=false->(yE t).num=0) (hnm:0<=(yE t).num/\(yE t).num < 18446744073709551616) :
 Calls prog 86 #[.pointer (some ⟨B,0,none⟩),qZ t v] w (wP B L Mg Mf Mr cl (qZ9 ⟨gs,fs.map (fun f=>f.h)⟩ t) w):=by
 obtain⟨q,c,rfl,hc1,hc2,hK⟩:=hl.kids;have HBL:=hI (bal (Below.refl w.1.size w) (qB t (.slice q t.kids.length c)));have HN:=hI (Bx.new t (.slice q t.kids.length c) w);have HW:=hI (h.below HBL.o);have HLA:=hI (hl.keep (HBL.o.mono hL));have hsz:(w.alloc (qB t (.slice q t.kids.length c))).1.size=w.1.size+1:=by simp
 have HDE:=hI (fun w' (hb:Below w.1.size w w')=>qJc L t u r (.slice q t.kids.length c) w' hks (h.wtab.below hb) (by have:=hb.size;omega) (xZ.move (fun g hg hok=>⟨hok,hb.block g (by omega)⟩) t _ hl) hx);have HPB:=hI (qWW ⟨gs,fs.map (fun f=>f.h)⟩ t);have HNA:=hI (fun b cd w'=>qQk b t (.slice q t.kids.length c) cd w');have HUN:=hI (fun cn w' (h':HIn B L gs fs gv fv Mg Mf Mr cl cn w')=>qWf B L gs fs gv fv Mg Mf Mr cl cn t (.slice q t.kids.length c) w' h' hx ⟨_,_,rfl⟩);have HFT:=hI (show qUa t=(!((yE t).kind == zD) || (decide (1<=(yE t).num) && decide ((yE t).num<=16)))from rfl);have HX:=hI hx;have HZ:=hI hz;have HDN:=hI (show(qZr t).name=t.text from rfl);have H0:=hI h;have hne:t.kids≠[]:=by rw[hks];simp
 obtain⟨p,hp⟩:∃ p,t.kids.length=p+1:=⟨t.kids.length - 1,by have:=List.length_pos_iff.2 hne;omega⟩;have HLT2:=hI (last_at hp);obtain⟨g2,off2,rfl,hR2⟩:=hK.resolve_left hne;obtain⟨lq,ln2,lcp,hll,hlc⟩:=hR2.2 p (by omega);rw[HLT2.o]at hll hlc;have hg2:=hR2.1;have hBw:B < w.1.size:=qJ h.c0;clear h hl hK hks hR2 hx hz hne HLT2;obtain⟨k,x,m,ln,co,ks⟩:=t;generalize hlt:yE (.mk k x m ln co ks)=lt at *;generalize hft:qUa (.mk k x m ln co ks)=ft at *;generalize hD:qZr (.mk k x m ln co ks)=D at *;clear hlt hft hD;obtain⟨Dn,⟨Dw,Ds⟩,Dz⟩:=D;obtain⟨lk,lx,lm,ll,lc,lks⟩:=lt;simp only[qZ,qB,qS,qXK,tQ]at *;have hpb:p < 1000000:=by omega
 have hlc:=hlc.move (HBL.o.block g2 (by omega));rw[hp]at *;have hpi:(p:Int) < ((p+1:Nat):Int):=by omega
 clear hp;go_enter func86,ntmps86
 go_wp2
 generalize (w.alloc _)=W at *;have hWs:w.1.size<=W.1.size:=by omega
 obtain⟨n0,n1,n2,n3,n4,n5⟩:=HN.o.cells;have⟨k0,k1,k2,k3,k4,k5,_⟩:=hlc.a;simp only[tQ]at k0 k1 k2 k3 k4 k5 n0 n1 n2 n3 n4 n5;clear hlc hll;refine wp_cutX (X:=Nat×Nat) (fun a0 r=>((((((((((((a0.put (some 7) (.agg #[.string ⟨k.toArray⟩, .string ⟨x.toArray⟩, .int .u64 m, .int .i64 ln, .int .i64 co, .slice (some ⟨g2,off2,none⟩) (p+1) c])).put (some 9) (.pointer (some ⟨w.1.size,5,none⟩))).put (some 10) (.slice (some ⟨g2,off2,none⟩) (p+1) c)).put (some 11) (.pointer (some ⟨w.1.size,5,none⟩))).put (some 12) (.slice (some ⟨g2,off2,none⟩) (p+1) c)).put (some 13) (.int .i64 ((p:Int)+1))).put (some 14) (.int .i64 p)).put (some 15) (.pointer (some ⟨g2,off2+p * 6,none⟩))).put (some 16) (.agg #[.string ⟨lk.toArray⟩, .string ⟨lx.toArray⟩, .int .u64 lm, .int .i64 ll, .int .i64 lc, .slice lq ln2 lcp])).put (some 8) (.agg #[.string ⟨Dn.toArray⟩, .int .i64 Dw, .bool Ds, .int .i64 Dz])).put (some 4) (.pointer (some ⟨r.1,0,none⟩))).put (some 5) (.pointer (some ⟨r.2,0,none⟩)))) (GBox ⟨Dn,(Dw,Ds),Dz⟩ lk lx lm ll lc (.slice lq ln2 lcp) W) (fun _ _=>False) ?_ ?_ ?_;rotate_left 2
 ·rintro ch a' w' _ hf;exact hf.elim
 ·refine wRg (S:=fun w'=>Below W.1.size W w') 99 ?_;refine wTk 0 7 (.agg #[.string ⟨k.toArray⟩, .string ⟨x.toArray⟩, .int .u64 m, .int .i64 ln, .int .i64 co, .slice (some ⟨g2,off2,none⟩) (p+1) c]) ?_ (bD W) ?_
  ·intro _ y;obtain⟨n0,n1,n2,n3,n4,n5⟩:=kP6 y n0 n1 n2 n3 n4 n5;go_simp
  refine wTk 2 9 (.pointer (some ⟨w.1.size,5,none⟩)) ?_ (bD W) ?_
  ·intro _ y;go_simp
  refine wTk 3 10 (.slice (some ⟨g2,off2,none⟩) (p+1) c) ?_ (bD W) ?_
  ·intro _ y;have n5:=kP y n5;go_simp
  refine wTk 4 11 (.pointer (some ⟨w.1.size,5,none⟩)) ?_ (bD W) ?_
  ·intro _ y;go_simp
  refine wTk 5 12 (.slice (some ⟨g2,off2,none⟩) (p+1) c) ?_ (bD W) ?_
  ·intro _ y;have n5:=kP y n5;go_simp
  refine wTk 6 13 (.int .i64 (p+1:Nat)) ?_ (bD W) ?_
  ·intro _ y;go_simp
  refine wTk 7 14 (.int .i64 p) ?_ (bD W) ?_
  ·intro _ y;clear y;have hwp:IntKind.i64.wrap (((p+1:Nat):Int) - 1)=(p:Nat):=by rw[IntWalk.i64_in _ (by omega)];omega
   have hwq:IntKind.i64.wrap (p:Nat)=(p:Nat):=IntWalk.i64_in _ (by omega);go_simp
  refine wTk 8 15 (.pointer (some ⟨g2,off2+p * 6,none⟩)) ?_ (bD W) ?_
  ·intro _ y;go_simp;intro h;omega
  refine wTk 9 16 (.agg #[.string ⟨lk.toArray⟩, .string ⟨lx.toArray⟩, .int .u64 lm, .int .i64 ll, .int .i64 lc, .slice lq ln2 lcp]) ?_ (bD W) ?_
  ·intro _ y;obtain⟨k0,k1,k2,k3,k4,k5⟩:=kP6 y k0 k1 k2 k3 k4 k5;go_simp
  have HB0:=hI ((Below.refl W.1.size W).drew);clear n0 n1 n2 n3 n4 n5 k0 k1 k2 k3 k4 k5;generalize World.drew W=C0 at *;refine qVq (i:=1) (j:=10) (l:=11) rfl rfl rfl (by kernel_rfl) (by rfl) (by rfl) (by rfl) (fun K hK=>?_) (fun K hK=>?_) (fun K hK=>?_)
  ·go_simp;refine(HDE.o C0 (HBL.o.trans (HB0.o.mono hWs))).mono ?_;rintro e C1 ⟨rfl,hb⟩;simp only[qXK];have hw0:=HB0.o.size;have HB1:=hI (HB0.o.trans (hb.mono HB0.o.size));have hs1:=hb.size;refine kK hK HB1.o ?_;clear hK K hb;try simp only[Act.put,pZa,pZb,pZc]
   refine jA (i:=10) (j:=11) rfl rfl (by kernel_rfl) (by rfl) (by rfl) (fun K hK=>?_) (fun K hK=>?_)
   ·go_simp;refine kK hK (bal HB1.o _) ?_;clear hK K;have HB2:=hI (bal HB1.o (.cells #[.string ⟨#[]⟩, .int .i64 0, .bool false, .int .i64 0] 42));have hA:Below C1.1.size C1 (C1.alloc (.cells #[.string ⟨#[]⟩, .int .i64 0, .bool false, .int .i64 0] 42)):=bal (Below.refl _ _) _;have hs2:C1.1.size < (C1.alloc (.cells #[.string ⟨#[]⟩, .int .i64 0, .bool false, .int .i64 0] 42)).1.size:=by simp
    have hw1:=HB1.o.size;have H4:=hI (show qQB C1.1.size qZU (C1.alloc (.cells #[.string ⟨#[]⟩, .int .i64 0, .bool false, .int .i64 0] 42))from qQB.new qZU C1);clear hA;generalize (C1.alloc (.cells #[.string ⟨#[]⟩, .int .i64 0, .bool false, .int .i64 0] 42))=C2 at *;refine wOn 11 fun K hK=>?_
    go_simp;refine kK hK (bal HB2.o _) ?_;clear hK K;have HB3:=hI (bal HB2.o (.cells #[.string ⟨#[]⟩, .string ⟨#[]⟩, .int .u64 0, .int .i64 0, .int .i64 0, .slice none 0 0] 57));have hA:Below C2.1.size C2 (C2.alloc (.cells #[.string ⟨#[]⟩, .string ⟨#[]⟩, .int .u64 0, .int .i64 0, .int .i64 0, .slice none 0 0] 57)):=bal (Below.refl _ _) _;have hs3:C2.1.size < (C2.alloc (.cells #[.string ⟨#[]⟩, .string ⟨#[]⟩, .int .u64 0, .int .i64 0, .int .i64 0, .slice none 0 0] 57)).1.size:=by simp
    have hw2:=HB2.o.size;have H4:=hI (H4.o.below hA);have H5:=hI (show zI C2.1.size [] [] 0 0 0 (.slice none 0 0) (C2.alloc (.cells #[.string ⟨#[]⟩, .string ⟨#[]⟩, .int .u64 0, .int .i64 0, .int .i64 0, .slice none 0 0] 57))from zI.new [] [] 0 0 0 (.slice none 0 0) C2);clear hA;generalize (C2.alloc (.cells #[.string ⟨#[]⟩, .string ⟨#[]⟩, .int .u64 0, .int .i64 0, .int .i64 0, .slice none 0 0] 57))=C3 at *;refine wOn 12 fun K hK=>?_
    have x0:=H4.o.c0;have xf0:=H4.o.f 0 nL;have x1:=H4.o.c1;have xf1:=H4.o.f 1 nL;have x2:=H4.o.c2;have xf2:=H4.o.f 2 nL;have x3:=H4.o.c3;have xf3:=H4.o.f 3 nL;simp only[qZU]at x0 x1 x2 x3;go_simp;refine kK hK (qQ7 HB3.o (by omega) _ _ _ _) ?_;clear hK K;clear x0 xf0 x1 xf1 x2 xf2 x3 xf3;have HB4:=hI (qQ7 (N:=C1.1.size) HB3.o (by omega) (.string ⟨Dn.toArray⟩) (.int .i64 Dw) (.bool Ds) (.int .i64 Dz));have H4:=hI (H4.o.four (d:=⟨Dn,(Dw,Ds),Dz⟩));simp only at H4;have H5:=hI (H5.o.turn (qUc C3 C1.1.size C2.1.size (by omega) (.string ⟨Dn.toArray⟩) (.int .i64 Dw) (.bool Ds) (.int .i64 Dz)));generalize ((((C3.setCell ⟨C1.1.size,0,none⟩ (.string ⟨Dn.toArray⟩)).setCell ⟨C1.1.size,1,none⟩ (.int .i64 Dw)).setCell ⟨C1.1.size,2,none⟩ (.bool Ds)).setCell ⟨C1.1.size,3,none⟩ (.int .i64 Dz))=C4 at *;refine wOn 13 fun K hK=>?_
    have x0:=H5.o.c0;have xf0:=H5.o.f 0 nL;have x1:=H5.o.c1;have xf1:=H5.o.f 1 nL;have x2:=H5.o.c2;have xf2:=H5.o.f 2 nL;have x3:=H5.o.c3;have xf3:=H5.o.f 3 nL;have x4:=H5.o.c4;have xf4:=H5.o.f 4 nL;have x5:=H5.o.c5;have xf5:=H5.o.f 5 nL;go_simp;refine kK hK (vN HB4.o (by omega) _ _ _ _ _ _) ?_;clear hK K;refine wDn ?_ _;exact⟨(C1.1.size,C2.1.size),by simp only[Act.put,pZa,pZb,pZc],vN HB4.o (by omega) _ _ _ _ _ _,H4.o.turn (qZE _ _ _ (by omega) _ _ _ _ _ _),H5.o.six lk lx lm ll lc (.slice lq ln2 lcp),by show W.1.size<=C1.1.size;omega,by show W.1.size<=C2.1.size;omega,by show C1.1.size≠C2.1.size;omega⟩
   ·go_simp;refine kK hK (bal HB1.o _) ?_;clear hK K;have HB2:=hI (bal HB1.o (.cells #[.string ⟨#[]⟩, .string ⟨#[]⟩, .int .u64 0, .int .i64 0, .int .i64 0, .slice none 0 0] 57));have hA:Below C1.1.size C1 (C1.alloc (.cells #[.string ⟨#[]⟩, .string ⟨#[]⟩, .int .u64 0, .int .i64 0, .int .i64 0, .slice none 0 0] 57)):=bal (Below.refl _ _) _;have hs2:C1.1.size < (C1.alloc (.cells #[.string ⟨#[]⟩, .string ⟨#[]⟩, .int .u64 0, .int .i64 0, .int .i64 0, .slice none 0 0] 57)).1.size:=by simp
    have hw1:=HB1.o.size;have H5:=hI (show zI C1.1.size [] [] 0 0 0 (.slice none 0 0) (C1.alloc (.cells #[.string ⟨#[]⟩, .string ⟨#[]⟩, .int .u64 0, .int .i64 0, .int .i64 0, .slice none 0 0] 57))from zI.new [] [] 0 0 0 (.slice none 0 0) C1);clear hA;generalize (C1.alloc (.cells #[.string ⟨#[]⟩, .string ⟨#[]⟩, .int .u64 0, .int .i64 0, .int .i64 0, .slice none 0 0] 57))=C2 at *;refine wOn 10 fun K hK=>?_
    go_simp;refine kK hK (bal HB2.o _) ?_;clear hK K;have HB3:=hI (bal HB2.o (.cells #[.string ⟨#[]⟩, .int .i64 0, .bool false, .int .i64 0] 42));have hA:Below C2.1.size C2 (C2.alloc (.cells #[.string ⟨#[]⟩, .int .i64 0, .bool false, .int .i64 0] 42)):=bal (Below.refl _ _) _;have hs3:C2.1.size < (C2.alloc (.cells #[.string ⟨#[]⟩, .int .i64 0, .bool false, .int .i64 0] 42)).1.size:=by simp
    have hw2:=HB2.o.size;have H5:=hI (H5.o.below hA);have H4:=hI (show qQB C2.1.size qZU (C2.alloc (.cells #[.string ⟨#[]⟩, .int .i64 0, .bool false, .int .i64 0] 42))from qQB.new qZU C2);clear hA;generalize (C2.alloc (.cells #[.string ⟨#[]⟩, .int .i64 0, .bool false, .int .i64 0] 42))=C3 at *;refine wOn 12 fun K hK=>?_
    have x0:=H4.o.c0;have xf0:=H4.o.f 0 nL;have x1:=H4.o.c1;have xf1:=H4.o.f 1 nL;have x2:=H4.o.c2;have xf2:=H4.o.f 2 nL;have x3:=H4.o.c3;have xf3:=H4.o.f 3 nL;simp only[qZU]at x0 x1 x2 x3;go_simp;refine kK hK (qQ7 HB3.o (by omega) _ _ _ _) ?_;clear hK K;clear x0 xf0 x1 xf1 x2 xf2 x3 xf3;have HB4:=hI (qQ7 (N:=C2.1.size) HB3.o (by omega) (.string ⟨Dn.toArray⟩) (.int .i64 Dw) (.bool Ds) (.int .i64 Dz));have H4:=hI (H4.o.four (d:=⟨Dn,(Dw,Ds),Dz⟩));simp only at H4;have H5:=hI (H5.o.turn (qUc C3 C2.1.size C1.1.size (by omega) (.string ⟨Dn.toArray⟩) (.int .i64 Dw) (.bool Ds) (.int .i64 Dz)));generalize ((((C3.setCell ⟨C2.1.size,0,none⟩ (.string ⟨Dn.toArray⟩)).setCell ⟨C2.1.size,1,none⟩ (.int .i64 Dw)).setCell ⟨C2.1.size,2,none⟩ (.bool Ds)).setCell ⟨C2.1.size,3,none⟩ (.int .i64 Dz))=C4 at *;refine wOn 13 fun K hK=>?_
    have x0:=H5.o.c0;have xf0:=H5.o.f 0 nL;have x1:=H5.o.c1;have xf1:=H5.o.f 1 nL;have x2:=H5.o.c2;have xf2:=H5.o.f 2 nL;have x3:=H5.o.c3;have xf3:=H5.o.f 3 nL;have x4:=H5.o.c4;have xf4:=H5.o.f 4 nL;have x5:=H5.o.c5;have xf5:=H5.o.f 5 nL;go_simp;refine kK hK (vN HB4.o (by omega) _ _ _ _ _ _) ?_;clear hK K;refine wDn ?_ _;exact⟨(C2.1.size,C1.1.size),by simp only[Act.put,pZa,pZb,pZc],vN HB4.o (by omega) _ _ _ _ _ _,H4.o.turn (qZE _ _ _ (by omega) _ _ _ _ _ _),H5.o.six lk lx lm ll lc (.slice lq ln2 lcp),by show W.1.size<=C2.1.size;omega,by show W.1.size<=C1.1.size;omega,by show C2.1.size≠C1.1.size;omega⟩
  ·go_simp;refine kK hK (bal HB0.o _) ?_;clear hK K;have HB1:=hI (bal HB0.o (.cells #[.string ⟨#[]⟩, .int .i64 0, .bool false, .int .i64 0] 42));have hA:Below C0.1.size C0 (C0.alloc (.cells #[.string ⟨#[]⟩, .int .i64 0, .bool false, .int .i64 0] 42)):=bal (Below.refl _ _) _;have hs1:C0.1.size < (C0.alloc (.cells #[.string ⟨#[]⟩, .int .i64 0, .bool false, .int .i64 0] 42)).1.size:=by simp
   have hw0:=HB0.o.size;have H4:=hI (show qQB C0.1.size qZU (C0.alloc (.cells #[.string ⟨#[]⟩, .int .i64 0, .bool false, .int .i64 0] 42))from qQB.new qZU C0);clear hA;generalize (C0.alloc (.cells #[.string ⟨#[]⟩, .int .i64 0, .bool false, .int .i64 0] 42))=C1 at *;refine jA (i:=1) (j:=11) rfl rfl (by kernel_rfl) (by rfl) (by rfl) (fun K hK=>?_) (fun K hK=>?_)
   ·go_simp;refine(HDE.o C1 (HBL.o.trans (HB1.o.mono hWs))).mono ?_;rintro e C2 ⟨rfl,hb⟩;simp only[qXK];have hw1:=HB1.o.size;have HB2:=hI (HB1.o.trans (hb.mono HB1.o.size));have hs2:=hb.size;have H4:=hI (H4.o.below hb);refine kK hK HB2.o ?_;clear hK K hb;try simp only[Act.put,pZa,pZb,pZc]
    refine wOn 11 fun K hK=>?_
    go_simp;refine kK hK (bal HB2.o _) ?_;clear hK K;have HB3:=hI (bal HB2.o (.cells #[.string ⟨#[]⟩, .string ⟨#[]⟩, .int .u64 0, .int .i64 0, .int .i64 0, .slice none 0 0] 57));have hA:Below C2.1.size C2 (C2.alloc (.cells #[.string ⟨#[]⟩, .string ⟨#[]⟩, .int .u64 0, .int .i64 0, .int .i64 0, .slice none 0 0] 57)):=bal (Below.refl _ _) _;have hs3:C2.1.size < (C2.alloc (.cells #[.string ⟨#[]⟩, .string ⟨#[]⟩, .int .u64 0, .int .i64 0, .int .i64 0, .slice none 0 0] 57)).1.size:=by simp
    have hw2:=HB2.o.size;have H4:=hI (H4.o.below hA);have H5:=hI (show zI C2.1.size [] [] 0 0 0 (.slice none 0 0) (C2.alloc (.cells #[.string ⟨#[]⟩, .string ⟨#[]⟩, .int .u64 0, .int .i64 0, .int .i64 0, .slice none 0 0] 57))from zI.new [] [] 0 0 0 (.slice none 0 0) C2);clear hA;generalize (C2.alloc (.cells #[.string ⟨#[]⟩, .string ⟨#[]⟩, .int .u64 0, .int .i64 0, .int .i64 0, .slice none 0 0] 57))=C3 at *;refine wOn 12 fun K hK=>?_
    have x0:=H4.o.c0;have xf0:=H4.o.f 0 nL;have x1:=H4.o.c1;have xf1:=H4.o.f 1 nL;have x2:=H4.o.c2;have xf2:=H4.o.f 2 nL;have x3:=H4.o.c3;have xf3:=H4.o.f 3 nL;simp only[qZU]at x0 x1 x2 x3;go_simp;refine kK hK (qQ7 HB3.o (by omega) _ _ _ _) ?_;clear hK K;clear x0 xf0 x1 xf1 x2 xf2 x3 xf3;have HB4:=hI (qQ7 (N:=C0.1.size) HB3.o (by omega) (.string ⟨Dn.toArray⟩) (.int .i64 Dw) (.bool Ds) (.int .i64 Dz));have H4:=hI (H4.o.four (d:=⟨Dn,(Dw,Ds),Dz⟩));simp only at H4;have H5:=hI (H5.o.turn (qUc C3 C0.1.size C2.1.size (by omega) (.string ⟨Dn.toArray⟩) (.int .i64 Dw) (.bool Ds) (.int .i64 Dz)));generalize ((((C3.setCell ⟨C0.1.size,0,none⟩ (.string ⟨Dn.toArray⟩)).setCell ⟨C0.1.size,1,none⟩ (.int .i64 Dw)).setCell ⟨C0.1.size,2,none⟩ (.bool Ds)).setCell ⟨C0.1.size,3,none⟩ (.int .i64 Dz))=C4 at *;refine wOn 13 fun K hK=>?_
    have x0:=H5.o.c0;have xf0:=H5.o.f 0 nL;have x1:=H5.o.c1;have xf1:=H5.o.f 1 nL;have x2:=H5.o.c2;have xf2:=H5.o.f 2 nL;have x3:=H5.o.c3;have xf3:=H5.o.f 3 nL;have x4:=H5.o.c4;have xf4:=H5.o.f 4 nL;have x5:=H5.o.c5;have xf5:=H5.o.f 5 nL;go_simp;refine kK hK (vN HB4.o (by omega) _ _ _ _ _ _) ?_;clear hK K;refine wDn ?_ _;exact⟨(C0.1.size,C2.1.size),by simp only[Act.put,pZa,pZb,pZc],vN HB4.o (by omega) _ _ _ _ _ _,H4.o.turn (qZE _ _ _ (by omega) _ _ _ _ _ _),H5.o.six lk lx lm ll lc (.slice lq ln2 lcp),by show W.1.size<=C0.1.size;omega,by show W.1.size<=C2.1.size;omega,by show C0.1.size≠C2.1.size;omega⟩
   ·go_simp;refine kK hK (bal HB1.o _) ?_;clear hK K;have HB2:=hI (bal HB1.o (.cells #[.string ⟨#[]⟩, .string ⟨#[]⟩, .int .u64 0, .int .i64 0, .int .i64 0, .slice none 0 0] 57));have hA:Below C1.1.size C1 (C1.alloc (.cells #[.string ⟨#[]⟩, .string ⟨#[]⟩, .int .u64 0, .int .i64 0, .int .i64 0, .slice none 0 0] 57)):=bal (Below.refl _ _) _;have hs2:C1.1.size < (C1.alloc (.cells #[.string ⟨#[]⟩, .string ⟨#[]⟩, .int .u64 0, .int .i64 0, .int .i64 0, .slice none 0 0] 57)).1.size:=by simp
    have hw1:=HB1.o.size;have H4:=hI (H4.o.below hA);have H5:=hI (show zI C1.1.size [] [] 0 0 0 (.slice none 0 0) (C1.alloc (.cells #[.string ⟨#[]⟩, .string ⟨#[]⟩, .int .u64 0, .int .i64 0, .int .i64 0, .slice none 0 0] 57))from zI.new [] [] 0 0 0 (.slice none 0 0) C1);clear hA;generalize (C1.alloc (.cells #[.string ⟨#[]⟩, .string ⟨#[]⟩, .int .u64 0, .int .i64 0, .int .i64 0, .slice none 0 0] 57))=C2 at *;refine wOn 1 fun K hK=>?_
    go_simp;refine(HDE.o C2 (HBL.o.trans (HB2.o.mono hWs))).mono ?_;rintro e C3 ⟨rfl,hb⟩;simp only[qXK];have hw2:=HB2.o.size;have HB3:=hI (HB2.o.trans (hb.mono HB2.o.size));have hs3:=hb.size;have H4:=hI (H4.o.below hb);have H5:=hI (H5.o.below hb);refine kK hK HB3.o ?_;clear hK K hb;try simp only[Act.put,pZa,pZb,pZc]
    refine wOn 12 fun K hK=>?_
    have x0:=H4.o.c0;have xf0:=H4.o.f 0 nL;have x1:=H4.o.c1;have xf1:=H4.o.f 1 nL;have x2:=H4.o.c2;have xf2:=H4.o.f 2 nL;have x3:=H4.o.c3;have xf3:=H4.o.f 3 nL;simp only[qZU]at x0 x1 x2 x3;go_simp;refine kK hK (qQ7 HB3.o (by omega) _ _ _ _) ?_;clear hK K;clear x0 xf0 x1 xf1 x2 xf2 x3 xf3;have HB4:=hI (qQ7 (N:=C0.1.size) HB3.o (by omega) (.string ⟨Dn.toArray⟩) (.int .i64 Dw) (.bool Ds) (.int .i64 Dz));have H4:=hI (H4.o.four (d:=⟨Dn,(Dw,Ds),Dz⟩));simp only at H4;have H5:=hI (H5.o.turn (qUc C3 C0.1.size C1.1.size (by omega) (.string ⟨Dn.toArray⟩) (.int .i64 Dw) (.bool Ds) (.int .i64 Dz)));generalize ((((C3.setCell ⟨C0.1.size,0,none⟩ (.string ⟨Dn.toArray⟩)).setCell ⟨C0.1.size,1,none⟩ (.int .i64 Dw)).setCell ⟨C0.1.size,2,none⟩ (.bool Ds)).setCell ⟨C0.1.size,3,none⟩ (.int .i64 Dz))=C4 at *;refine wOn 13 fun K hK=>?_
    have x0:=H5.o.c0;have xf0:=H5.o.f 0 nL;have x1:=H5.o.c1;have xf1:=H5.o.f 1 nL;have x2:=H5.o.c2;have xf2:=H5.o.f 2 nL;have x3:=H5.o.c3;have xf3:=H5.o.f 3 nL;have x4:=H5.o.c4;have xf4:=H5.o.f 4 nL;have x5:=H5.o.c5;have xf5:=H5.o.f 5 nL;go_simp;refine kK hK (vN HB4.o (by omega) _ _ _ _ _ _) ?_;clear hK K;refine wDn ?_ _;exact⟨(C0.1.size,C1.1.size),by simp only[Act.put,pZa,pZb,pZc],vN HB4.o (by omega) _ _ _ _ _ _,H4.o.turn (qZE _ _ _ (by omega) _ _ _ _ _ _),H5.o.six lk lx lm ll lc (.slice lq ln2 lcp),by show W.1.size<=C0.1.size;omega,by show W.1.size<=C1.1.size;omega,by show C0.1.size≠C1.1.size;omega⟩
  ·go_simp;refine kK hK (bal HB0.o _) ?_;clear hK K;have HB1:=hI (bal HB0.o (.cells #[.string ⟨#[]⟩, .string ⟨#[]⟩, .int .u64 0, .int .i64 0, .int .i64 0, .slice none 0 0] 57));have hA:Below C0.1.size C0 (C0.alloc (.cells #[.string ⟨#[]⟩, .string ⟨#[]⟩, .int .u64 0, .int .i64 0, .int .i64 0, .slice none 0 0] 57)):=bal (Below.refl _ _) _;have hs1:C0.1.size < (C0.alloc (.cells #[.string ⟨#[]⟩, .string ⟨#[]⟩, .int .u64 0, .int .i64 0, .int .i64 0, .slice none 0 0] 57)).1.size:=by simp
   have hw0:=HB0.o.size;have H5:=hI (show zI C0.1.size [] [] 0 0 0 (.slice none 0 0) (C0.alloc (.cells #[.string ⟨#[]⟩, .string ⟨#[]⟩, .int .u64 0, .int .i64 0, .int .i64 0, .slice none 0 0] 57))from zI.new [] [] 0 0 0 (.slice none 0 0) C0);clear hA;generalize (C0.alloc (.cells #[.string ⟨#[]⟩, .string ⟨#[]⟩, .int .u64 0, .int .i64 0, .int .i64 0, .slice none 0 0] 57))=C1 at *;refine jA (i:=1) (j:=10) rfl rfl (by kernel_rfl) (by rfl) (by rfl) (fun K hK=>?_) (fun K hK=>?_)
   ·go_simp;refine(HDE.o C1 (HBL.o.trans (HB1.o.mono hWs))).mono ?_;rintro e C2 ⟨rfl,hb⟩;simp only[qXK];have hw1:=HB1.o.size;have HB2:=hI (HB1.o.trans (hb.mono HB1.o.size));have hs2:=hb.size;have H5:=hI (H5.o.below hb);refine kK hK HB2.o ?_;clear hK K hb;try simp only[Act.put,pZa,pZb,pZc]
    refine wOn 10 fun K hK=>?_
    go_simp;refine kK hK (bal HB2.o _) ?_;clear hK K;have HB3:=hI (bal HB2.o (.cells #[.string ⟨#[]⟩, .int .i64 0, .bool false, .int .i64 0] 42));have hA:Below C2.1.size C2 (C2.alloc (.cells #[.string ⟨#[]⟩, .int .i64 0, .bool false, .int .i64 0] 42)):=bal (Below.refl _ _) _;have hs3:C2.1.size < (C2.alloc (.cells #[.string ⟨#[]⟩, .int .i64 0, .bool false, .int .i64 0] 42)).1.size:=by simp
    have hw2:=HB2.o.size;have H5:=hI (H5.o.below hA);have H4:=hI (show qQB C2.1.size qZU (C2.alloc (.cells #[.string ⟨#[]⟩, .int .i64 0, .bool false, .int .i64 0] 42))from qQB.new qZU C2);clear hA;generalize (C2.alloc (.cells #[.string ⟨#[]⟩, .int .i64 0, .bool false, .int .i64 0] 42))=C3 at *;refine wOn 12 fun K hK=>?_
    have x0:=H4.o.c0;have xf0:=H4.o.f 0 nL;have x1:=H4.o.c1;have xf1:=H4.o.f 1 nL;have x2:=H4.o.c2;have xf2:=H4.o.f 2 nL;have x3:=H4.o.c3;have xf3:=H4.o.f 3 nL;simp only[qZU]at x0 x1 x2 x3;go_simp;refine kK hK (qQ7 HB3.o (by omega) _ _ _ _) ?_;clear hK K;clear x0 xf0 x1 xf1 x2 xf2 x3 xf3;have HB4:=hI (qQ7 (N:=C2.1.size) HB3.o (by omega) (.string ⟨Dn.toArray⟩) (.int .i64 Dw) (.bool Ds) (.int .i64 Dz));have H4:=hI (H4.o.four (d:=⟨Dn,(Dw,Ds),Dz⟩));simp only at H4;have H5:=hI (H5.o.turn (qUc C3 C2.1.size C0.1.size (by omega) (.string ⟨Dn.toArray⟩) (.int .i64 Dw) (.bool Ds) (.int .i64 Dz)));generalize ((((C3.setCell ⟨C2.1.size,0,none⟩ (.string ⟨Dn.toArray⟩)).setCell ⟨C2.1.size,1,none⟩ (.int .i64 Dw)).setCell ⟨C2.1.size,2,none⟩ (.bool Ds)).setCell ⟨C2.1.size,3,none⟩ (.int .i64 Dz))=C4 at *;refine wOn 13 fun K hK=>?_
    have x0:=H5.o.c0;have xf0:=H5.o.f 0 nL;have x1:=H5.o.c1;have xf1:=H5.o.f 1 nL;have x2:=H5.o.c2;have xf2:=H5.o.f 2 nL;have x3:=H5.o.c3;have xf3:=H5.o.f 3 nL;have x4:=H5.o.c4;have xf4:=H5.o.f 4 nL;have x5:=H5.o.c5;have xf5:=H5.o.f 5 nL;go_simp;refine kK hK (vN HB4.o (by omega) _ _ _ _ _ _) ?_;clear hK K;refine wDn ?_ _;exact⟨(C2.1.size,C0.1.size),by simp only[Act.put,pZa,pZb,pZc],vN HB4.o (by omega) _ _ _ _ _ _,H4.o.turn (qZE _ _ _ (by omega) _ _ _ _ _ _),H5.o.six lk lx lm ll lc (.slice lq ln2 lcp),by show W.1.size<=C2.1.size;omega,by show W.1.size<=C0.1.size;omega,by show C2.1.size≠C0.1.size;omega⟩
   ·go_simp;refine kK hK (bal HB1.o _) ?_;clear hK K;have HB2:=hI (bal HB1.o (.cells #[.string ⟨#[]⟩, .int .i64 0, .bool false, .int .i64 0] 42));have hA:Below C1.1.size C1 (C1.alloc (.cells #[.string ⟨#[]⟩, .int .i64 0, .bool false, .int .i64 0] 42)):=bal (Below.refl _ _) _;have hs2:C1.1.size < (C1.alloc (.cells #[.string ⟨#[]⟩, .int .i64 0, .bool false, .int .i64 0] 42)).1.size:=by simp
    have hw1:=HB1.o.size;have H5:=hI (H5.o.below hA);have H4:=hI (show qQB C1.1.size qZU (C1.alloc (.cells #[.string ⟨#[]⟩, .int .i64 0, .bool false, .int .i64 0] 42))from qQB.new qZU C1);clear hA;generalize (C1.alloc (.cells #[.string ⟨#[]⟩, .int .i64 0, .bool false, .int .i64 0] 42))=C2 at *;refine wOn 1 fun K hK=>?_
    go_simp;refine(HDE.o C2 (HBL.o.trans (HB2.o.mono hWs))).mono ?_;rintro e C3 ⟨rfl,hb⟩;simp only[qXK];have hw2:=HB2.o.size;have HB3:=hI (HB2.o.trans (hb.mono HB2.o.size));have hs3:=hb.size;have H4:=hI (H4.o.below hb);have H5:=hI (H5.o.below hb);refine kK hK HB3.o ?_;clear hK K hb;try simp only[Act.put,pZa,pZb,pZc]
    refine wOn 12 fun K hK=>?_
    have x0:=H4.o.c0;have xf0:=H4.o.f 0 nL;have x1:=H4.o.c1;have xf1:=H4.o.f 1 nL;have x2:=H4.o.c2;have xf2:=H4.o.f 2 nL;have x3:=H4.o.c3;have xf3:=H4.o.f 3 nL;simp only[qZU]at x0 x1 x2 x3;go_simp;refine kK hK (qQ7 HB3.o (by omega) _ _ _ _) ?_;clear hK K;clear x0 xf0 x1 xf1 x2 xf2 x3 xf3;have HB4:=hI (qQ7 (N:=C1.1.size) HB3.o (by omega) (.string ⟨Dn.toArray⟩) (.int .i64 Dw) (.bool Ds) (.int .i64 Dz));have H4:=hI (H4.o.four (d:=⟨Dn,(Dw,Ds),Dz⟩));simp only at H4;have H5:=hI (H5.o.turn (qUc C3 C1.1.size C0.1.size (by omega) (.string ⟨Dn.toArray⟩) (.int .i64 Dw) (.bool Ds) (.int .i64 Dz)));generalize ((((C3.setCell ⟨C1.1.size,0,none⟩ (.string ⟨Dn.toArray⟩)).setCell ⟨C1.1.size,1,none⟩ (.int .i64 Dw)).setCell ⟨C1.1.size,2,none⟩ (.bool Ds)).setCell ⟨C1.1.size,3,none⟩ (.int .i64 Dz))=C4 at *;refine wOn 13 fun K hK=>?_
    have x0:=H5.o.c0;have xf0:=H5.o.f 0 nL;have x1:=H5.o.c1;have xf1:=H5.o.f 1 nL;have x2:=H5.o.c2;have xf2:=H5.o.f 2 nL;have x3:=H5.o.c3;have xf3:=H5.o.f 3 nL;have x4:=H5.o.c4;have xf4:=H5.o.f 4 nL;have x5:=H5.o.c5;have xf5:=H5.o.f 5 nL;go_simp;refine kK hK (vN HB4.o (by omega) _ _ _ _ _ _) ?_;clear hK K;refine wDn ?_ _;exact⟨(C1.1.size,C0.1.size),by simp only[Act.put,pZa,pZb,pZc],vN HB4.o (by omega) _ _ _ _ _ _,H4.o.turn (qZE _ _ _ (by omega) _ _ _ _ _ _),H5.o.six lk lx lm ll lc (.slice lq ln2 lcp),by show W.1.size<=C1.1.size;omega,by show W.1.size<=C0.1.size;omega,by show C1.1.size≠C0.1.size;omega⟩
 ·rintro⟨N4,N5⟩ w3 hIq;obtain⟨hb3,hV,hN5,h4,h5,h45⟩:=hIq;simp only at hV hN5 h4 h5 h45;have HB3:=hI (HBL.o.trans (hb3.mono hWs));have HW3:=hI (HW.o.below hb3);have HN3:=hI (HN.o.below hb3);have HV3:=hI hV;have HN5:=hI hN5;have hs3:=hb3.size;have h4l:=hV.lt;have h5l:=hN5.lt;clear n0 n1 n2 n3 n4 n5 k0 k1 k2 k3 k4 k5 hb3 hV hN5 HDE HW HN HBL HLA;have y0:=HN5.o.c0;have y2:=HN5.o.c2;have⟨v0,v1,v2,v3,_⟩:=HV3.o.a;have vf3:=HV3.o.f 3 nL;have HKN:=hI (show ∃ b:Bool,(lk == zD)=b from⟨_,rfl⟩);obtain⟨bk,hbk⟩:=HKN.o;have HBK:=hI hbk;unfold zD at hbk;try simp only[Act.put,pZa,pZb,pZc]
  cases bk with
  | false =>
   have hft:ft=true:=by rw[HFT.o,HBK.o];rfl
   have hr:0<=lm/\lm<=16:=by rw[HZ.o HBK.o];decide
   have HPT:=hI (HPB.o.trans (by rw[hft];rfl:_=(jQ (decide (yV gs+max lm 1<=64)) (.mk k x m ln co ks) 45).bind fun _=>(yF ⟨gs,fs.map (fun f=>f.h)⟩ (.mk k x m ln co ks)).bind fun _=>.ok ⟨gs++[⟨Dn,(Dw,Ds),lm⟩],fs.map (fun f=>f.h)⟩));have hwr:IntKind.i64.wrap lm=lm:=IntWalk.i64_in _ (by omega);obtain⟨n,hn⟩:∃ n,yV gs+max lm 1=n:=⟨_,rfl⟩;have hcg:=H0.o.cg;have hcp:(gs.length:Int)<=yV gs:=qJ4 gs;have hwn:IntKind.i64.wrap n=n:=IntWalk.i64_in _ (by omega);have HNY:=hI (fun w'=>qQl (.mk lk lx lm ll lc lks) (.slice lq ln2 lcp) 42 w');try simp only[qZ,qS,tQ]at HNY
   go_wp2
   have HBV:=hI (jR (o:=3) HB3.o (show w.1.size<=N4 by omega) (.int .i64 lm));have HWV:=hI (H0.o.below HBV.o);have HNV:=hI (show Bx w.1.size (.mk k x m ln co ks) (.slice (some ⟨g2,off2,none⟩) (p+1) c) (w3.setCell ⟨N4,3,none⟩ (.int .i64 lm))from(hS w3 ⟨N4,3,none⟩ (.int .i64 lm) w.1.size (by show w.1.size≠N4;omega)).trans HN3.o);have HVV:=hI (HV3.o.sized lm);have HLV:=hI (HN5.o.turn (hS w3 ⟨N4,3,none⟩ (.int .i64 lm) N5 (by show N5≠N4;omega)));have hsV:(w3.setCell ⟨N4,3,none⟩ (.int .i64 lm)).1.size=w3.1.size:=by simp
   try simp only at HVV
   clear y0 y2 v0 v1 v2 v3 vf3 HB3 HW3 HN3 HV3 HN5;generalize (w3.setCell ⟨N4,3,none⟩ (.int .i64 lm))=V at *;have c5:=HWV.o.c5;have cf5:=HWV.o.bf 5 (by omega);have⟨v0,v1,v2,v3,_⟩:=HVV.o.a;try simp only at v0 v1 v2 v3
   have hBV:B < V.1.size:=qJ c5;refine wRg (S:=fun w'=>Below V.1.size V w') 9 ?_;refine wTk 0 35 (.pointer (some ⟨B,0,none⟩)) ?_ (bD V) ?_
   ·intro _ y;go_simp
   refine wTk 1 36 (.pointer (some ⟨B,0,none⟩)) ?_ (bD V) ?_
   ·intro _ y;go_simp
   refine wTk 2 37 (.pointer (some ⟨B,5,none⟩)) ?_ (bD V) ?_
   ·intro _ y;go_simp
   refine wTk 3 38 (.int .i64 (yV gs)) ?_ (bD V) ?_
   ·intro _ y;have c5:=kP y c5;go_simp
   refine wTk 4 39 (.agg #[.string ⟨Dn.toArray⟩, .int .i64 Dw, .bool Ds, .int .i64 lm]) ?_ (bD V) ?_
   ·intro _ y;obtain⟨v0,v1,v2,v3⟩:=kP4 y v0 v1 v2 v3;go_simp
   refine wOn 5 fun K hK=>?_
   go_simp;refine(qVy _ _ _ _ _).mono ?_;rintro e w5 ⟨rfl,hb5⟩;have hb5:=zF hb5;refine kK hK hb5 ?_;clear hK K;have cf5:=(hb5.frozen (p:=⟨B,5,none⟩) hBV).trans cf5;have c5:=kP hb5 c5;have hs5:=hb5.size;clear v0 v1 v2 v3;refine wOn 6 fun K hK=>?_
   go_simp;refine kK hK hb5 ?_;clear hK K;try simp only[Act.put,pZa,pZb,pZc]
   refine wOn 7 fun K hK=>?_
   go_simp;refine kK hK hb5 ?_;clear hK K;try simp only[Act.put,pZa,pZb,pZc]
   refine wOn 8 fun K hK=>?_
   go_simp;refine kK hK hb5 ?_;clear hK K;try simp only[Act.put,pZa,pZb,pZc]
   refine wOn 9 fun K hK=>?_
   go_simp;refine kD hK ?_;clear hK K;refine wDn ?_ _;have HB5:=hI (HBV.o.trans (hb5.mono HBV.o.size));have HW5:=hI ((HWV.o.below hb5).set5 n);have hlo:=H0.o.lo;have HT5:=hI ((jW.of_below (L:=L) HB5.o).set (N:=B) hlo.2.1 5 (.int .i64 n));have hxB:∀ b,b≠B->(w5.setCell ⟨B,5,none⟩ (.int .i64 n)).1[b]? = w5.1[b]?:=fun b hb=>hS w5 ⟨B,5,none⟩ (.int .i64 n) b hb
   have HNU:=hI (show Bx w.1.size (.mk k x m ln co ks) (.slice (some ⟨g2,off2,none⟩) (p+1) c) (w5.setCell ⟨B,5,none⟩ (.int .i64 n))from(hxB _ (by omega)).trans (HNV.o.below hb5));have HVU:=hI ((HVV.o.below hb5).turn (hxB N4 (by omega)));have HLU:=hI ((HLV.o.below hb5).turn (hxB N5 (by omega)));have hsU:(w5.setCell ⟨B,5,none⟩ (.int .i64 n)).1.size=w5.1.size:=by simp
   try simp only[hn,hwn]
   clear hxB hb5 c5 cf5 HBV HWV HNV HVV HLV;generalize (w5.setCell ⟨B,5,none⟩ (.int .i64 n))=U at *;have c5:=HW5.o.c5;obtain⟨n0,n1,n2,n3,n4,n5⟩:=HNU.o.cells;try simp only[tQ]at n0 n1 n2 n3 n4 n5
   go_wp2
   refine wRg (S:=fun w'=>Below U.1.size U w') 10 ?_;refine wTk 0 44 (.bool true) ?_ (bD U) ?_
   ·intro _ y;go_simp
   refine wTk 1 45 (.bool false) ?_ (bD U) ?_
   ·intro _ y;go_simp
   refine wTk 2 46 (.bool false) ?_ (bD U) ?_
   ·intro _ y;go_simp
   refine wTk 3 47 (.pointer (some ⟨B,0,none⟩)) ?_ (bD U) ?_
   ·intro _ y;go_simp
   refine wTk 4 48 (.pointer (some ⟨B,0,none⟩)) ?_ (bD U) ?_
   ·intro _ y;go_simp
   refine wTk 5 49 (.pointer (some ⟨B,5,none⟩)) ?_ (bD U) ?_
   ·intro _ y;go_simp
   refine wTk 6 50 (.int .i64 n) ?_ (bD U) ?_
   ·intro _ y;have c5:=kP y c5;go_simp
   refine wTk 7 51 (.bool (decide (n<=64))) ?_ (bD U) ?_
   ·intro _ y;go_simp
   refine wTk 8 52 (.bool (decide (n<=64))) ?_ (bD U) ?_
   ·intro _ y;go_simp
   refine wTk 9 53 (.agg #[.string ⟨k.toArray⟩, .string ⟨x.toArray⟩, .int .u64 m, .int .i64 ln, .int .i64 co, .slice (some ⟨g2,off2,none⟩) (p+1) c]) ?_ (bD U) ?_
   ·intro _ y;obtain⟨n0,n1,n2,n3,n4,n5⟩:=kP6 y n0 n1 n2 n3 n4 n5;go_simp
   refine wOn 10 fun K hK=>?_
   go_simp;refine(HNA.o _ 45 _).mono ?_;rintro e w4 (⟨hbt,rfl,hb4⟩ | ⟨hbt,rfl,hb4⟩);rotate_left
   ·exact⟨rfl,wP.badI (by rw[HPT.o,hn,hbt];rfl) (HT5.o.trans (jW.of_below (zF hb4)))⟩
   have hb4:=zF hb4;have hle:n<=64:=of_decide_eq_true hbt;have HPU:=hI (HPT.o.trans (by rw[hn,hbt];rfl:_=(yF ⟨gs,fs.map (fun f=>f.h)⟩ (.mk k x m ln co ks)).bind fun _=>.ok ⟨gs++[⟨Dn,(Dw,Ds),lm⟩],fs.map (fun f=>f.h)⟩));have HW4:=hI (HW5.o.below hb4);have HT4:=hI (HT5.o.trans (jW.of_below hb4));have HN4:=hI (HNU.o.below hb4);have HV4:=hI (HVU.o.below hb4);have HL4:=hI (HLU.o.below hb4);have hs4:=hb4.size;refine kD hK ?_;clear hK K hb4 n0 n1 n2 n3 n4 n5 c5 HW5 HT5 HNU HVU HLU HPT hbt;try simp only[Act.put,pZa,pZb,pZc]
   refine wDn ?_ _;obtain⟨n0,n1,n2,n3,n4,n5⟩:=HN4.o.cells;try simp only[tQ]at n0 n1 n2 n3 n4 n5
   go_wp2_with fail
   refine(HUN.o _ _ HW4.o).mono ?_;rintro e w7 hX;rcases hX.cases with⟨a,u',hp,rfl,rfl,hb7⟩ | ⟨l',c',code,hp,rfl,hb7⟩;rotate_left
   ·exact⟨rfl,wP.badI (by rw[HPU.o,hp];rfl) (HT4.o.trans (jW.of_below hb7))⟩
   have HPOS:=hI (qKQ hp);have HPV:=hI (HPU.o.trans (by rw[hp];rfl:_=.ok ⟨gs++[⟨Dn,(Dw,Ds),lm⟩],fs.map (fun f=>f.h)⟩));have HW7:=hI (HW4.o.below hb7);have HT7:=hI (HT4.o.trans (jW.of_below hb7));have HV7:=hI (HV4.o.below hb7);have HL7:=hI (HL4.o.below hb7);have hs7:=hb7.size;clear n0 n1 n2 n3 n4 n5 hX hp hb7 HW4 HT4 HN4 HV4 HL4 HPU;have⟨y0,y1,y2,y3,y4,y5,_⟩:=HL7.o.a;go_wp2_with fail
   refine(HNY.o _).mono ?_;rintro e Z ⟨rfl,hbZ⟩;have HWZ:=hI (HW7.o.below hbZ);have HTZ:=hI (HT7.o.trans (jW.of_below hbZ));have HVZ:=hI (HV7.o.below hbZ);have hsZ:=hbZ.size;clear y0 y1 y2 y3 y4 y5 hbZ HW7 HT7 HV7 HL7;have c3:=HWZ.o.c3;have c0:=HWZ.o.c0;have v0:=HVZ.o.c0;try simp only at v0
   obtain⟨vq,vc,hgv⟩:=qZL HWZ.o.grow;obtain⟨ol,hol⟩:∃ ol:Nat,ol=gs.length:=⟨_,rfl⟩;have HOL:=hI hol;rw[<-hol]at hgv;have HGV:=hI hgv;rw[hgv]at c0;have ho63:(ol:Int) < 1000000:=by omega
   obtain⟨w6,hrun,hm6,hg6⟩:=(HWZ.o.gm.below (Below.refl _ _).drew).store Dn (by rw[HDN.o];have:=HX.o;unfold maxLen;omega) (by rw[HDN.o];exact HPOS.o.1) (by simp only[List.length_map];omega);rw[show((gs.map (·.name)).length:Int)=(ol:Nat) by rw[List.length_map,hol]]at hrun;clear hol hgv;go_wp2
   refine wRg (S:=fun w'=>Below Z.1.size Z w') 12 ?_;refine wTk 0 61 (.pointer (some ⟨B,0,none⟩)) ?_ (bD Z) ?_
   ·intro _ y;go_simp
   refine wTk 1 62 (.pointer (some ⟨B,0,none⟩)) ?_ (bD Z) ?_
   ·intro _ y;go_simp
   refine wTk 2 63 (.pointer (some ⟨B,3,none⟩)) ?_ (bD Z) ?_
   ·intro _ y;go_simp
   refine wTk 3 64 (.map (some Mg)) ?_ (bD Z) ?_
   ·intro _ y;have c3:=kP y c3;have v0:=kP y v0;go_simp
   refine wTk 4 65 (.pointer (some ⟨N4,0,none⟩)) ?_ (bD Z) ?_
   ·intro _ y;go_simp
   refine wTk 5 66 (.string ⟨Dn.toArray⟩) ?_ (bD Z) ?_
   ·intro _ y;have v0:=kP y v0;go_simp
   refine wTk 6 67 (.pointer (some ⟨B,0,none⟩)) ?_ (bD Z) ?_
   ·intro _ y;go_simp
   refine wTk 7 68 (.pointer (some ⟨B,0,none⟩)) ?_ (bD Z) ?_
   ·intro _ y;go_simp
   refine wTk 8 69 (.pointer (some ⟨B,0,none⟩)) ?_ (bD Z) ?_
   ·intro _ y;go_simp
   refine wTk 9 70 (.pointer (some ⟨B,0,none⟩)) ?_ (bD Z) ?_
   ·intro _ y;go_simp
   refine wTk 10 71 (.slice vq ol vc) ?_ (bD Z) ?_
   ·intro _ y;have c0:=kP y c0;go_simp
   refine wTk 11 72 (.int .i64 ol) ?_ (bD Z) ?_
   ·intro _ y;go_simp
   refine wOn 12 fun K hK=>?_
   go_simp;refine kD hK ?_;clear hK K;refine wDn ?_ _;have hM:=HWZ.o.gm.isMap;have HK6:=hI (show ∀ b,b < Z.1.size->b≠Mg->w6.1[b]? = Z.1[b]? from fun b hb hne=>hg6.block b hb (fun e=>hne (by injection e)));have hBM:B≠Mg:=(vU hM HWZ.o.kb).symm;have hNM:N4≠Mg:=fun e=>by have:=H0.o.gm.lt;omega
   have kc:∀ {b o u},b < Z.1.size->b≠Mg->Z.cell? ⟨b,o,none⟩=some u->w6.cell? ⟨b,o,none⟩=some u:=fun hb hne hc=>(cB (HK6.o _ hb hne)).trans hc
   have hBZ:B < Z.1.size:=qJ HWZ.o.c0;have c0:=kc hBZ hBM c0;have v0:=kc HVZ.o.lt hNM HVZ.o.c0;have v1:=kc HVZ.o.lt hNM HVZ.o.c1;have v2:=kc HVZ.o.lt hNM HVZ.o.c2;have v3:=kc HVZ.o.lt hNM HVZ.o.c3;try simp only at v0 v1 v2 v3
   have hr0:w.ownsRow L 42 4 (.slice vq ol vc) ol (xD qQe gs):=by
    have hr:=H0.o.grow;rw[HGV.o]at hr;unfold qQI at hr;rw[<-HOL.o]at hr;exact hr
   have hrZ:Z.ownsRow L 42 4 (.slice vq ol vc) ol (xD qQe gs):=by
    have hr:=HWZ.o.grow;rw[HGV.o]at hr;unfold qQI at hr;rw[<-HOL.o]at hr;exact hr
   have hvk:∀ g,(Value.slice vq ol vc).ownBlock=some g->jX Z g 42/\g < w.1.size:=fun g hg=>⟨zE hrZ hg,(hr0.lt g hg).2⟩
   have hneB:some B≠(Value.slice vq ol vc).ownBlock:=fun e=>(HWZ.o.kb.ne (hvk B e.symm).1 (by decide)) rfl
   have hneN:some N4≠(Value.slice vq ol vc).ownBlock:=fun e=>by have:=(hvk _ e.symm).2;omega
   have HROW:=hI (show w6.ownsRow L 42 4 (.slice vq ol vc) ol (xD qQe gs)from zU hrZ (fun g hg=>HK6.o g (by have:=(hvk g hg).2;omega) (vU hM (hvk g hg).1).symm));have hs6:Z.1.size<=w6.1.size:=hg6.size;have HG6:=hI hg6;have HM6:=hI hm6;clear hg6 hm6 kc hrun c3 hr0 hrZ;go_wp2
   refine wRg (S:=fun w'=>∀ b,b < w6.1.size->some b≠(Value.slice vq ol vc).ownBlock->w'.1[b]? = w6.1[b]?) 12 ?_;refine wTk 0 73 (.pointer (some ⟨B,0,none⟩)) ?_ ((fun _ _ _=>rfl)) ?_
   ·intro _ y;go_simp
   refine wTk 1 74 (.pointer (some ⟨B,0,none⟩)) ?_ ((fun _ _ _=>rfl)) ?_
   ·intro _ y;go_simp
   refine wTk 2 75 (.pointer (some ⟨B,0,none⟩)) ?_ ((fun _ _ _=>rfl)) ?_
   ·intro _ y;go_simp
   refine wTk 3 76 (.pointer (some ⟨B,0,none⟩)) ?_ ((fun _ _ _=>rfl)) ?_
   ·intro _ y;go_simp
   refine wTk 4 77 (.pointer (some ⟨B,0,none⟩)) ?_ ((fun _ _ _=>rfl)) ?_
   ·intro _ y;go_simp
   refine wTk 5 78 (.slice vq ol vc) ?_ ((fun _ _ _=>rfl)) ?_
   ·intro _ y;have c0:=(cB (y _ (qJ c0) hneB)).trans c0;go_simp
   refine wTk 6 79 (.agg #[.string ⟨Dn.toArray⟩, .int .i64 Dw, .bool Ds, .int .i64 lm]) ?_ ((fun _ _ _=>rfl)) ?_
   ·intro _ y;have v0:=(cB (y _ (qJ v0) hneN)).trans v0;have v1:=(cB (y _ (qJ v1) hneN)).trans v1;have v2:=(cB (y _ (qJ v2) hneN)).trans v2;have v3:=(cB (y _ (qJ v3) hneN)).trans v3;go_simp
   refine wOn 7 fun K hK=>?_
   go_simp;refine kK hK (fun b hb _=>Below.heap_alloc w6.drew _ b hb) ?_;clear hK K;refine wOn 8 fun K hK=>?_
   refine qQJ (lo:=L) (dd:=81) (news:=qQe ⟨Dn,(Dw,Ds),lm⟩) underlying27 info42 (by decide) rfl (by decide) _ _ rfl rfl HROW.o.drew (by simp;omega) rfl rfl rfl rfl (qVo _) (by omega) (fun v9 w9 ho9 hg9 hbk9=>?_);obtain⟨q9,c9,rfl⟩:∃ q c,v9=.slice q (ol+1) c:=by
    rcases ho9.2 with⟨_,h0⟩ | ⟨g,cap,cur,rfl,_⟩
    ·omega
    ·exact⟨_,_,rfl⟩
   have S9:∀ b,b < w6.1.size->some b≠(Value.slice vq ol vc).ownBlock->w9.1[b]? = w6.1[b]?:=fun b hb hne=>(hg9.block b (by simp;omega) hne).trans (Below.heap_alloc w6.drew _ b hb)
   refine kK hK S9 ?_;clear hK K;refine wOn 9 fun K hK=>?_
   go_simp;refine kK hK S9 ?_;clear hK K;try simp only[Act.put,pZa,pZb,pZc]
   refine wOn 10 fun K hK=>?_
   go_simp;refine kK hK S9 ?_;clear hK K;try simp only[Act.put,pZa,pZb,pZc]
   refine wOn 11 fun K hK=>?_
   go_simp;refine kK hK S9 ?_;clear hK K;try simp only[Act.put,pZa,pZb,pZc]
   have hB6:B < w6.1.size:=qJ c0;have c09:=(cB (S9 B hB6 hneB)).trans c0;have f09:w9.frozen? ⟨B,0,none⟩=false:=(World.frozen?_of_block (S9 B hB6 hneB)).trans ((World.frozen?_of_block (HK6.o B hBZ hBM)).trans (HWZ.o.bf 0 (by omega)));have hs9:w6.1.size+1<=w9.1.size:=by have:=hg9.size;simpa using this
   refine wOn 12 fun K hK=>?_
   go_simp;refine kD hK ?_;clear hK K;refine wDn ?_ _;have HO9:=hI ho9;have HG9:=hI hg9;have HBK9:=hI hbk9;have HS9:=hI S9;have hcB:=hlo.2.1;have HC9:=hI c09;clear c0 v0 v1 v2 v3 c09 f09 ho9 hg9 hbk9 S9;go_wp2
   go_end0;have base:∀ b,b < Z.1.size->b≠B->b≠Mg->some b≠gv.ownBlock->(w9.setCell ⟨B,0,none⟩ (.slice q9 (ol+1) c9)).1[b]? = Z.1[b]?:=fun b hb h1 h2 h3=>by
    rw[hS _ _ _ _ h1];refine(HS9.o b (by omega) ?_).trans (HK6.o b hb h2);rw[<-HGV.o];exact h3
   have hT:jW L w (w9.setCell ⟨B,0,none⟩ (.slice q9 (ol+1) c9)):=HTZ.o.trans ⟨(rfl:(w9.setCell ⟨B,0,none⟩ (.slice q9 (ol+1) c9)).os=w9.os).trans (HG9.o.os.trans HG6.o.os),by simpa using HG9.o.tape.trans HG6.o.tape,(rfl:(w9.setCell ⟨B,0,none⟩ (.slice q9 (ol+1) c9)).output=w9.output).trans (HG9.o.output.trans HG6.o.output),by simp;omega,fun b hb hbL=>base b hb (by omega) (by have:=H0.o.lo;omega) (fun e=>by have:=(H0.o.grow.lt b e.symm).1;omega)⟩;refine wP.okI (gv:=.slice q9 (ol+1) c9) (fv:=fv) HPV.o ?_ hT;have hBW9:(w9.setCell ⟨B,0,none⟩ (.slice q9 (ol+1) c9)).1.size=w9.1.size:=by simp
   have hxk:∀ b,b < Z.1.size->b≠Mg->some b≠(Value.slice vq ol vc).ownBlock->w9.1[b]? = Z.1[b]?:=fun b hb h2 h3=>(HS9.o b (by omega) h3).trans (HK6.o b hb h2)
   refine HWZ.o.glob (gv':=.slice q9 (ol+1) c9) (d:=⟨Dn,(Dw,Ds),lm⟩) (by rw[hBW9];omega) base (World.cell?_setCell_same _ _ _ HC9.o) ?_ ?_ ?_ ?_ ?_ ?_ ?_ hle
   ·intro o ho;exact(World.cell?_setCell_other _ _ _ _ (by simpa using Ne.symm ho)).trans (cB (hxk B hBZ hBM hneB))
   ·intro o;exact(World.frozen?_setCell _ _ _ _).trans (World.frozen?_of_block (hxk B hBZ hBM hneB))
   ·exact(HWZ.o.kb.turn (hxk B hBZ hBM hneB)).set _ _ _
   ·refine wY.kept HM6.o ?_;rw[hS _ _ _ _ hBM.symm];exact HS9.o Mg (by have:=HWZ.o.gm.lt;omega) (fun e=>vU hM (hvk Mg e.symm).1 rfl)
   ·rw[<-HOL.o];refine zU HO9.o (fun g hg=>hS _ _ _ _ ?_);rcases HBK9.o with h1 | h1
    ·rw[h1]at hg;exact(HWZ.o.kb.ne (hvk g hg).1 (by decide)).symm
    ·rw[h1]at hg;injection hg with hg;simp at hg;show g≠B
     omega
   ·rcases HBK9.o with h1 | h1
    ·left;rw[h1,HGV.o]
    ·right;exact⟨_,by simp;omega,h1⟩
   ·rw[qWM,<-hn]
  | true =>
   by_cases hl1:1<=lm
   ·by_cases hl2:lm<=16
    ·have hft:ft=true:=by rw[HFT.o,HBK.o];simp[hl1,hl2]
     have hr:0<=lm/\lm<=16:=by omega
     have HPT:=hI (HPB.o.trans (by rw[hft];rfl:_=(jQ (decide (yV gs+max lm 1<=64)) (.mk k x m ln co ks) 45).bind fun _=>(yF ⟨gs,fs.map (fun f=>f.h)⟩ (.mk k x m ln co ks)).bind fun _=>.ok ⟨gs++[⟨Dn,(Dw,Ds),lm⟩],fs.map (fun f=>f.h)⟩));have hwr:IntKind.i64.wrap lm=lm:=IntWalk.i64_in _ (by omega);obtain⟨n,hn⟩:∃ n,yV gs+max lm 1=n:=⟨_,rfl⟩;have hcg:=H0.o.cg;have hcp:(gs.length:Int)<=yV gs:=qJ4 gs;have hwn:IntKind.i64.wrap n=n:=IntWalk.i64_in _ (by omega);have HNY:=hI (fun w'=>qQl (.mk lk lx lm ll lc lks) (.slice lq ln2 lcp) 42 w');try simp only[qZ,qS,tQ]at HNY
     go_wp2
     have HBV:=hI (jR (o:=3) HB3.o (show w.1.size<=N4 by omega) (.int .i64 lm));have HWV:=hI (H0.o.below HBV.o);have HNV:=hI (show Bx w.1.size (.mk k x m ln co ks) (.slice (some ⟨g2,off2,none⟩) (p+1) c) (w3.setCell ⟨N4,3,none⟩ (.int .i64 lm))from(hS w3 ⟨N4,3,none⟩ (.int .i64 lm) w.1.size (by show w.1.size≠N4;omega)).trans HN3.o);have HVV:=hI (HV3.o.sized lm);have HLV:=hI (HN5.o.turn (hS w3 ⟨N4,3,none⟩ (.int .i64 lm) N5 (by show N5≠N4;omega)));have hsV:(w3.setCell ⟨N4,3,none⟩ (.int .i64 lm)).1.size=w3.1.size:=by simp
     try simp only at HVV
     clear y0 y2 v0 v1 v2 v3 vf3 HB3 HW3 HN3 HV3 HN5;generalize (w3.setCell ⟨N4,3,none⟩ (.int .i64 lm))=V at *;have c5:=HWV.o.c5;have cf5:=HWV.o.bf 5 (by omega);have⟨v0,v1,v2,v3,_⟩:=HVV.o.a;try simp only at v0 v1 v2 v3
     have hBV:B < V.1.size:=qJ c5;refine wRg (S:=fun w'=>Below V.1.size V w') 9 ?_;refine wTk 0 35 (.pointer (some ⟨B,0,none⟩)) ?_ (bD V) ?_
     ·intro _ y;go_simp
     refine wTk 1 36 (.pointer (some ⟨B,0,none⟩)) ?_ (bD V) ?_
     ·intro _ y;go_simp
     refine wTk 2 37 (.pointer (some ⟨B,5,none⟩)) ?_ (bD V) ?_
     ·intro _ y;go_simp
     refine wTk 3 38 (.int .i64 (yV gs)) ?_ (bD V) ?_
     ·intro _ y;have c5:=kP y c5;go_simp
     refine wTk 4 39 (.agg #[.string ⟨Dn.toArray⟩, .int .i64 Dw, .bool Ds, .int .i64 lm]) ?_ (bD V) ?_
     ·intro _ y;obtain⟨v0,v1,v2,v3⟩:=kP4 y v0 v1 v2 v3;go_simp
     refine wOn 5 fun K hK=>?_
     go_simp;refine(qVy _ _ _ _ _).mono ?_;rintro e w5 ⟨rfl,hb5⟩;have hb5:=zF hb5;refine kK hK hb5 ?_;clear hK K;have cf5:=(hb5.frozen (p:=⟨B,5,none⟩) hBV).trans cf5;have c5:=kP hb5 c5;have hs5:=hb5.size;clear v0 v1 v2 v3;refine wOn 6 fun K hK=>?_
     go_simp;refine kK hK hb5 ?_;clear hK K;try simp only[Act.put,pZa,pZb,pZc]
     refine wOn 7 fun K hK=>?_
     go_simp;refine kK hK hb5 ?_;clear hK K;try simp only[Act.put,pZa,pZb,pZc]
     refine wOn 8 fun K hK=>?_
     go_simp;refine kK hK hb5 ?_;clear hK K;try simp only[Act.put,pZa,pZb,pZc]
     refine wOn 9 fun K hK=>?_
     go_simp;refine kD hK ?_;clear hK K;refine wDn ?_ _;have HB5:=hI (HBV.o.trans (hb5.mono HBV.o.size));have HW5:=hI ((HWV.o.below hb5).set5 n);have hlo:=H0.o.lo;have HT5:=hI ((jW.of_below (L:=L) HB5.o).set (N:=B) hlo.2.1 5 (.int .i64 n));have hxB:∀ b,b≠B->(w5.setCell ⟨B,5,none⟩ (.int .i64 n)).1[b]? = w5.1[b]?:=fun b hb=>hS w5 ⟨B,5,none⟩ (.int .i64 n) b hb
     have HNU:=hI (show Bx w.1.size (.mk k x m ln co ks) (.slice (some ⟨g2,off2,none⟩) (p+1) c) (w5.setCell ⟨B,5,none⟩ (.int .i64 n))from(hxB _ (by omega)).trans (HNV.o.below hb5));have HVU:=hI ((HVV.o.below hb5).turn (hxB N4 (by omega)));have HLU:=hI ((HLV.o.below hb5).turn (hxB N5 (by omega)));have hsU:(w5.setCell ⟨B,5,none⟩ (.int .i64 n)).1.size=w5.1.size:=by simp
     try simp only[hn,hwn]
     clear hxB hb5 c5 cf5 HBV HWV HNV HVV HLV;generalize (w5.setCell ⟨B,5,none⟩ (.int .i64 n))=U at *;have c5:=HW5.o.c5;obtain⟨n0,n1,n2,n3,n4,n5⟩:=HNU.o.cells;try simp only[tQ]at n0 n1 n2 n3 n4 n5
     go_wp2
     refine wRg (S:=fun w'=>Below U.1.size U w') 10 ?_;refine wTk 0 44 (.bool true) ?_ (bD U) ?_
     ·intro _ y;go_simp
     refine wTk 1 45 (.bool false) ?_ (bD U) ?_
     ·intro _ y;go_simp
     refine wTk 2 46 (.bool false) ?_ (bD U) ?_
     ·intro _ y;go_simp
     refine wTk 3 47 (.pointer (some ⟨B,0,none⟩)) ?_ (bD U) ?_
     ·intro _ y;go_simp
     refine wTk 4 48 (.pointer (some ⟨B,0,none⟩)) ?_ (bD U) ?_
     ·intro _ y;go_simp
     refine wTk 5 49 (.pointer (some ⟨B,5,none⟩)) ?_ (bD U) ?_
     ·intro _ y;go_simp
     refine wTk 6 50 (.int .i64 n) ?_ (bD U) ?_
     ·intro _ y;have c5:=kP y c5;go_simp
     refine wTk 7 51 (.bool (decide (n<=64))) ?_ (bD U) ?_
     ·intro _ y;go_simp
     refine wTk 8 52 (.bool (decide (n<=64))) ?_ (bD U) ?_
     ·intro _ y;go_simp
     refine wTk 9 53 (.agg #[.string ⟨k.toArray⟩, .string ⟨x.toArray⟩, .int .u64 m, .int .i64 ln, .int .i64 co, .slice (some ⟨g2,off2,none⟩) (p+1) c]) ?_ (bD U) ?_
     ·intro _ y;obtain⟨n0,n1,n2,n3,n4,n5⟩:=kP6 y n0 n1 n2 n3 n4 n5;go_simp
     refine wOn 10 fun K hK=>?_
     go_simp;refine(HNA.o _ 45 _).mono ?_;rintro e w4 (⟨hbt,rfl,hb4⟩ | ⟨hbt,rfl,hb4⟩);rotate_left
     ·exact⟨rfl,wP.badI (by rw[HPT.o,hn,hbt];rfl) (HT5.o.trans (jW.of_below (zF hb4)))⟩
     have hb4:=zF hb4;have hle:n<=64:=of_decide_eq_true hbt;have HPU:=hI (HPT.o.trans (by rw[hn,hbt];rfl:_=(yF ⟨gs,fs.map (fun f=>f.h)⟩ (.mk k x m ln co ks)).bind fun _=>.ok ⟨gs++[⟨Dn,(Dw,Ds),lm⟩],fs.map (fun f=>f.h)⟩));have HW4:=hI (HW5.o.below hb4);have HT4:=hI (HT5.o.trans (jW.of_below hb4));have HN4:=hI (HNU.o.below hb4);have HV4:=hI (HVU.o.below hb4);have HL4:=hI (HLU.o.below hb4);have hs4:=hb4.size;refine kD hK ?_;clear hK K hb4 n0 n1 n2 n3 n4 n5 c5 HW5 HT5 HNU HVU HLU HPT hbt;try simp only[Act.put,pZa,pZb,pZc]
     refine wDn ?_ _;obtain⟨n0,n1,n2,n3,n4,n5⟩:=HN4.o.cells;try simp only[tQ]at n0 n1 n2 n3 n4 n5
     go_wp2_with fail
     refine(HUN.o _ _ HW4.o).mono ?_;rintro e w7 hX;rcases hX.cases with⟨a,u',hp,rfl,rfl,hb7⟩ | ⟨l',c',code,hp,rfl,hb7⟩;rotate_left
     ·exact⟨rfl,wP.badI (by rw[HPU.o,hp];rfl) (HT4.o.trans (jW.of_below hb7))⟩
     have HPOS:=hI (qKQ hp);have HPV:=hI (HPU.o.trans (by rw[hp];rfl:_=.ok ⟨gs++[⟨Dn,(Dw,Ds),lm⟩],fs.map (fun f=>f.h)⟩));have HW7:=hI (HW4.o.below hb7);have HT7:=hI (HT4.o.trans (jW.of_below hb7));have HV7:=hI (HV4.o.below hb7);have HL7:=hI (HL4.o.below hb7);have hs7:=hb7.size;clear n0 n1 n2 n3 n4 n5 hX hp hb7 HW4 HT4 HN4 HV4 HL4 HPU;have⟨y0,y1,y2,y3,y4,y5,_⟩:=HL7.o.a;go_wp2_with fail
     refine(HNY.o _).mono ?_;rintro e Z ⟨rfl,hbZ⟩;have HWZ:=hI (HW7.o.below hbZ);have HTZ:=hI (HT7.o.trans (jW.of_below hbZ));have HVZ:=hI (HV7.o.below hbZ);have hsZ:=hbZ.size;clear y0 y1 y2 y3 y4 y5 hbZ HW7 HT7 HV7 HL7;have c3:=HWZ.o.c3;have c0:=HWZ.o.c0;have v0:=HVZ.o.c0;try simp only at v0
     obtain⟨vq,vc,hgv⟩:=qZL HWZ.o.grow;obtain⟨ol,hol⟩:∃ ol:Nat,ol=gs.length:=⟨_,rfl⟩;have HOL:=hI hol;rw[<-hol]at hgv;have HGV:=hI hgv;rw[hgv]at c0;have ho63:(ol:Int) < 1000000:=by omega
     obtain⟨w6,hrun,hm6,hg6⟩:=(HWZ.o.gm.below (Below.refl _ _).drew).store Dn (by rw[HDN.o];have:=HX.o;unfold maxLen;omega) (by rw[HDN.o];exact HPOS.o.1) (by simp only[List.length_map];omega);rw[show((gs.map (·.name)).length:Int)=(ol:Nat) by rw[List.length_map,hol]]at hrun;clear hol hgv;go_wp2
     refine wRg (S:=fun w'=>Below Z.1.size Z w') 12 ?_;refine wTk 0 61 (.pointer (some ⟨B,0,none⟩)) ?_ (bD Z) ?_
     ·intro _ y;go_simp
     refine wTk 1 62 (.pointer (some ⟨B,0,none⟩)) ?_ (bD Z) ?_
     ·intro _ y;go_simp
     refine wTk 2 63 (.pointer (some ⟨B,3,none⟩)) ?_ (bD Z) ?_
     ·intro _ y;go_simp
     refine wTk 3 64 (.map (some Mg)) ?_ (bD Z) ?_
     ·intro _ y;have c3:=kP y c3;have v0:=kP y v0;go_simp
     refine wTk 4 65 (.pointer (some ⟨N4,0,none⟩)) ?_ (bD Z) ?_
     ·intro _ y;go_simp
     refine wTk 5 66 (.string ⟨Dn.toArray⟩) ?_ (bD Z) ?_
     ·intro _ y;have v0:=kP y v0;go_simp
     refine wTk 6 67 (.pointer (some ⟨B,0,none⟩)) ?_ (bD Z) ?_
     ·intro _ y;go_simp
     refine wTk 7 68 (.pointer (some ⟨B,0,none⟩)) ?_ (bD Z) ?_
     ·intro _ y;go_simp
     refine wTk 8 69 (.pointer (some ⟨B,0,none⟩)) ?_ (bD Z) ?_
     ·intro _ y;go_simp
     refine wTk 9 70 (.pointer (some ⟨B,0,none⟩)) ?_ (bD Z) ?_
     ·intro _ y;go_simp
     refine wTk 10 71 (.slice vq ol vc) ?_ (bD Z) ?_
     ·intro _ y;have c0:=kP y c0;go_simp
     refine wTk 11 72 (.int .i64 ol) ?_ (bD Z) ?_
     ·intro _ y;go_simp
     refine wOn 12 fun K hK=>?_
     go_simp;refine kD hK ?_;clear hK K;refine wDn ?_ _;have hM:=HWZ.o.gm.isMap;have HK6:=hI (show ∀ b,b < Z.1.size->b≠Mg->w6.1[b]? = Z.1[b]? from fun b hb hne=>hg6.block b hb (fun e=>hne (by injection e)));have hBM:B≠Mg:=(vU hM HWZ.o.kb).symm;have hNM:N4≠Mg:=fun e=>by have:=H0.o.gm.lt;omega
     have kc:∀ {b o u},b < Z.1.size->b≠Mg->Z.cell? ⟨b,o,none⟩=some u->w6.cell? ⟨b,o,none⟩=some u:=fun hb hne hc=>(cB (HK6.o _ hb hne)).trans hc
     have hBZ:B < Z.1.size:=qJ HWZ.o.c0;have c0:=kc hBZ hBM c0;have v0:=kc HVZ.o.lt hNM HVZ.o.c0;have v1:=kc HVZ.o.lt hNM HVZ.o.c1;have v2:=kc HVZ.o.lt hNM HVZ.o.c2;have v3:=kc HVZ.o.lt hNM HVZ.o.c3;try simp only at v0 v1 v2 v3
     have hr0:w.ownsRow L 42 4 (.slice vq ol vc) ol (xD qQe gs):=by
      have hr:=H0.o.grow;rw[HGV.o]at hr;unfold qQI at hr;rw[<-HOL.o]at hr;exact hr
     have hrZ:Z.ownsRow L 42 4 (.slice vq ol vc) ol (xD qQe gs):=by
      have hr:=HWZ.o.grow;rw[HGV.o]at hr;unfold qQI at hr;rw[<-HOL.o]at hr;exact hr
     have hvk:∀ g,(Value.slice vq ol vc).ownBlock=some g->jX Z g 42/\g < w.1.size:=fun g hg=>⟨zE hrZ hg,(hr0.lt g hg).2⟩
     have hneB:some B≠(Value.slice vq ol vc).ownBlock:=fun e=>(HWZ.o.kb.ne (hvk B e.symm).1 (by decide)) rfl
     have hneN:some N4≠(Value.slice vq ol vc).ownBlock:=fun e=>by have:=(hvk _ e.symm).2;omega
     have HROW:=hI (show w6.ownsRow L 42 4 (.slice vq ol vc) ol (xD qQe gs)from zU hrZ (fun g hg=>HK6.o g (by have:=(hvk g hg).2;omega) (vU hM (hvk g hg).1).symm));have hs6:Z.1.size<=w6.1.size:=hg6.size;have HG6:=hI hg6;have HM6:=hI hm6;clear hg6 hm6 kc hrun c3 hr0 hrZ;go_wp2
     refine wRg (S:=fun w'=>∀ b,b < w6.1.size->some b≠(Value.slice vq ol vc).ownBlock->w'.1[b]? = w6.1[b]?) 12 ?_;refine wTk 0 73 (.pointer (some ⟨B,0,none⟩)) ?_ ((fun _ _ _=>rfl)) ?_
     ·intro _ y;go_simp
     refine wTk 1 74 (.pointer (some ⟨B,0,none⟩)) ?_ ((fun _ _ _=>rfl)) ?_
     ·intro _ y;go_simp
     refine wTk 2 75 (.pointer (some ⟨B,0,none⟩)) ?_ ((fun _ _ _=>rfl)) ?_
     ·intro _ y;go_simp
     refine wTk 3 76 (.pointer (some ⟨B,0,none⟩)) ?_ ((fun _ _ _=>rfl)) ?_
     ·intro _ y;go_simp
     refine wTk 4 77 (.pointer (some ⟨B,0,none⟩)) ?_ ((fun _ _ _=>rfl)) ?_
     ·intro _ y;go_simp
     refine wTk 5 78 (.slice vq ol vc) ?_ ((fun _ _ _=>rfl)) ?_
     ·intro _ y;have c0:=(cB (y _ (qJ c0) hneB)).trans c0;go_simp
     refine wTk 6 79 (.agg #[.string ⟨Dn.toArray⟩, .int .i64 Dw, .bool Ds, .int .i64 lm]) ?_ ((fun _ _ _=>rfl)) ?_
     ·intro _ y;have v0:=(cB (y _ (qJ v0) hneN)).trans v0;have v1:=(cB (y _ (qJ v1) hneN)).trans v1;have v2:=(cB (y _ (qJ v2) hneN)).trans v2;have v3:=(cB (y _ (qJ v3) hneN)).trans v3;go_simp
     refine wOn 7 fun K hK=>?_
     go_simp;refine kK hK (fun b hb _=>Below.heap_alloc w6.drew _ b hb) ?_;clear hK K;refine wOn 8 fun K hK=>?_
     refine qQJ (lo:=L) (dd:=81) (news:=qQe ⟨Dn,(Dw,Ds),lm⟩) underlying27 info42 (by decide) rfl (by decide) _ _ rfl rfl HROW.o.drew (by simp;omega) rfl rfl rfl rfl (qVo _) (by omega) (fun v9 w9 ho9 hg9 hbk9=>?_);obtain⟨q9,c9,rfl⟩:∃ q c,v9=.slice q (ol+1) c:=by
      rcases ho9.2 with⟨_,h0⟩ | ⟨g,cap,cur,rfl,_⟩
      ·omega
      ·exact⟨_,_,rfl⟩
     have S9:∀ b,b < w6.1.size->some b≠(Value.slice vq ol vc).ownBlock->w9.1[b]? = w6.1[b]?:=fun b hb hne=>(hg9.block b (by simp;omega) hne).trans (Below.heap_alloc w6.drew _ b hb)
     refine kK hK S9 ?_;clear hK K;refine wOn 9 fun K hK=>?_
     go_simp;refine kK hK S9 ?_;clear hK K;try simp only[Act.put,pZa,pZb,pZc]
     refine wOn 10 fun K hK=>?_
     go_simp;refine kK hK S9 ?_;clear hK K;try simp only[Act.put,pZa,pZb,pZc]
     refine wOn 11 fun K hK=>?_
     go_simp;refine kK hK S9 ?_;clear hK K;try simp only[Act.put,pZa,pZb,pZc]
     have hB6:B < w6.1.size:=qJ c0;have c09:=(cB (S9 B hB6 hneB)).trans c0;have f09:w9.frozen? ⟨B,0,none⟩=false:=(World.frozen?_of_block (S9 B hB6 hneB)).trans ((World.frozen?_of_block (HK6.o B hBZ hBM)).trans (HWZ.o.bf 0 (by omega)));have hs9:w6.1.size+1<=w9.1.size:=by have:=hg9.size;simpa using this
     refine wOn 12 fun K hK=>?_
     go_simp;refine kD hK ?_;clear hK K;refine wDn ?_ _;have HO9:=hI ho9;have HG9:=hI hg9;have HBK9:=hI hbk9;have HS9:=hI S9;have hcB:=hlo.2.1;have HC9:=hI c09;clear c0 v0 v1 v2 v3 c09 f09 ho9 hg9 hbk9 S9;go_wp2
     go_end0;have base:∀ b,b < Z.1.size->b≠B->b≠Mg->some b≠gv.ownBlock->(w9.setCell ⟨B,0,none⟩ (.slice q9 (ol+1) c9)).1[b]? = Z.1[b]?:=fun b hb h1 h2 h3=>by
      rw[hS _ _ _ _ h1];refine(HS9.o b (by omega) ?_).trans (HK6.o b hb h2);rw[<-HGV.o];exact h3
     have hT:jW L w (w9.setCell ⟨B,0,none⟩ (.slice q9 (ol+1) c9)):=HTZ.o.trans ⟨(rfl:(w9.setCell ⟨B,0,none⟩ (.slice q9 (ol+1) c9)).os=w9.os).trans (HG9.o.os.trans HG6.o.os),by simpa using HG9.o.tape.trans HG6.o.tape,(rfl:(w9.setCell ⟨B,0,none⟩ (.slice q9 (ol+1) c9)).output=w9.output).trans (HG9.o.output.trans HG6.o.output),by simp;omega,fun b hb hbL=>base b hb (by omega) (by have:=H0.o.lo;omega) (fun e=>by have:=(H0.o.grow.lt b e.symm).1;omega)⟩;refine wP.okI (gv:=.slice q9 (ol+1) c9) (fv:=fv) HPV.o ?_ hT;have hBW9:(w9.setCell ⟨B,0,none⟩ (.slice q9 (ol+1) c9)).1.size=w9.1.size:=by simp
     have hxk:∀ b,b < Z.1.size->b≠Mg->some b≠(Value.slice vq ol vc).ownBlock->w9.1[b]? = Z.1[b]?:=fun b hb h2 h3=>(HS9.o b (by omega) h3).trans (HK6.o b hb h2)
     refine HWZ.o.glob (gv':=.slice q9 (ol+1) c9) (d:=⟨Dn,(Dw,Ds),lm⟩) (by rw[hBW9];omega) base (World.cell?_setCell_same _ _ _ HC9.o) ?_ ?_ ?_ ?_ ?_ ?_ ?_ hle
     ·intro o ho;exact(World.cell?_setCell_other _ _ _ _ (by simpa using Ne.symm ho)).trans (cB (hxk B hBZ hBM hneB))
     ·intro o;exact(World.frozen?_setCell _ _ _ _).trans (World.frozen?_of_block (hxk B hBZ hBM hneB))
     ·exact(HWZ.o.kb.turn (hxk B hBZ hBM hneB)).set _ _ _
     ·refine wY.kept HM6.o ?_;rw[hS _ _ _ _ hBM.symm];exact HS9.o Mg (by have:=HWZ.o.gm.lt;omega) (fun e=>vU hM (hvk Mg e.symm).1 rfl)
     ·rw[<-HOL.o];refine zU HO9.o (fun g hg=>hS _ _ _ _ ?_);rcases HBK9.o with h1 | h1
      ·rw[h1]at hg;exact(HWZ.o.kb.ne (hvk g hg).1 (by decide)).symm
      ·rw[h1]at hg;injection hg with hg;simp at hg;show g≠B
       omega
     ·rcases HBK9.o with h1 | h1
      ·left;rw[h1,HGV.o]
      ·right;exact⟨_,by simp;omega,h1⟩
     ·rw[qWM,<-hn]
    ·have hft:ft=false:=by rw[HFT.o,HBK.o];simp[hl1,hl2]
     have hl3:16 < lm:=by omega
     have HPF:=hI (HPB.o.trans (by rw[hft];rfl:_=(yF ⟨gs,fs.map (fun f=>f.h)⟩ (.mk k x m ln co ks)).bind fun _=>.bad ll lc 42));obtain⟨n0,n1,n2,n3,n4,n5⟩:=HN3.o.cells;have HNN:=hI (fun w'=>qQ5 (.mk lk lx lm ll lc lks) (.slice lq ln2 lcp) 42 w');try simp only[qZ,qS,tQ]at HNN n0 n1 n2 n3 n4 n5
     go_wp2
     refine wRg (S:=fun w'=>Below w3.1.size w3 w') 10 ?_;refine wTk 0 44 (.bool false) ?_ (bD w3) ?_
     ·intro _ y;go_simp
     refine wTk 1 45 (.bool true) ?_ (bD w3) ?_
     ·intro _ y;go_simp
     refine wTk 2 46 (.bool true) ?_ (bD w3) ?_
     ·intro _ y;go_simp
     refine xG (i:=3) (d:=47) rfl rfl (by kernel_rfl) (fun _ _ _ h=>h) (by rfl) ((Below.refl w3.1.size w3).drew) ?_;try simp only[Act.put,pZa,pZb,pZc]
     refine xG (i:=4) (d:=48) rfl rfl (by kernel_rfl) (fun _ _ _ h=>h) (by rfl) ((Below.refl w3.1.size w3).drew) ?_;try simp only[Act.put,pZa,pZb,pZc]
     refine xG (i:=5) (d:=49) rfl rfl (by kernel_rfl) (fun _ _ _ h=>h) (by rfl) ((Below.refl w3.1.size w3).drew) ?_;try simp only[Act.put,pZa,pZb,pZc]
     refine xG (i:=6) (d:=50) rfl rfl (by kernel_rfl) (fun _ _ _ h=>h) (by rfl) ((Below.refl w3.1.size w3).drew) ?_;try simp only[Act.put,pZa,pZb,pZc]
     refine xG (i:=7) (d:=51) rfl rfl (by kernel_rfl) (fun _ _ _ h=>h) (by rfl) ((Below.refl w3.1.size w3).drew) ?_;try simp only[Act.put,pZa,pZb,pZc]
     refine wTk 8 52 (.bool true) ?_ (bD w3) ?_
     ·intro _ y;go_simp
     refine wTk 9 53 (.agg #[.string ⟨k.toArray⟩, .string ⟨x.toArray⟩, .int .u64 m, .int .i64 ln, .int .i64 co, .slice (some ⟨g2,off2,none⟩) (p+1) c]) ?_ (bD w3) ?_
     ·intro _ y;obtain⟨n0,n1,n2,n3,n4,n5⟩:=kP6 y n0 n1 n2 n3 n4 n5;go_simp
     refine wOn 10 fun K hK=>?_
     go_simp;refine(HNA.o true 45 _).mono ?_;rintro e w4 (⟨_,rfl,hb4⟩ | ⟨hbt,_⟩);rotate_left
     ·cases hbt
     have hb4:=zF hb4;have HW4:=hI (HW3.o.below hb4);have HB4:=hI (HB3.o.trans (hb4.mono (by omega)));have HN4:=hI (HN3.o.below hb4);have HL4:=hI (HN5.o.below hb4);have hs4:=hb4.size;refine kD hK ?_;clear hK K hb4 n0 n1 n2 n3 n4 n5 y0 y2 v0 v1 v2 v3 vf3;try simp only[Act.put,pZa,pZb,pZc]
     refine wDn ?_ _;obtain⟨n0,n1,n2,n3,n4,n5⟩:=HN4.o.cells;try simp only[tQ]at n0 n1 n2 n3 n4 n5
     have⟨y0,y1,y2,y3,y4,y5,_⟩:=HL4.o.a;go_wp2_with fail
     refine(HUN.o _ _ HW4.o).mono ?_;rintro e w5 hX;rcases hX.cases with⟨a,u',hp,rfl,rfl,hb5⟩ | ⟨l',c',code,hp,rfl,hb5⟩;rotate_left
     ·exact⟨rfl,wP.badI (by rw[HPF.o,hp];rfl) (jW.of_below (HB4.o.trans (hb5.mono HB4.o.size)))⟩
     have HL5:=hI (HL4.o.below hb5);have HB5:=hI (HB4.o.trans (hb5.mono HB4.o.size));have HPG:=hI (HPF.o.trans (by rw[hp];rfl:_=.bad ll lc 42));clear n0 n1 n2 n3 n4 n5 y0 y1 y2 y3 y4 y5 hX hp hb5;have⟨y0,y1,y2,y3,y4,y5,_⟩:=HL5.o.a;go_wp2_with fail
     refine(HNN.o _).mono ?_;rintro e w6 ⟨rfl,hb6⟩;exact⟨rfl,wP.badI HPG.o (jW.of_below (HB5.o.trans (hb6.mono HB5.o.size)))⟩
   ·have hft:ft=false:=by rw[HFT.o,HBK.o];simp[hl1]
    have hl3:lm < 1:=by omega
    have HPF:=hI (HPB.o.trans (by rw[hft];rfl:_=(yF ⟨gs,fs.map (fun f=>f.h)⟩ (.mk k x m ln co ks)).bind fun _=>.bad ll lc 42));obtain⟨n0,n1,n2,n3,n4,n5⟩:=HN3.o.cells;have HNN:=hI (fun w'=>qQ5 (.mk lk lx lm ll lc lks) (.slice lq ln2 lcp) 42 w');try simp only[qZ,qS,tQ]at HNN n0 n1 n2 n3 n4 n5
    go_wp2
    refine wRg (S:=fun w'=>Below w3.1.size w3 w') 10 ?_;refine wTk 0 44 (.bool false) ?_ (bD w3) ?_
    ·intro _ y;go_simp
    refine wTk 1 45 (.bool true) ?_ (bD w3) ?_
    ·intro _ y;go_simp
    refine wTk 2 46 (.bool true) ?_ (bD w3) ?_
    ·intro _ y;go_simp
    refine xG (i:=3) (d:=47) rfl rfl (by kernel_rfl) (fun _ _ _ h=>h) (by rfl) ((Below.refl w3.1.size w3).drew) ?_;try simp only[Act.put,pZa,pZb,pZc]
    refine xG (i:=4) (d:=48) rfl rfl (by kernel_rfl) (fun _ _ _ h=>h) (by rfl) ((Below.refl w3.1.size w3).drew) ?_;try simp only[Act.put,pZa,pZb,pZc]
    refine xG (i:=5) (d:=49) rfl rfl (by kernel_rfl) (fun _ _ _ h=>h) (by rfl) ((Below.refl w3.1.size w3).drew) ?_;try simp only[Act.put,pZa,pZb,pZc]
    refine xG (i:=6) (d:=50) rfl rfl (by kernel_rfl) (fun _ _ _ h=>h) (by rfl) ((Below.refl w3.1.size w3).drew) ?_;try simp only[Act.put,pZa,pZb,pZc]
    refine xG (i:=7) (d:=51) rfl rfl (by kernel_rfl) (fun _ _ _ h=>h) (by rfl) ((Below.refl w3.1.size w3).drew) ?_;try simp only[Act.put,pZa,pZb,pZc]
    refine wTk 8 52 (.bool true) ?_ (bD w3) ?_
    ·intro _ y;go_simp
    refine wTk 9 53 (.agg #[.string ⟨k.toArray⟩, .string ⟨x.toArray⟩, .int .u64 m, .int .i64 ln, .int .i64 co, .slice (some ⟨g2,off2,none⟩) (p+1) c]) ?_ (bD w3) ?_
    ·intro _ y;obtain⟨n0,n1,n2,n3,n4,n5⟩:=kP6 y n0 n1 n2 n3 n4 n5;go_simp
    refine wOn 10 fun K hK=>?_
    go_simp;refine(HNA.o true 45 _).mono ?_;rintro e w4 (⟨_,rfl,hb4⟩ | ⟨hbt,_⟩);rotate_left
    ·cases hbt
    have hb4:=zF hb4;have HW4:=hI (HW3.o.below hb4);have HB4:=hI (HB3.o.trans (hb4.mono (by omega)));have HN4:=hI (HN3.o.below hb4);have HL4:=hI (HN5.o.below hb4);have hs4:=hb4.size;refine kD hK ?_;clear hK K hb4 n0 n1 n2 n3 n4 n5 y0 y2 v0 v1 v2 v3 vf3;try simp only[Act.put,pZa,pZb,pZc]
    refine wDn ?_ _;obtain⟨n0,n1,n2,n3,n4,n5⟩:=HN4.o.cells;try simp only[tQ]at n0 n1 n2 n3 n4 n5
    have⟨y0,y1,y2,y3,y4,y5,_⟩:=HL4.o.a;go_wp2_with fail
    refine(HUN.o _ _ HW4.o).mono ?_;rintro e w5 hX;rcases hX.cases with⟨a,u',hp,rfl,rfl,hb5⟩ | ⟨l',c',code,hp,rfl,hb5⟩;rotate_left
    ·exact⟨rfl,wP.badI (by rw[HPF.o,hp];rfl) (jW.of_below (HB4.o.trans (hb5.mono HB4.o.size)))⟩
    have HL5:=hI (HL4.o.below hb5);have HB5:=hI (HB4.o.trans (hb5.mono HB4.o.size));have HPG:=hI (HPF.o.trans (by rw[hp];rfl:_=.bad ll lc 42));clear n0 n1 n2 n3 n4 n5 y0 y1 y2 y3 y4 y5 hX hp hb5;have⟨y0,y1,y2,y3,y4,y5,_⟩:=HL5.o.a;go_wp2_with fail
    refine(HNN.o _).mono ?_;rintro e w6 ⟨rfl,hb6⟩;exact⟨rfl,wP.badI HPG.o (jW.of_below (HB5.o.trans (hb6.mono HB5.o.size)))⟩
end Go.Proofs.YtiajhekdhhhghaaGreatDoor
