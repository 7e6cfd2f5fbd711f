/- Walks. -/
import Derived.Test.YtiajhekdhhhghaaGreatDoorNam
set_option linter.all false
set_option maxHeartbeats 8000000
set_option maxRecDepth 100000
namespace Go.Proofs.YtiajhekdhhhghaaGreatDoor
open Tryz Go.Proofs.Tryz
open Go Go.RowKit
theorem qMa{P:Program}{ops:Array Oper}{Q:Exit->Act->World->Prop}{md:Region.Mode}{S:World->Prop}{tail:Nat->Bool}{i d:Nat}{o:Oper}{fuel:Nat}{j:Array Bool}{a:Act}{w:World}(hi:ops[i]? = some o)(hd:o.dst=some d)
 (hs:(Region.noSelect ops && Region.free md ops j i && (Region.ready md ops j).contains i && qXz md ops tail i && qZM md ops j && !tail i)=true)
 (y:∀ c a w,Q (.panic c) (a.put o.dst undef) w->Q (.panic c) a w) (z:Region.wanted o (yielded ops a.tmps)=false) (s:S w)
 (h:vR P md ops Q S tail fuel (j.setIfInBounds i true) (a.put (some d) undef) w):vR P md ops Q S tail (fuel+1) j a w:=by
 simp only[bE,Bool.not_eq_true']at hs;exact qVp hi (Region.noSelect_spec hs.1.1.1.1.1) y hs.1.1.2 hs.2 fuel j a w (Region.free_spec hi hs.1.1.1.1.2) hs.1.2 (by simpa using hs.1.1.1.2) (.inr ⟨z,rfl⟩) s (by rw[hd];exact h)
def AlRel(n:Nat)(W:World)(i:Value)(wr:World):Prop:=∃ k:Nat,k<=n/\i=.int .i64 k/\Below W.1.size W wr
def AlS(B:Nat)(ss:List Sx):Prop:=∀ (q:Option Addr) (c:Nat) (w:World),B<=w.1.size->qVt B w ss q->ss.length<=maxLen->(∀ s∈ss,qMA s)->Calls prog 11 #[.slice q ss.length c] w (xM true w)
def noG(op:List UInt8):Prop:=(op == [105,102])=false/\(op == [119,104,105,108,101])=false/\(op == [97,115,115,101,114,116])=false/\(op == [97,115,115,117,109,101])=false
theorem guard_or(op:List UInt8):(op=[105,102]\/op=[119,104,105,108,101]\/op=[97,115,115,101,114,116]\/op=[97,115,115,117,109,101])\/noG op:=by
 by_cases j:op=kIf
 ·exact .inl (.inl j)
 by_cases h2:op=qA
 ·exact .inl (.inr (.inl h2))
 by_cases h3:op=qF
 ·exact .inl (.inr (.inr (.inl h3)))
 by_cases h4:op=qD
 ·exact .inl (.inr (.inr (.inr h4)))
 ·exact .inr ⟨by simpa[kIf]using j,by simpa[qA]using h2,by simpa[qF]using h3,by simpa[qD]using h4⟩
theorem all_step(B:Nat)(ts:List Sx)(hrec:∀ t∈ts,AlS B t.thn/\AlS B t.els):AlS B ts:=by
 intro q c w hB h1 hn hs;have H1:=hI h1;have HS:=hI hs;have HR:=hI hrec;unfold maxLen at hn;clear h1 hs hrec;unfold xM;go_enter func11,ntmps11
 go_wp2_with fail
 go_loopw [3] (fun i wr=>AlRel ts.length w i wr) (fun i _=>ts.length - (intOf i).toNat)
 case atStart=>exact⟨0,Nat.zero_le _,rfl,Below.refl _ _⟩
 case round =>
  obtain⟨k,hk,rfl,hb⟩:=hrel;have U:=hI hb;clear hb;by_cases f3:k < ts.length
  case neg =>
   go_wp2
   go_ret;exact⟨rfl,U.o⟩
  case pos =>
  obtain⟨g,rfl,m6,m7,f7⟩:=(H1.o.keep (U.o.mono hB)).resolve_left (fun e=>by rw[e]at f3;simp at f3);obtain⟨v1,l1,C1⟩:=f7 k f3;obtain⟨q1,c1,q2,c2,q3,c3,q4,c4,rfl,a1,a2,a3,a4,m1,m2,m3,m4⟩:=l1.at
  have⟨k0,k1,k2,k3,k4,k5,k6,k7,_⟩:=C1.a;have d3:B<=wr.1.size:=by have:=U.o.size;omega
  have g6:=HS.o ts[k] (List.getElem_mem _);have E3:=hI (fun(W:World) (h:Below wr.1.size wr W)=>(HR.o ts[k] (List.getElem_mem _)).1 q3 c3 W (Nat.le_trans d3 h.size) (a3.keep (h.mono d3)) m3);have E4:=hI (fun(W:World) (h:Below wr.1.size wr W)=>(HR.o ts[k] (List.getElem_mem _)).2 q4 c4 W (Nat.le_trans d3 h.size) (a4.keep (h.mono d3)) m4);have A1:=hI a1;have A2:=hI a2;have g8:(k:Int) < (ts.length:Nat):=by omega
  have m9:(0:Int)<=(k:Int):=by omega
  clear C1 f7 l1 a1 a2 a3 a4 m3 m4;unfold maxLen at m1 m2;generalize ts[k]=t at *;obtain⟨op,l,co,tg,Y,fn,th,el⟩:=t;cases g6 with
  | mk _ _ _ _ _ _ _ _ s1 s2 s3 s4 s5 s6 =>
  simp only[Sx.op,Sx.line,Sx.col,Sx.target,Sx.exprs,Sx.fn,Sx.thn,Sx.els]at k0 k1 k2 k3 k4 k5 k6 k7 E3 E4 A1 A2 m1 m2;have G1:=hI s1;have G2:=hI s2;have G3:=hI s3;have G4:=hI s4;have F3:=hI (fun(W:World) (h:Below wr.1.size wr W)=>E3.o W h s5);have F4:=hI (fun(W:World) (h:Below wr.1.size wr W)=>E4.o W h s6);have ha:=bal (Below.refl wr.1.size wr) (.cells #[.string ⟨op.toArray⟩, .int .i64 l, .int .i64 co, .slice q1 tg.length c1, .slice q2 Y.length c2, .int .i64 fn, .slice q3 th.length c3, .slice q4 el.length c4] 73);have HA:=hI ha;have HN:=hI (vL wr (.cells #[.string ⟨op.toArray⟩, .int .i64 l, .int .i64 co, .slice q1 tg.length c1, .slice q2 Y.length c2, .int .i64 fn, .slice q3 th.length c3, .slice q4 el.length c4] 73));have n5:(wr.alloc (.cells #[.string ⟨op.toArray⟩, .int .i64 l, .int .i64 co, .slice q1 tg.length c1, .slice q2 Y.length c2, .int .i64 fn, .slice q3 th.length c3, .slice q4 el.length c4] 73)).1.size=wr.1.size+1:=by simp
  clear s1 s2 s3 s4 s5 s6 E3 E4 ha;go_wp2_with fail
  clear k0 k1 k2 k3 k4 k5 k6 k7;generalize wr.alloc (.cells #[.string ⟨op.toArray⟩, .int .i64 l, .int .i64 co, .slice q1 tg.length c1, .slice q2 Y.length c2, .int .i64 fn, .slice q3 th.length c3, .slice q4 el.length c4] 73)=W0 at *;have m0:=hI HA.o;obtain⟨wo,rfl⟩:∃ wo:World,wo=wr:=⟨_,rfl⟩;go_loopw [5] (fun i wr=>AlRel Y.length W0 i wr) (fun i _=>Y.length - (intOf i).toNat)
  case atStart=>exact⟨0,Nat.zero_le _,rfl,Below.refl _ _⟩
  case round =>
   obtain⟨j,hj,rfl,O⟩:=hrel;have G:=hI O;have I:=hI (HA.o.trans (O.mono (by omega)));obtain⟨R,o1,o2,o3,o4,o5,o6,o7⟩:=qVx ((O.block wo.1.size (by omega)).trans HN.o);have hlo:=qJ R;simp only at hlo;clear O;by_cases d4:j < Y.length
   case pos =>
    obtain⟨g2,rfl,f9,d8,d6⟩:=(A2.o.keep (I.o.mono d3)).resolve_left (fun e=>by rw[e]at d4;simp at d4);obtain⟨v2,l2,C2⟩:=d6 j d4;obtain⟨qk,ck,rfl,-,-⟩:=l2.at
    generalize f4:Y[j].kids.length=nk at *;have⟨j0,j1,j2,j3,j4,j5,j6,j7,j8,_⟩:=C2.a;have V:B<=wr.1.size:=by have:=I.o.size;omega
    have HC:=hI (fun(W:World) (h:Below wr.1.size wr W)=>qMz B _ Y[j] (Nat.lt_succ_self _) (G1.o _ (List.getElem_mem _)) (.slice qk nk ck) W (Nat.le_trans V h.size) (l2.keep (h.mono V)));have g1:=fun h=>G2.o h _ (List.getElem_mem d4)
    have g0:(j:Int) < (Y.length:Nat):=by omega
    have g5:(0:Int)<=(j:Int):=by omega
    clear C2 d6 l2 f4;generalize Y[j]=u at *;obtain⟨d9,⟨u1,u2⟩,un,uv,ug,ul,uc,g7⟩:=u;simp only[Ex.op,Ex.ty,Ex.num,Ex.var,Ex.glob,Ex.line,Ex.col,exV]at j0 j1 j2 j3 j4 j5 j6 j7 j8 HC g1;unfold xM at HC;go_wp2_with fail
    refine(HC.o _ (Below.refl _ _)).mono ?_;rintro e w2 ⟨rfl,hb4⟩;have d5:=hI (G.o.trans (hb4.mono G.o.size));obtain⟨R,o4,j1⟩:=kP3 hb4 R o4 j1;have hlo:=qJ R;simp only at hlo;have d8:=qJ j1;simp only at d8;clear hb4 HC j0 j2 j3 j4 j5 j6 j7 j8 o1 o2 o3 o5 o6 o7 U H1 HR HS;rcases guard_or op with hg | ⟨n1,n2,n3,n4⟩
    ·have hu:=g1 hg;subst hu;rcases hg with rfl | rfl | rfl | rfl;all_goals
      simp only[kIf,qA,qF,qD]at *;go_wp2
      go_roundw
      case rel=>exact⟨j+1,by omega,by go_num,d5.o⟩
      case measure=>simp[intOf];omega
    ·go_wp2
     go_roundw
     case rel=>exact⟨j+1,by omega,by go_num,d5.o⟩
     case measure=>simp[intOf];omega
   case neg =>
   go_wp2_with fail
   obtain⟨wp,rfl⟩:∃ wp:World,wp=wr:=⟨_,rfl⟩;clear R o1 o2 o3 o4 o5 o6 o7 hlo I;go_loopw [6] (fun i wr=>AlRel tg.length W0 i wr) (fun i _=>tg.length - (intOf i).toNat)
   case atStart=>exact⟨0,Nat.zero_le _,rfl,G.o⟩
   case round =>
    obtain⟨j,hj,rfl,O⟩:=hrel;have G:=hI O;have I:=hI (HA.o.trans (O.mono (by omega)));obtain⟨R,o1,o2,o3,o4,o5,o6,o7⟩:=qVx ((O.block wo.1.size (by omega)).trans HN.o);have hlo:=qJ R;simp only at hlo;clear O;by_cases X:j < tg.length
    case neg =>
     have F3:=hI (F3.o _ I.o);go_wp2_with fail
     refine(F3.o).mono ?_;rintro e w2 ⟨rfl,hb4⟩;have d5:=hI (I.o.trans (hb4.mono I.o.size));have f6:=hI (U.o.trans (d5.o.mono U.o.size));have o7:=kP hb4 o7;have hlo:=qJ o7;simp only at hlo;have F4:=hI (F4.o _ d5.o);clear hb4 R o1 o2 o3 o4 o5 o6 F3 I U;go_wp2_with fail
     refine(F4.o).mono ?_;rintro e w3 ⟨rfl,hb5⟩;have g3:=hI (f6.o.trans (hb5.mono f6.o.size));go_wp2
     go_roundw
     case rel=>exact⟨k+1,by omega,by go_num,g3.o⟩
     case measure=>simp[intOf];omega
    case pos =>
    obtain⟨g2,rfl,f9,d8,d6⟩:=(A1.o.keep (I.o.mono d3)).resolve_left (fun e=>by rw[e]at X;simp at X);obtain⟨v2,l2,C2⟩:=d6 j X;obtain⟨qk,ck,rfl,-,-⟩:=l2.at
    generalize f4:tg[j].kids.length=nk at *;have⟨j0,j1,j2,j3,j4,j5,j6,j7,j8,_⟩:=C2.a;have V:B<=wr.1.size:=by have:=I.o.size;omega
    have HC:=hI (fun(W:World) (h:Below wr.1.size wr W)=>qMz B _ tg[j] (Nat.lt_succ_self _) (G3.o _ (List.getElem_mem _)).2 (.slice qk nk ck) W (Nat.le_trans V h.size) (l2.keep (h.mono V)));have f5:tg[j].op=[118,97,114]\/tg[j].op=[105,110,100,101,120]:=(G3.o _ (List.getElem_mem X)).1;have d7:op=[97,115,115,105,103,110]->∃ ge,q2=some ⟨ge,0,none⟩/\Y.length=1/\wr.cell? ⟨ge,1,none⟩=some (.int .i64 tg[j].ty.1)/\wr.cell? ⟨ge,2,none⟩=some (.bool tg[j].ty.2):=by
     intro h;obtain⟨e,he1,he2⟩:=G4.o h _ (List.getElem_mem X);subst he1;obtain⟨ge,h1,_,_,h4⟩:=(A2.o.keep (I.o.mono d3)).resolve_left (by simp);obtain⟨v,_,C⟩:=h4 0 (by simp);have c1:=C.c1;have c2:=C.c2;simp only[Nat.zero_mul,Nat.zero_add,List.getElem_cons_zero,he2]at c1 c2;exact⟨ge,h1,rfl,c1,c2⟩
    have g0:(j:Int) < (tg.length:Nat):=by omega
    have g5:(0:Int)<=(j:Int):=by omega
    clear C2 d6 l2 f4;generalize tg[j]=u at *;obtain⟨d9,⟨u1,u2⟩,un,uv,ug,ul,uc,g7⟩:=u;simp only[Ex.op,Ex.ty,Ex.num,Ex.var,Ex.glob,Ex.line,Ex.col,exV]at j0 j1 j2 j3 j4 j5 j6 j7 j8 HC f5 d7;unfold xM at HC;have f8:=bal (Below.refl wr.1.size wr) (.cells #[.string ⟨d9.toArray⟩, .int .i64 u1, .bool u2, .int .u64 un, .int .i64 uv, .bool ug, .int .i64 ul, .int .i64 uc, .slice qk nk ck] 76);have HU:=hI (qML (vL wr (.cells #[.string ⟨d9.toArray⟩, .int .i64 u1, .bool u2, .int .u64 un, .int .i64 uv, .bool ug, .int .i64 ul, .int .i64 uc, .slice qk nk ck] 76)));have A:=hI f8;have g9:(wr.alloc (.cells #[.string ⟨d9.toArray⟩, .int .i64 u1, .bool u2, .int .u64 un, .int .i64 uv, .bool ug, .int .i64 ul, .int .i64 uc, .slice qk nk ck] 76)).1.size=wr.1.size+1:=by simp
    clear f8 U H1 HR HS G1 G2 G3 G4 F3 F4 A1 A2;go_wp2_with fail
    generalize wr.alloc (.cells #[.string ⟨d9.toArray⟩, .int .i64 u1, .bool u2, .int .u64 un, .int .i64 uv, .bool ug, .int .i64 ul, .int .i64 uc, .slice qk nk ck] 76)=Z at *;obtain⟨J,y1,y2,y3,y4,y5,y6,y7,y8⟩:=HU.o;have R:=kP A.o R;have o4:=kP A.o o4;clear o1 o2 o3 o5 o6 o7;clear j0 j1 j2 j3 j4 j5 j6 j7 j8 HU;by_cases hA:op=[97,115,115,105,103,110]
    ·obtain⟨ge,rfl,m5,z1,z2⟩:=d7 hA;subst hA;have z1:=kP A.o z1;have z2:=kP A.o z2;have g4:=qJ z1;simp only at g4;rcases f5 with rfl | rfl
     ·refine wRg (S:=fun w'=>Below Z.1.size Z w') 34 ?_;refine wTk 0 74 (.pointer (some ⟨wr.1.size,0,none⟩)) ?_ (bD Z) ?_
      ·intro _ y;go_simp
      refine wTk 1 75 (.string ⟨#[118,97,114]⟩) ?_ (bD Z) ?_
      ·intro _ y;have J:=kP y J;go_simp
      refine wTk 2 76 (.bool false) ?_ (bD Z) ?_
      ·intro _ y;go_simp
      refine wTk 3 77 (.bool false) ?_ (bD Z) ?_
      ·intro _ y;go_simp
      refine qMa (i:=4) (d:=78) rfl rfl (by kernel_rfl) (fun _ _ _ h=>h) (by rfl) ((Below.refl Z.1.size Z).drew) ?_;try simp only[Act.put,pZa,pZb,pZc]
      refine qMa (i:=5) (d:=79) rfl rfl (by kernel_rfl) (fun _ _ _ h=>h) (by rfl) ((Below.refl Z.1.size Z).drew) ?_;try simp only[Act.put,pZa,pZb,pZc]
      refine qMa (i:=6) (d:=80) rfl rfl (by kernel_rfl) (fun _ _ _ h=>h) (by rfl) ((Below.refl Z.1.size Z).drew) ?_;try simp only[Act.put,pZa,pZb,pZc]
      refine wTk 7 81 (.bool false) ?_ (bD Z) ?_
      ·intro _ y;go_simp
      refine wTk 8 82 (.bool false) ?_ (bD Z) ?_
      ·intro _ y;go_simp
      refine wTk 9 83 (.agg #[.string ⟨#[118,97,114]⟩, .int .i64 u1, .bool u2, .int .u64 un, .int .i64 uv, .bool ug, .int .i64 ul, .int .i64 uc, .slice qk nk ck]) ?_ (bD Z) ?_
      ·intro _ y;obtain⟨J,y1,y2,y3,y4,y5,y6,y7⟩:=kP8 y J y1 y2 y3 y4 y5 y6 y7;have y8:=kP y y8;go_simp
      refine wOn 10 fun K hK=>?_
      go_simp;refine(HC.o _ A.o.drew).mono ?_;rintro e v1 ⟨rfl,z⟩;have z:=zF z;have s:=hI z;refine kK hK z ?_;clear hK K;clear z;refine wTk 11 85 (.bool false) ?_ s.o ?_
      ·intro _ y;go_simp
      refine wTk 12 86 (.bool false) ?_ s.o ?_
      ·intro _ y;go_simp
      refine wTk 13 87 (.bool false) ?_ s.o ?_
      ·intro _ y;go_simp
      refine wTk 14 88 (.pointer (some ⟨wo.1.size,0,none⟩)) ?_ s.o ?_
      ·intro _ y;go_simp
      refine wTk 15 89 (.string ⟨#[97,115,115,105,103,110]⟩) ?_ s.o ?_
      ·intro _ y;have R:=kP y R;go_simp
      refine wTk 16 90 (.bool true) ?_ s.o ?_
      ·intro _ y;go_simp
      refine wTk 17 91 (.bool true) ?_ s.o ?_
      ·intro _ y;go_simp
      refine wTk 18 92 (.pointer (some ⟨wo.1.size,4,none⟩)) ?_ s.o ?_
      ·intro _ y;go_simp
      refine wTk 19 93 (.slice (some ⟨ge,0,none⟩) Y.length c2) ?_ s.o ?_
      ·intro _ y;have o4:=kP y o4;go_simp
      refine wTk 20 94 (.int .i64 1) ?_ s.o ?_
      ·intro _ y;go_simp
      refine wTk 21 95 (.bool false) ?_ s.o ?_
      ·intro _ y;go_simp
      refine wTk 22 96 (.bool false) ?_ s.o ?_
      ·intro _ y;go_simp
      refine wTk 23 97 (.pointer (some ⟨wo.1.size,4,none⟩)) ?_ s.o ?_
      ·intro _ y;go_simp
      refine wTk 24 98 (.slice (some ⟨ge,0,none⟩) Y.length c2) ?_ s.o ?_
      ·intro _ y;have o4:=kP y o4;go_simp
      refine wTk 25 99 (.pointer (some ⟨ge,0,none⟩)) ?_ s.o ?_
      ·intro _ y;go_simp
      refine wTk 26 100 (.pointer (some ⟨ge,1,none⟩)) ?_ s.o ?_
      ·intro _ y;go_simp
      refine wTk 27 101 (.agg #[.int .i64 u1, .bool u2]) ?_ s.o ?_
      ·intro _ y;have z1:=kP y z1;have z2:=kP y z2;go_simp
      refine wTk 28 102 (.pointer (some ⟨wr.1.size,1,none⟩)) ?_ s.o ?_
      ·intro _ y;go_simp
      refine wTk 29 103 (.agg #[.int .i64 u1, .bool u2]) ?_ s.o ?_
      ·intro _ y;have y1:=kP y y1;have y2:=kP y y2;go_simp
      refine wTk 30 104 (.bool false) ?_ s.o ?_
      ·intro _ y;go_simp
      refine wTk 31 105 (.bool false) ?_ s.o ?_
      ·intro _ y;go_simp
      refine wTk 32 106 (.bool false) ?_ s.o ?_
      ·intro _ y;go_simp
      refine wTk 33 107 (.bool false) ?_ s.o ?_
      ·intro _ y;go_simp
      refine wDn ?_ _;have d2:=hI (G.o.trans ((A.o.trans (s.o.mono (by omega))).mono G.o.size));go_wp2
      go_roundw
      case rel=>exact⟨j+1,by omega,by go_num,d2.o⟩
      case measure=>simp[intOf];omega
     ·refine wRg (S:=fun w'=>Below Z.1.size Z w') 34 ?_;refine wTk 0 74 (.pointer (some ⟨wr.1.size,0,none⟩)) ?_ (bD Z) ?_
      ·intro _ y;go_simp
      refine wTk 1 75 (.string ⟨#[105,110,100,101,120]⟩) ?_ (bD Z) ?_
      ·intro _ y;have J:=kP y J;go_simp
      refine wTk 2 76 (.bool true) ?_ (bD Z) ?_
      ·intro _ y;go_simp
      refine wTk 3 77 (.bool true) ?_ (bD Z) ?_
      ·intro _ y;go_simp
      refine wTk 4 78 (.pointer (some ⟨wr.1.size,0,none⟩)) ?_ (bD Z) ?_
      ·intro _ y;go_simp
      refine wTk 5 79 (.string ⟨#[105,110,100,101,120]⟩) ?_ (bD Z) ?_
      ·intro _ y;have J:=kP y J;go_simp
      refine wTk 6 80 (.bool false) ?_ (bD Z) ?_
      ·intro _ y;go_simp
      refine wTk 7 81 (.bool false) ?_ (bD Z) ?_
      ·intro _ y;go_simp
      refine wTk 8 82 (.bool false) ?_ (bD Z) ?_
      ·intro _ y;go_simp
      refine wTk 9 83 (.agg #[.string ⟨#[105,110,100,101,120]⟩, .int .i64 u1, .bool u2, .int .u64 un, .int .i64 uv, .bool ug, .int .i64 ul, .int .i64 uc, .slice qk nk ck]) ?_ (bD Z) ?_
      ·intro _ y;obtain⟨J,y1,y2,y3,y4,y5,y6,y7⟩:=kP8 y J y1 y2 y3 y4 y5 y6 y7;have y8:=kP y y8;go_simp
      refine wOn 10 fun K hK=>?_
      go_simp;refine(HC.o _ A.o.drew).mono ?_;rintro e v1 ⟨rfl,z⟩;have z:=zF z;have s:=hI z;refine kK hK z ?_;clear hK K;clear z;refine wTk 11 85 (.bool false) ?_ s.o ?_
      ·intro _ y;go_simp
      refine wTk 12 86 (.bool false) ?_ s.o ?_
      ·intro _ y;go_simp
      refine wTk 13 87 (.bool false) ?_ s.o ?_
      ·intro _ y;go_simp
      refine wTk 14 88 (.pointer (some ⟨wo.1.size,0,none⟩)) ?_ s.o ?_
      ·intro _ y;go_simp
      refine wTk 15 89 (.string ⟨#[97,115,115,105,103,110]⟩) ?_ s.o ?_
      ·intro _ y;have R:=kP y R;go_simp
      refine wTk 16 90 (.bool true) ?_ s.o ?_
      ·intro _ y;go_simp
      refine wTk 17 91 (.bool true) ?_ s.o ?_
      ·intro _ y;go_simp
      refine wTk 18 92 (.pointer (some ⟨wo.1.size,4,none⟩)) ?_ s.o ?_
      ·intro _ y;go_simp
      refine wTk 19 93 (.slice (some ⟨ge,0,none⟩) Y.length c2) ?_ s.o ?_
      ·intro _ y;have o4:=kP y o4;go_simp
      refine wTk 20 94 (.int .i64 1) ?_ s.o ?_
      ·intro _ y;go_simp
      refine wTk 21 95 (.bool false) ?_ s.o ?_
      ·intro _ y;go_simp
      refine wTk 22 96 (.bool false) ?_ s.o ?_
      ·intro _ y;go_simp
      refine wTk 23 97 (.pointer (some ⟨wo.1.size,4,none⟩)) ?_ s.o ?_
      ·intro _ y;go_simp
      refine wTk 24 98 (.slice (some ⟨ge,0,none⟩) Y.length c2) ?_ s.o ?_
      ·intro _ y;have o4:=kP y o4;go_simp
      refine wTk 25 99 (.pointer (some ⟨ge,0,none⟩)) ?_ s.o ?_
      ·intro _ y;go_simp
      refine wTk 26 100 (.pointer (some ⟨ge,1,none⟩)) ?_ s.o ?_
      ·intro _ y;go_simp
      refine wTk 27 101 (.agg #[.int .i64 u1, .bool u2]) ?_ s.o ?_
      ·intro _ y;have z1:=kP y z1;have z2:=kP y z2;go_simp
      refine wTk 28 102 (.pointer (some ⟨wr.1.size,1,none⟩)) ?_ s.o ?_
      ·intro _ y;go_simp
      refine wTk 29 103 (.agg #[.int .i64 u1, .bool u2]) ?_ s.o ?_
      ·intro _ y;have y1:=kP y y1;have y2:=kP y y2;go_simp
      refine wTk 30 104 (.bool false) ?_ s.o ?_
      ·intro _ y;go_simp
      refine wTk 31 105 (.bool false) ?_ s.o ?_
      ·intro _ y;go_simp
      refine wTk 32 106 (.bool false) ?_ s.o ?_
      ·intro _ y;go_simp
      refine wTk 33 107 (.bool false) ?_ s.o ?_
      ·intro _ y;go_simp
      refine wDn ?_ _;have d2:=hI (G.o.trans ((A.o.trans (s.o.mono (by omega))).mono G.o.size));go_wp2
      go_roundw
      case rel=>exact⟨j+1,by omega,by go_num,d2.o⟩
      case measure=>simp[intOf];omega
    ·have n0:(op == [97,115,115,105,103,110])=false:=by simpa using hA
     clear d7;rcases f5 with rfl | rfl
     ·refine wRg (S:=fun w'=>Below Z.1.size Z w') 34 ?_;refine wTk 0 74 (.pointer (some ⟨wr.1.size,0,none⟩)) ?_ (bD Z) ?_
      ·intro _ y;go_simp
      refine wTk 1 75 (.string ⟨#[118,97,114]⟩) ?_ (bD Z) ?_
      ·intro _ y;have J:=kP y J;go_simp
      refine wTk 2 76 (.bool false) ?_ (bD Z) ?_
      ·intro _ y;go_simp
      refine wTk 3 77 (.bool false) ?_ (bD Z) ?_
      ·intro _ y;go_simp
      refine qMa (i:=4) (d:=78) rfl rfl (by kernel_rfl) (fun _ _ _ h=>h) (by rfl) ((Below.refl Z.1.size Z).drew) ?_;try simp only[Act.put,pZa,pZb,pZc]
      refine qMa (i:=5) (d:=79) rfl rfl (by kernel_rfl) (fun _ _ _ h=>h) (by rfl) ((Below.refl Z.1.size Z).drew) ?_;try simp only[Act.put,pZa,pZb,pZc]
      refine qMa (i:=6) (d:=80) rfl rfl (by kernel_rfl) (fun _ _ _ h=>h) (by rfl) ((Below.refl Z.1.size Z).drew) ?_;try simp only[Act.put,pZa,pZb,pZc]
      refine wTk 7 81 (.bool false) ?_ (bD Z) ?_
      ·intro _ y;go_simp
      refine wTk 8 82 (.bool false) ?_ (bD Z) ?_
      ·intro _ y;go_simp
      refine wTk 9 83 (.agg #[.string ⟨#[118,97,114]⟩, .int .i64 u1, .bool u2, .int .u64 un, .int .i64 uv, .bool ug, .int .i64 ul, .int .i64 uc, .slice qk nk ck]) ?_ (bD Z) ?_
      ·intro _ y;obtain⟨J,y1,y2,y3,y4,y5,y6,y7⟩:=kP8 y J y1 y2 y3 y4 y5 y6 y7;have y8:=kP y y8;go_simp
      refine wOn 10 fun K hK=>?_
      go_simp;refine(HC.o _ A.o.drew).mono ?_;rintro e v1 ⟨rfl,z⟩;have z:=zF z;have s:=hI z;refine kK hK z ?_;clear hK K;clear z;refine wTk 11 85 (.bool false) ?_ s.o ?_
      ·intro _ y;go_simp
      refine wTk 12 86 (.bool false) ?_ s.o ?_
      ·intro _ y;go_simp
      refine wTk 13 87 (.bool false) ?_ s.o ?_
      ·intro _ y;go_simp
      refine wTk 14 88 (.pointer (some ⟨wo.1.size,0,none⟩)) ?_ s.o ?_
      ·intro _ y;go_simp
      refine wTk 15 89 (.string ⟨op.toArray⟩) ?_ s.o ?_
      ·intro _ y;have R:=kP y R;go_simp
      refine wTk 16 90 (.bool false) ?_ s.o ?_
      ·intro _ y;go_simp
      refine wTk 17 91 (.bool false) ?_ s.o ?_
      ·intro _ y;go_simp
      refine qMa (i:=18) (d:=92) rfl rfl (by kernel_rfl) (fun _ _ _ h=>h) (by rfl) s.o ?_;try simp only[Act.put,pZa,pZb,pZc]
      refine qMa (i:=19) (d:=93) rfl rfl (by kernel_rfl) (fun _ _ _ h=>h) (by rfl) s.o ?_;try simp only[Act.put,pZa,pZb,pZc]
      refine qMa (i:=20) (d:=94) rfl rfl (by kernel_rfl) (fun _ _ _ h=>h) (by rfl) s.o ?_;try simp only[Act.put,pZa,pZb,pZc]
      refine qMa (i:=21) (d:=95) rfl rfl (by kernel_rfl) (fun _ _ _ h=>h) (by rfl) s.o ?_;try simp only[Act.put,pZa,pZb,pZc]
      refine qMa (i:=22) (d:=96) rfl rfl (by kernel_rfl) (fun _ _ _ h=>h) (by rfl) s.o ?_;try simp only[Act.put,pZa,pZb,pZc]
      refine qMa (i:=23) (d:=97) rfl rfl (by kernel_rfl) (fun _ _ _ h=>h) (by rfl) s.o ?_;try simp only[Act.put,pZa,pZb,pZc]
      refine qMa (i:=24) (d:=98) rfl rfl (by kernel_rfl) (fun _ _ _ h=>h) (by rfl) s.o ?_;try simp only[Act.put,pZa,pZb,pZc]
      refine qMa (i:=25) (d:=99) rfl rfl (by kernel_rfl) (fun _ _ _ h=>h) (by rfl) s.o ?_;try simp only[Act.put,pZa,pZb,pZc]
      refine qMa (i:=26) (d:=100) rfl rfl (by kernel_rfl) (fun _ _ _ h=>h) (by rfl) s.o ?_;try simp only[Act.put,pZa,pZb,pZc]
      refine qMa (i:=27) (d:=101) rfl rfl (by kernel_rfl) (fun _ _ _ h=>h) (by rfl) s.o ?_;try simp only[Act.put,pZa,pZb,pZc]
      refine qMa (i:=28) (d:=102) rfl rfl (by kernel_rfl) (fun _ _ _ h=>h) (by rfl) s.o ?_;try simp only[Act.put,pZa,pZb,pZc]
      refine qMa (i:=29) (d:=103) rfl rfl (by kernel_rfl) (fun _ _ _ h=>h) (by rfl) s.o ?_;try simp only[Act.put,pZa,pZb,pZc]
      refine qMa (i:=30) (d:=104) rfl rfl (by kernel_rfl) (fun _ _ _ h=>h) (by rfl) s.o ?_;try simp only[Act.put,pZa,pZb,pZc]
      refine qMa (i:=31) (d:=105) rfl rfl (by kernel_rfl) (fun _ _ _ h=>h) (by rfl) s.o ?_;try simp only[Act.put,pZa,pZb,pZc]
      refine wTk 32 106 (.bool false) ?_ s.o ?_
      ·intro _ y;go_simp
      refine wTk 33 107 (.bool false) ?_ s.o ?_
      ·intro _ y;go_simp
      refine wDn ?_ _;have d2:=hI (G.o.trans ((A.o.trans (s.o.mono (by omega))).mono G.o.size));go_wp2
      go_roundw
      case rel=>exact⟨j+1,by omega,by go_num,d2.o⟩
      case measure=>simp[intOf];omega
     ·refine wRg (S:=fun w'=>Below Z.1.size Z w') 34 ?_;refine wTk 0 74 (.pointer (some ⟨wr.1.size,0,none⟩)) ?_ (bD Z) ?_
      ·intro _ y;go_simp
      refine wTk 1 75 (.string ⟨#[105,110,100,101,120]⟩) ?_ (bD Z) ?_
      ·intro _ y;have J:=kP y J;go_simp
      refine wTk 2 76 (.bool true) ?_ (bD Z) ?_
      ·intro _ y;go_simp
      refine wTk 3 77 (.bool true) ?_ (bD Z) ?_
      ·intro _ y;go_simp
      refine wTk 4 78 (.pointer (some ⟨wr.1.size,0,none⟩)) ?_ (bD Z) ?_
      ·intro _ y;go_simp
      refine wTk 5 79 (.string ⟨#[105,110,100,101,120]⟩) ?_ (bD Z) ?_
      ·intro _ y;have J:=kP y J;go_simp
      refine wTk 6 80 (.bool false) ?_ (bD Z) ?_
      ·intro _ y;go_simp
      refine wTk 7 81 (.bool false) ?_ (bD Z) ?_
      ·intro _ y;go_simp
      refine wTk 8 82 (.bool false) ?_ (bD Z) ?_
      ·intro _ y;go_simp
      refine wTk 9 83 (.agg #[.string ⟨#[105,110,100,101,120]⟩, .int .i64 u1, .bool u2, .int .u64 un, .int .i64 uv, .bool ug, .int .i64 ul, .int .i64 uc, .slice qk nk ck]) ?_ (bD Z) ?_
      ·intro _ y;obtain⟨J,y1,y2,y3,y4,y5,y6,y7⟩:=kP8 y J y1 y2 y3 y4 y5 y6 y7;have y8:=kP y y8;go_simp
      refine wOn 10 fun K hK=>?_
      go_simp;refine(HC.o _ A.o.drew).mono ?_;rintro e v1 ⟨rfl,z⟩;have z:=zF z;have s:=hI z;refine kK hK z ?_;clear hK K;clear z;refine wTk 11 85 (.bool false) ?_ s.o ?_
      ·intro _ y;go_simp
      refine wTk 12 86 (.bool false) ?_ s.o ?_
      ·intro _ y;go_simp
      refine wTk 13 87 (.bool false) ?_ s.o ?_
      ·intro _ y;go_simp
      refine wTk 14 88 (.pointer (some ⟨wo.1.size,0,none⟩)) ?_ s.o ?_
      ·intro _ y;go_simp
      refine wTk 15 89 (.string ⟨op.toArray⟩) ?_ s.o ?_
      ·intro _ y;have R:=kP y R;go_simp
      refine wTk 16 90 (.bool false) ?_ s.o ?_
      ·intro _ y;go_simp
      refine wTk 17 91 (.bool false) ?_ s.o ?_
      ·intro _ y;go_simp
      refine qMa (i:=18) (d:=92) rfl rfl (by kernel_rfl) (fun _ _ _ h=>h) (by rfl) s.o ?_;try simp only[Act.put,pZa,pZb,pZc]
      refine qMa (i:=19) (d:=93) rfl rfl (by kernel_rfl) (fun _ _ _ h=>h) (by rfl) s.o ?_;try simp only[Act.put,pZa,pZb,pZc]
      refine qMa (i:=20) (d:=94) rfl rfl (by kernel_rfl) (fun _ _ _ h=>h) (by rfl) s.o ?_;try simp only[Act.put,pZa,pZb,pZc]
      refine qMa (i:=21) (d:=95) rfl rfl (by kernel_rfl) (fun _ _ _ h=>h) (by rfl) s.o ?_;try simp only[Act.put,pZa,pZb,pZc]
      refine qMa (i:=22) (d:=96) rfl rfl (by kernel_rfl) (fun _ _ _ h=>h) (by rfl) s.o ?_;try simp only[Act.put,pZa,pZb,pZc]
      refine qMa (i:=23) (d:=97) rfl rfl (by kernel_rfl) (fun _ _ _ h=>h) (by rfl) s.o ?_;try simp only[Act.put,pZa,pZb,pZc]
      refine qMa (i:=24) (d:=98) rfl rfl (by kernel_rfl) (fun _ _ _ h=>h) (by rfl) s.o ?_;try simp only[Act.put,pZa,pZb,pZc]
      refine qMa (i:=25) (d:=99) rfl rfl (by kernel_rfl) (fun _ _ _ h=>h) (by rfl) s.o ?_;try simp only[Act.put,pZa,pZb,pZc]
      refine qMa (i:=26) (d:=100) rfl rfl (by kernel_rfl) (fun _ _ _ h=>h) (by rfl) s.o ?_;try simp only[Act.put,pZa,pZb,pZc]
      refine qMa (i:=27) (d:=101) rfl rfl (by kernel_rfl) (fun _ _ _ h=>h) (by rfl) s.o ?_;try simp only[Act.put,pZa,pZb,pZc]
      refine qMa (i:=28) (d:=102) rfl rfl (by kernel_rfl) (fun _ _ _ h=>h) (by rfl) s.o ?_;try simp only[Act.put,pZa,pZb,pZc]
      refine qMa (i:=29) (d:=103) rfl rfl (by kernel_rfl) (fun _ _ _ h=>h) (by rfl) s.o ?_;try simp only[Act.put,pZa,pZb,pZc]
      refine qMa (i:=30) (d:=104) rfl rfl (by kernel_rfl) (fun _ _ _ h=>h) (by rfl) s.o ?_;try simp only[Act.put,pZa,pZb,pZc]
      refine qMa (i:=31) (d:=105) rfl rfl (by kernel_rfl) (fun _ _ _ h=>h) (by rfl) s.o ?_;try simp only[Act.put,pZa,pZb,pZc]
      refine wTk 32 106 (.bool false) ?_ s.o ?_
      ·intro _ y;go_simp
      refine wTk 33 107 (.bool false) ?_ s.o ?_
      ·intro _ y;go_simp
      refine wDn ?_ _;have d2:=hI (G.o.trans ((A.o.trans (s.o.mono (by omega))).mono G.o.size));go_wp2
      go_roundw
      case rel=>exact⟨j+1,by omega,by go_num,d2.o⟩
      case measure=>simp[intOf];omega
theorem all_any(B:Nat):∀ (n:Nat) (ts:List Sx),SizeOf.sizeOf ts < n->AlS B ts:=by
 intro n;induction n with
 | zero=>intro ts h;omega
 | succ n ih =>
  intro ts h;refine all_step B ts fun t ht=>?_
  have o:=List.sizeOf_lt_of_mem ht;obtain⟨op,l,c,tg,y,fn,s,j⟩:=t;simp only[Sx.mk.sizeOf_spec]at o;exact⟨ih s (by omega),ih j (by omega)⟩
theorem qLa(a b:qI)(w:World):Calls prog 29 #[qXK a,qXK b] w (xM (qYi a b) w):=by
 obtain⟨n,⟨A,C⟩,s⟩:=a;obtain⟨n',⟨j,y⟩,s'⟩:=b;have h2:=hI (fun a b:Obj=>((bal (Below.refl w.1.size w) a).trans ((bal (Below.refl _ (w.alloc a)) b).mono (by simp))));have z:qYi ⟨n,(A,C),s⟩ ⟨n',(j,y),s'⟩=(n == n' && ((A == j && C == y) && s == s')):=rfl;rw[z];unfold xM qXK;go_enter func29,ntmps29
 go_wp2
 all_goals
  go_ret;exact⟨congrArg Ending.returned (congrArg Value.bool (by simp[*])),h2.o _ _⟩
def AlVRel(ts us:List qI)(w:World)(i:Value)(wr:World):Prop :=
 ∃ k:Nat,k<=ts.length/\i=.int .i64 k/\kC (ts.drop k) (us.drop k)=kC ts us/\Below w.1.size w wr
theorem qWF(B:Nat)(ts us:List qI)(q q':Option Addr)(c c':Nat)(w:World)(hB:B<=w.1.size)(h1:qYC B w ts q)(h2:qYC B w us q')(Y:ts.length<=maxLen)(V:us.length<=maxLen) :
 Calls prog 28 #[.slice q ts.length c, .slice q' us.length c', .func (.func 29) #[] #[]] w (xM (kC ts us) w):=by
 have H1:=hI h1;have H2:=hI h2;have d6:∀ (args:Array Value) (w:World),(callFunc 29 args).run prog w=.ok (.enter 29 args) w:=fun _ _=>rfl
 unfold maxLen at Y V;clear h1 h2;unfold xM;by_cases hl:ts.length=us.length
 ·have U:(((ts.length:Nat):Int) != ((us.length:Nat):Int))=false:=by simp[hl]
  rw[<-hl];rw[<-hl]at U V;have HL:=hI hl;clear hl;go_enter func28,ntmps28
  go_wp2_with fail
  go_loopw [15] (fun i wr=>AlVRel ts us w i wr) (fun i _=>ts.length - (intOf i).toNat)
  case atStart=>exact⟨0,Nat.zero_le _,rfl,by simp,Below.refl _ _⟩
  case round =>
   obtain⟨k,hk,rfl,hs,hb⟩:=hrel;have X:=hI hs;have j:=hI hb;clear hs hb;by_cases z:k < ts.length
   ·have s:k < us.length:=by have:=HL.o;omega
    obtain⟨g,rfl,d7,d8,I⟩:=(H1.o.keep (j.o.mono hB)).resolve_left (fun e=>by rw[e]at z;simp at z);obtain⟨g',rfl,d2,d3,J⟩:=(H2.o.keep (j.o.mono hB)).resolve_left (fun e=>by rw[e]at s;simp at s);have d5:B<=wr.1.size:=by have:=j.o.size;omega
    have Z:=I k z;have C2:=J k s;have⟨k0,k1,k2,k3,_⟩:=Z.a;have⟨j0,j1,j2,j3,_⟩:=C2.a;have HC:=hI (fun(W:World) (_:Below wr.1.size wr W)=>qLa ts[k] us[k] W);have A:=qLH z s;have G:=hI A;clear A;clear Z C2 I J;generalize ts[k]=t at *;generalize us[k]=u at *;unfold qXK at HC;generalize f3:qYi t u=b at *;have d4:(k:Int) < (ts.length:Nat):=by omega
    have d9:(0:Int)<=(k:Int):=by omega
    go_wp2_with fail
    refine wRg (S:=fun w'=>Below wr.1.size wr w') 9 ?_;refine wTk 0 18 (.func (.func 29) #[] #[]) ?_ (bD wr) ?_
    ·intro _ y;go_simp
    refine wTk 1 19 (.slice (some ⟨g,0,none⟩) ts.length c) ?_ (bD wr) ?_
    ·intro _ y;go_simp
    refine wTk 2 20 (.int .i64 k) ?_ (bD wr) ?_
    ·intro _ y;go_simp
    refine wTk 3 21 (.pointer (some ⟨g,k * 4,none⟩)) ?_ (bD wr) ?_
    ·intro _ y;go_simp
    refine wTk 4 22 (.agg #[.string ⟨t.name.toArray⟩, .int .i64 t.t.1, .bool t.t.2, .int .i64 t.size]) ?_ (bD wr) ?_
    ·intro _ y;obtain⟨k0,k1,k2,k3⟩:=kP4 y k0 k1 k2 k3;go_simp
    refine wTk 5 23 (.slice (some ⟨g',0,none⟩) ts.length c') ?_ (bD wr) ?_
    ·intro _ y;go_simp
    refine wTk 6 24 (.int .i64 k) ?_ (bD wr) ?_
    ·intro _ y;go_simp
    refine wTk 7 25 (.pointer (some ⟨g',k * 4,none⟩)) ?_ (bD wr) ?_
    ·intro _ y;go_simp
    refine wTk 8 26 (.agg #[.string ⟨u.name.toArray⟩, .int .i64 u.t.1, .bool u.t.2, .int .i64 u.size]) ?_ (bD wr) ?_
    ·intro _ y;obtain⟨j0,j1,j2,j3⟩:=kP4 y j0 j1 j2 j3;go_simp
    refine wOn 9 fun K hK=>?_
    go_simp;refine(HC.o _ (Below.refl _ _).drew).mono ?_;rintro e w3 ⟨rfl,hb3⟩;have O:=zF hb3;have C:=hI O;clear hb3;refine kD hK ?_;clear hK K;refine wOn 10 fun K hK=>?_
    go_simp;refine kD hK ?_;clear hK K;refine wDn ?_ _;clear O;cases b
    ·go_wp2
     go_ret;refine⟨?_,j.o.trans (C.o.mono j.o.size)⟩;rw[<-X.o,G.o];rfl
    ·go_wp2
     go_roundw
     case rel=>exact⟨k+1,by omega,by go_num,by rw[<-X.o,G.o,bT],j.o.trans (C.o.mono j.o.size)⟩
     case measure=>simp[intOf];omega
   ·have R:=qLz z HL.o;go_wp2
    go_ret;refine⟨?_,j.o⟩;rw[<-X.o,R];rfl
 ·have U:(((ts.length:Nat):Int) != ((us.length:Nat):Int))=true:=by simp;omega
  have hs:kC ts us=false:=by
   cases h:kC ts us
   ·rfl
   ·exact absurd (qYj ts us h) hl
  rw[hs];clear hl;go_enter func28,ntmps28
  go_wp2
  go_ret;exact⟨rfl,Below.refl _ _⟩
theorem qLI{w:World}{g T:Nat}{a0 j o a3 a4 a5:Value}(h:w.1[g]? = some (.cells #[a0,j,o,a3,a4,a5] T)) :
 w.cell? ⟨g,0,none⟩=some a0/\w.cell? ⟨g,1,none⟩=some j/\w.cell? ⟨g,2,none⟩=some o/\w.cell? ⟨g,3,none⟩=some a3/\w.cell? ⟨g,4,none⟩=some a4/\w.cell? ⟨g,5,none⟩=some a5:=by
 simp[World.cell?,h]
theorem qUF{w:World}{g T:Nat}{a0 j o:Value}(h:w.1[g]? = some (.cells #[a0,j,o] T)) :
 w.cell? ⟨g,0,none⟩=some a0/\w.cell? ⟨g,1,none⟩=some j/\w.cell? ⟨g,2,none⟩=some o:=by
 simp[World.cell?,h]
theorem qU3(B:Nat)(a b:qQ2)(O R V X:Option Addr)(c1 c2 d1 d2:Nat)(w:World)(hB:B<=w.1.size)(a1:qYC B w a.vars O)(a2:qVt B w a.body R)(b1:qYC B w b.vars V)(b2:qVt B w b.body X)(m1:a.vars.length<=64)(m2:a.body.length<=maxLen)(n1:b.vars.length<=64)(n2:b.body.length<=maxLen) :
 Calls prog 31 #[fdV a ⟨.slice O a.vars.length c1, .slice R a.body.length c2⟩,fdV b ⟨.slice V b.vars.length d1, .slice X b.body.length d2⟩] w (xM (qYf a b) w):=by
 obtain⟨nm,ty,J,G,bd⟩:=a;obtain⟨z,j,A,y,s⟩:=b;simp only at *;have U:(64:Nat)<=maxLen:=by unfold maxLen;omega
 have h2:=(bal (Below.refl w.1.size w) (.cells #[.string ⟨nm.toArray⟩, .int .i64 ty.1, .bool ty.2, .int .i64 J, .slice O G.length c1, .slice R bd.length c2] 40)).trans ((bal (Below.refl _ (w.alloc (.cells #[.string ⟨nm.toArray⟩, .int .i64 ty.1, .bool ty.2, .int .i64 J, .slice O G.length c1, .slice R bd.length c2] 40))) (.cells #[.string ⟨z.toArray⟩, .int .i64 j.1, .bool j.2, .int .i64 A, .slice V y.length d1, .slice X s.length d2] 40)).mono (by simp));have N0:=hI ((bal (Below.refl _ (w.alloc (.cells #[.string ⟨nm.toArray⟩, .int .i64 ty.1, .bool ty.2, .int .i64 J, .slice O G.length c1, .slice R bd.length c2] 40))) (.cells #[.string ⟨z.toArray⟩, .int .i64 j.1, .bool j.2, .int .i64 A, .slice V y.length d1, .slice X s.length d2] 40)).block w.1.size (by simp) |>.trans (vL w (.cells #[.string ⟨nm.toArray⟩, .int .i64 ty.1, .bool ty.2, .int .i64 J, .slice O G.length c1, .slice R bd.length c2] 40)));have Z:=vL (w.alloc (.cells #[.string ⟨nm.toArray⟩, .int .i64 ty.1, .bool ty.2, .int .i64 J, .slice O G.length c1, .slice R bd.length c2] 40)) (.cells #[.string ⟨z.toArray⟩, .int .i64 j.1, .bool j.2, .int .i64 A, .slice V y.length d1, .slice X s.length d2] 40);rw[World.size_alloc]at Z;have Z:=hI Z;have E1:=hI (fun(W:World) (h:Below w.1.size w W)=>qWF B G y O V c1 d1 W (Nat.le_trans hB h.size) (a1.keep (h.mono hB)) (b1.keep (h.mono hB)) (Nat.le_trans m1 U) (Nat.le_trans n1 U));have E2:=hI (fun(W:World) (h:Below w.1.size w W)=>qYN B bd s R X c2 d2 W (Nat.le_trans hB h.size) (a2.keep (h.mono hB)) (b2.keep (h.mono hB)) m2 n2);have I:=hI h2;have d3:qYf ⟨nm,ty,J,G,bd⟩ ⟨z,j,A,y,s⟩=(nm == z && ((ty.1 == j.1 && ty.2 == j.2) && (J == A && (kC G y && yA bd s)))):=rfl;rw[d3];clear h2 a1 a2 b1 b2 d3 U;generalize kC G y=g1 at *;generalize yA bd s=g2 at *;unfold xM fdV at *;simp only at *;cases e0:(nm == z);case false =>
  go_enter func31,ntmps31
  go_wp2
  go_ret;exact⟨rfl,I.o⟩
 case true =>
 obtain⟨Y,t2⟩:=ty;obtain⟨d4,d5⟩:=j;simp only at *;by_cases a1:Y=d4
 case neg =>
  rw[show(Y == d4)=false by simpa using a1];go_enter func31,ntmps31
  go_wp2
  go_ret;exact⟨rfl,I.o⟩
 case pos =>
 subst a1;by_cases a2:t2=d5
 case neg =>
  rw[show(Y == Y)=true by simp,show(t2 == d5)=false by simpa using a2];go_enter func31,ntmps31
  go_wp2
  go_ret;exact⟨rfl,I.o⟩
 case pos =>
 subst a2;rw[show(Y == Y)=true by simp,show(t2 == t2)=true by simp];cases e2:(J == A);case false =>
  go_enter func31,ntmps31
  go_wp2
  go_ret;exact⟨rfl,I.o⟩
 case true =>
 have C1:=hI (E1.o _ I.o);clear E1;go_enter func31,ntmps31
 go_wp2_with fail
 refine(C1.o).mono ?_;rintro e w3 ⟨rfl,hb3⟩;have C:=hI (I.o.trans (hb3.mono I.o.size));have M0:=hI ((hb3.block _ (by simp;omega)).trans N0.o);have M1:=hI ((hb3.block _ (by simp)).trans Z.o);have D2:=hI (E2.o w3 C.o);clear hb3 C1 E2 N0 Z I;cases g1;case false =>
  go_wp2
  go_ret;exact⟨rfl,C.o⟩
 case true =>
 obtain⟨k0,k1,k2,k3,k4,k5⟩:=qLI M0.o;obtain⟨j0,j1,j2,j3,j4,j5⟩:=qLI M1.o;have d7:=qJ j0;simp only at d7;go_wp2_with fail
 refine(D2.o).mono ?_;rintro e w4 ⟨rfl,hb4⟩;have d6:=hI (C.o.trans (hb4.mono C.o.size));go_wp2
 go_ret;exact⟨rfl,d6.o⟩
def AlFRel(ts us:List qQ2)(w:World)(i:Value)(wr:World):Prop :=
 ∃ k:Nat,k<=ts.length/\i=.int .i64 k/\wS (ts.drop k) (us.drop k)=wS ts us/\Below w.1.size w wr
theorem qLM(B:Nat)(ts us:List qQ2)(q q':Option Addr)(c c':Nat)(w:World)(hB:B<=w.1.size)(h1:qLB B w ts q)(h2:qLB B w us q')(Z:ts.length<=maxLen)(X:us.length<=maxLen) :
 Calls prog 30 #[.slice q ts.length c, .slice q' us.length c', .func (.func 31) #[] #[]] w (xM (wS ts us) w):=by
 have H1:=hI h1;have H2:=hI h2;have d6:∀ (args:Array Value) (w:World),(callFunc 31 args).run prog w=.ok (.enter 31 args) w:=fun _ _=>rfl
 unfold maxLen at Z X;clear h1 h2;unfold xM;by_cases hl:ts.length=us.length
 ·have V:(((ts.length:Nat):Int) != ((us.length:Nat):Int))=false:=by simp[hl]
  rw[<-hl];rw[<-hl]at V X;have HL:=hI hl;clear hl;go_enter func30,ntmps30
  go_wp2_with fail
  go_loopw [15] (fun i wr=>AlFRel ts us w i wr) (fun i _=>ts.length - (intOf i).toNat)
  case atStart=>exact⟨0,Nat.zero_le _,rfl,by simp,Below.refl _ _⟩
  case round =>
   obtain⟨k,hk,rfl,hs,hb⟩:=hrel;have Y:=hI hs;have j:=hI hb;clear hs hb;by_cases A:k < ts.length
   ·have s:k < us.length:=by have:=HL.o;omega
    obtain⟨g,rfl,d7,d8,J⟩:=(H1.o.keep (j.o.mono hB)).resolve_left (fun e=>by rw[e]at A;simp at A);obtain⟨g',rfl,d3,d4,O⟩:=(H2.o.keep (j.o.mono hB)).resolve_left (fun e=>by rw[e]at s;simp at s);have z:B<=wr.1.size:=by have:=j.o.size;omega
    obtain⟨q1,c1,q2,c2,C1,va,na,ba,ma⟩:=J k A;obtain⟨p1,d1,p2,d2,C2,vb,nb,bb,mb⟩:=O k s;have⟨k0,k1,k2,k3,k4,k5,_⟩:=C1.a;have⟨j0,j1,j2,j3,j4,j5,_⟩:=C2.a;have HC:=hI (fun(W:World) (h:Below wr.1.size wr W)=>qU3 B ts[k] us[k] q1 q2 p1 p2 c1 c2 d1 d2 W (Nat.le_trans z h.size) (va.keep (h.mono z)) (ba.keep (h.mono z)) (vb.keep (h.mono z)) (bb.keep (h.mono z)) na ma nb mb);have C:=qLF A s;have I:=hI C;clear C;clear C1 C2 J O va na ba ma vb nb bb mb;generalize ts[k]=t at *;generalize us[k]=u at *;unfold fdV at HC;simp only at k4 k5 j4 j5;generalize f3:qYf t u=b at *;have d5:(k:Int) < (ts.length:Nat):=by omega
    have d9:(0:Int)<=(k:Int):=by omega
    go_wp2_with fail
    refine wRg (S:=fun w'=>Below wr.1.size wr w') 9 ?_;refine wTk 0 18 (.func (.func 31) #[] #[]) ?_ (bD wr) ?_
    ·intro _ y;go_simp
    refine wTk 1 19 (.slice (some ⟨g,0,none⟩) ts.length c) ?_ (bD wr) ?_
    ·intro _ y;go_simp
    refine wTk 2 20 (.int .i64 k) ?_ (bD wr) ?_
    ·intro _ y;go_simp
    refine wTk 3 21 (.pointer (some ⟨g,k * 6,none⟩)) ?_ (bD wr) ?_
    ·intro _ y;go_simp
    refine wTk 4 22 (.agg #[.string ⟨t.name.toArray⟩, .int .i64 t.t.1, .bool t.t.2, .int .i64 t.params, .slice q1 t.vars.length c1, .slice q2 t.body.length c2]) ?_ (bD wr) ?_
    ·intro _ y;obtain⟨k0,k1,k2,k3,k4,k5⟩:=kP6 y k0 k1 k2 k3 k4 k5;go_simp
    refine wTk 5 23 (.slice (some ⟨g',0,none⟩) ts.length c') ?_ (bD wr) ?_
    ·intro _ y;go_simp
    refine wTk 6 24 (.int .i64 k) ?_ (bD wr) ?_
    ·intro _ y;go_simp
    refine wTk 7 25 (.pointer (some ⟨g',k * 6,none⟩)) ?_ (bD wr) ?_
    ·intro _ y;go_simp
    refine wTk 8 26 (.agg #[.string ⟨u.name.toArray⟩, .int .i64 u.t.1, .bool u.t.2, .int .i64 u.params, .slice p1 u.vars.length d1, .slice p2 u.body.length d2]) ?_ (bD wr) ?_
    ·intro _ y;obtain⟨j0,j1,j2,j3,j4,j5⟩:=kP6 y j0 j1 j2 j3 j4 j5;go_simp
    refine wOn 9 fun K hK=>?_
    go_simp;refine(HC.o _ (Below.refl _ _).drew).mono ?_;rintro e w3 ⟨rfl,hb3⟩;have R:=zF hb3;have G:=hI R;clear hb3;refine kD hK ?_;clear hK K;refine wOn 10 fun K hK=>?_
    go_simp;refine kD hK ?_;clear hK K;refine wDn ?_ _;clear R;cases b
    ·go_wp2
     go_ret;refine⟨?_,j.o.trans (G.o.mono j.o.size)⟩;rw[<-Y.o,I.o];rfl
    ·go_wp2
     go_roundw
     case rel=>exact⟨k+1,by omega,by go_num,by rw[<-Y.o,I.o,bT],j.o.trans (G.o.mono j.o.size)⟩
     case measure=>simp[intOf];omega
   ·have U:=qLu A HL.o;go_wp2
    go_ret;refine⟨?_,j.o⟩;rw[<-Y.o,U];rfl
 ·have V:(((ts.length:Nat):Int) != ((us.length:Nat):Int))=true:=by simp;omega
  have hs:wS ts us=false:=by
   cases h:wS ts us
   ·rfl
   ·exact absurd (qYg ts us h) hl
  rw[hs];clear hl;go_enter func30,ntmps30
  go_wp2
  go_ret;exact⟨rfl,Below.refl _ _⟩
theorem qLp(B:Nat)(p j:PrD)(I G y s:Option Addr)(J fc A z:Nat)(w:World)(hB:B<=w.1.size)(V:qPb B p I G w)(hb:qPb B j y s w) :
 Calls prog 13 #[prV p I G J fc,prV j y s A z] w (xM (qLv p j) w):=by
 have O:(64:Nat)<=maxLen:=by unfold maxLen;omega
 have h2:=(bal (Below.refl w.1.size w) (.cells #[.slice I p.globals.length J, .slice G p.funcs.length fc, .int .i64 p.main] 30)).trans ((bal (Below.refl _ (w.alloc (.cells #[.slice I p.globals.length J, .slice G p.funcs.length fc, .int .i64 p.main] 30))) (.cells #[.slice y j.globals.length A, .slice s j.funcs.length z, .int .i64 j.main] 30)).mono (by simp));have N0:=hI ((bal (Below.refl _ (w.alloc (.cells #[.slice I p.globals.length J, .slice G p.funcs.length fc, .int .i64 p.main] 30))) (.cells #[.slice y j.globals.length A, .slice s j.funcs.length z, .int .i64 j.main] 30)).block w.1.size (by simp) |>.trans (vL w (.cells #[.slice I p.globals.length J, .slice G p.funcs.length fc, .int .i64 p.main] 30)));have U:=vL (w.alloc (.cells #[.slice I p.globals.length J, .slice G p.funcs.length fc, .int .i64 p.main] 30)) (.cells #[.slice y j.globals.length A, .slice s j.funcs.length z, .int .i64 j.main] 30);rw[World.size_alloc]at U;have U:=hI U;have E1:=hI (fun(W:World) (h:Below w.1.size w W)=>qWF B p.globals j.globals I y J A W (Nat.le_trans hB h.size) (V.gs.keep (h.mono hB)) (hb.gs.keep (h.mono hB)) (Nat.le_trans V.gl O) (Nat.le_trans hb.gl O));have E2:=hI (fun(W:World) (h:Below w.1.size w W)=>qLM B p.funcs j.funcs G s fc z W (Nat.le_trans hB h.size) (V.fs.keep (h.mono hB)) (hb.fs.keep (h.mono hB)) (by have:=V.fl;omega) (by have:=hb.fl;omega));have R:=hI h2;have X:qLv p j=(p.main == j.main && (kC p.globals j.globals && wS p.funcs j.funcs)):=rfl;rw[X];clear h2 V hb X O;obtain⟨pg,pf,pm⟩:=p;obtain⟨d3,d2,d4⟩:=j;unfold xM prV at *;simp only at *;generalize kC pg d3=g1 at *;generalize wS pf d2=g2 at *;cases e1:(pm == d4);case false =>
  go_enter func13,ntmps13
  go_wp2
  go_ret;exact⟨rfl,R.o⟩
 case true =>
 have C1:=hI (E1.o _ R.o);clear E1;go_enter func13,ntmps13
 go_wp2_with fail
 refine(C1.o).mono ?_;rintro e w3 ⟨rfl,hb3⟩;have C:=hI (R.o.trans (hb3.mono R.o.size));have M0:=hI ((hb3.block _ (by simp;omega)).trans N0.o);have M1:=hI ((hb3.block _ (by simp)).trans U.o);have D2:=hI (E2.o w3 C.o);clear hb3 C1 E2 N0 U R;cases g1;case false =>
  go_wp2
  go_ret;exact⟨rfl,C.o⟩
 case true =>
 obtain⟨k0,k1,k2⟩:=qUF M0.o;obtain⟨j0,j1,j2⟩:=qUF M1.o;have Z:=qJ j0;simp only at Z;go_wp2_with fail
 refine(D2.o).mono ?_;rintro e w4 ⟨rfl,hb4⟩;have Y:=hI (C.o.trans (hb4.mono C.o.size));go_wp2
 go_ret;exact⟨rfl,Y.o⟩
def qJF(x:List UInt8)(i:Nat):List qQ2->Int
 | []=>-1
 | f :: r=>if f.name == x then(i:Int)else qJF x (i+1) r
theorem qLJ{x:List UInt8}{fs:List qQ2}{i:Nat}(h:i < fs.length):qJF x i (fs.drop i)=if fs[i].name == x then(i:Int)else qJF x (i+1) (fs.drop (i+1)):=by
 rw[List.drop_eq_getElem_cons h,qJF]
theorem qLC{x:List UInt8}{fs:List qQ2}{i:Nat}(h:¬i < fs.length):qJF x i (fs.drop i)=-1:=by
 rw[List.drop_eq_nil_of_le (by omega),qJF]
def FdRel(x:List UInt8)(fs:List qQ2)(w:World)(i:Value)(wr:World):Prop :=
 ∃ k:Nat,k<=fs.length/\i=.int .i64 k/\qJF x k (fs.drop k)=qJF x 0 fs/\Below w.1.size w wr
theorem qLD(B:Nat)(x:List UInt8)(p:PrD)(C A:Option Addr)(R fc:Nat)(w:World)(hB:B<=w.1.size)(h:qPb B p C A w) :
 Calls prog 15 #[prV p C A R fc, .string ⟨x.toArray⟩] w fun e w'=>e=.returned (.int .i64 (qJF x 0 p.funcs))/\Below w.1.size w w':=by
 have hb:=bal (Below.refl w.1.size w) (.cells #[.slice C p.globals.length R, .slice A p.funcs.length fc, .int .i64 p.main] 30);have HF:=hI (h.fs.keep (hb.mono hB));have HL:=hI h.fl;have Y:=hI hb;have hs:(w.alloc (.cells #[.slice C p.globals.length R, .slice A p.funcs.length fc, .int .i64 p.main] 30)).1.size=w.1.size+1:=by simp
 have d2:=h.fl;clear h hb;unfold prV;obtain⟨pg,O,pm⟩:=p;simp only at *;go_enter func15,ntmps15
 go_wp2_with fail
 go_loopw [10] (fun i wr=>FdRel x O (w.alloc (.cells #[.slice C pg.length R, .slice A O.length fc, .int .i64 pm] 30)) i wr) (fun i _=>O.length - (intOf i).toNat)
 case atStart=>exact⟨0,Nat.zero_le _,rfl,by simp,Below.refl _ _⟩
 case round =>
  obtain⟨k,hk,rfl,J,hb⟩:=hrel;have U:=hI J;have s:=hI (Y.o.trans (hb.mono Y.o.size));have y:=hI hb;have hF:=HF.o.keep (hb.mono (by omega));clear J hb;by_cases j:k < O.length
  ·obtain⟨g,rfl,d3,d4,G⟩:=hF.resolve_left (fun e=>by rw[e]at j;simp at j);obtain⟨q1,c1,q2,c2,V,_,_,_,_⟩:=G k j;have⟨k0,k1,k2,k3,k4,k5,_⟩:=V.a;have z:=hI (qLJ (x:=x) j);clear V G;generalize O[k]=f at *;have X:=hI (bal (Below.refl wr.1.size wr) (.cells #[.string ⟨f.name.toArray⟩, .int .i64 f.t.1, .bool f.t.2, .int .i64 f.params, .slice q1 f.vars.length c1, .slice q2 f.body.length c2] 40));simp only at k4 k5;cases Z:(f.name == x)
   ·go_wp2
    go_roundw
    case rel=>exact⟨k+1,by omega,by go_num,by rw[<-U.o,z.o,Z];rfl,(y.o.trans (X.o.mono y.o.size))⟩
    case measure=>simp[intOf];omega
   ·go_wp2
    go_ret;refine⟨?_,s.o.trans (X.o.mono s.o.size)⟩;rw[<-U.o,z.o,Z];rfl
  ·have I:=qLC (x:=x) j;go_wp2
   go_ret;refine⟨?_,s.o⟩;rw[<-U.o,I];rfl
theorem cells4{w:World}{g T:Nat}{a0 j o a3:Value}(h:w.1[g]? = some (.cells #[a0,j,o,a3] T)) :
 w.cell? ⟨g,0,none⟩=some a0/\w.cell? ⟨g,1,none⟩=some j/\w.cell? ⟨g,2,none⟩=some o/\w.cell? ⟨g,3,none⟩=some a3:=by
 simp[World.cell?,h]
def qJy(acc:Int):List qI->Int
 | []=>acc
 | v :: r=>qJy (IntKind.i64.wrap (acc+IntKind.i64.wrap (v.t.1 * max v.size 1))) r
theorem qME{j:List qI}{i:Nat}(h:i < j.length)(acc:Int):qJy acc (j.drop i)=qJy (IntKind.i64.wrap (acc+IntKind.i64.wrap (j[i].t.1 * max j[i].size 1))) (j.drop (i+1)):=by
 rw[List.drop_eq_getElem_cons h,qJy]
theorem qMr{j:List qI}{i:Nat}(h:¬i < j.length)(acc:Int):qJy acc (j.drop i)=acc:=by
 rw[List.drop_eq_nil_of_le (by omega),qJy]
def BtRel(vs:List qI)(w:World)(a i:Value)(wr:World):Prop :=
 ∃ (k:Nat) (acc:Int),k<=vs.length/\i=.int .i64 k/\a=.int .i64 acc/\qJy acc (vs.drop k)=qJy 0 vs/\Below w.1.size w wr
theorem qMs(B:Nat)(p:PrD)(G C:Option Addr)(U fc:Nat)(w:World)(hB:B<=w.1.size)(h:qPb B p G C w) :
 Calls prog 12 #[prV p G C U fc] w fun e w'=>e=.returned (.int .i64 (qJy 0 p.globals))/\Below w.1.size w w':=by
 have hb:=bal (Below.refl w.1.size w) (.cells #[.slice G p.globals.length U, .slice C p.funcs.length fc, .int .i64 p.main] 30);have HF:=hI (h.gs.keep (hb.mono hB));have HB:=hI hb;have hs:(w.alloc (.cells #[.slice G p.globals.length U, .slice C p.funcs.length fc, .int .i64 p.main] 30)).1.size=w.1.size+1:=by simp
 have d3:=h.gl;clear h hb;unfold prV;obtain⟨z,pf,pm⟩:=p;simp only at *;go_enter func12,ntmps12
 go_wp2_with fail
 go_loopw [3,9] (fun a i wr=>BtRel z (w.alloc (.cells #[.slice G z.length U, .slice C pf.length fc, .int .i64 pm] 30)) a i wr) (fun _ i _=>z.length - (intOf i).toNat)
 case atStart=>exact⟨0,0,Nat.zero_le _,rfl,rfl,by simp,Below.refl _ _⟩
 case round =>
  obtain⟨k,acc,hk,rfl,rfl,O,hb⟩:=hrel;have HS:=hI O;have V:=hI (HB.o.trans (hb.mono HB.o.size));have A:=hI hb;have hF:=HF.o.keep (hb.mono (by omega));clear O hb;by_cases s:k < z.length
  ·obtain⟨g,rfl,d5,d6,I⟩:=hF.resolve_left (fun e=>by rw[e]at s;simp at s);have C1:=I k s;have⟨k0,k1,k2,k3,_⟩:=C1.a;have Y:=hI (qME s acc);clear C1 I;generalize z[k]=v at *;have HA:=hI (bal (Below.refl wr.1.size wr) (.cells #[.string ⟨v.name.toArray⟩, .int .i64 v.t.1, .bool v.t.2, .int .i64 v.size] 42));have d2:(k:Int) < (z.length:Nat):=by omega
   have hc:=vL wr (.cells #[.string ⟨v.name.toArray⟩, .int .i64 v.t.1, .bool v.t.2, .int .i64 v.size] 42);obtain⟨v0,R,v2,v3⟩:=cells4 hc;have d7:(wr.alloc (.cells #[.string ⟨v.name.toArray⟩, .int .i64 v.t.1, .bool v.t.2, .int .i64 v.size] 42)).1.size=wr.1.size+1:=by simp
   clear hc;go_wp2_with fail
   generalize wr.alloc (.cells #[.string ⟨v.name.toArray⟩, .int .i64 v.t.1, .bool v.t.2, .int .i64 v.size] 42)=Z at *;refine wRg (S:=fun w'=>Below Z.1.size Z w') 7 ?_;refine wTk 0 13 (.int .i64 acc) ?_ (bD Z) ?_
   ·intro _ y;go_simp
   refine wTk 1 14 (.pointer (some ⟨wr.1.size,1,none⟩)) ?_ (bD Z) ?_
   ·intro _ y;go_simp
   refine wTk 2 15 (.pointer (some ⟨wr.1.size,1,none⟩)) ?_ (bD Z) ?_
   ·intro _ y;go_simp
   refine wTk 3 16 (.int .i64 v.t.1) ?_ (bD Z) ?_
   ·intro _ y;have R:=kP y R;go_simp
   refine wTk 4 17 (.agg #[.string ⟨v.name.toArray⟩, .int .i64 v.t.1, .bool v.t.2, .int .i64 v.size]) ?_ (bD Z) ?_
   ·intro _ y;obtain⟨v0,R,v2,v3⟩:=kP4 y v0 R v2 v3;go_simp
   refine wOn 5 fun K hK=>?_
   go_simp;refine(qVy _ _ _ _ _).mono ?_;rintro e w3 ⟨rfl,hb3⟩;have j:=zF hb3;have d4:=hI j;clear hb3;refine kK hK j ?_;clear hK K;refine wOn 6 fun K hK=>?_
   go_simp;refine kK hK j ?_;clear hK K;refine wOn 7 fun K hK=>?_
   go_simp;refine kD hK ?_;clear hK K;refine wOn 8 fun K hK=>?_
   go_simp;refine kD hK ?_;clear hK K;refine wDn ?_ _;have X:=hI (A.o.trans ((HA.o.trans (j.mono (by omega))).mono A.o.size));clear j v0 R v2 v3;go_wp2
   refine⟨⟨k+1,IntKind.i64.wrap (acc+IntKind.i64.wrap (v.t.1 * max v.size 1)),by omega,by go_num,rfl,by rw[<-HS.o,Y.o],X.o⟩,?_⟩;simp[intOf];omega
  ·have J:=qMr s acc;go_wp2
   go_ret;refine⟨?_,V.o⟩;rw[<-HS.o,J];rfl
def exS1:ByteArray:=⟨#[117,56,32,120,59,32,118,111,105,100,32,109,97,105,110,40,41,32,123,32,120,32,61,32,120,32,43,32,51,48,48,59,32,125]⟩
def exS2:ByteArray:=⟨#[117,56,32,120,59,32,118,111,105,100,32,109,97,105,110,40,41,32,123,32,97,115,115,101,114,116,40,49,32,60,32,120,41,59,32,125]⟩
theorem ex_c1:qXN exS1.data.toList=.bad 1 29 41:=by kernel_rfl
def exOk(c:CR PrD):Bool:=match c with
 | .ok r=>r.globals.length == 1 && (r.funcs.length == 1 && ((match r.funcs with | f :: _=>f.body.length == 1 | []=>false) && (qJF qZf 0 r.funcs == 0 && qJy 0 r.globals == 8)))
 | _=>false
theorem ex_ok:exOk (qXN exS2.data.toList)=true:=by kernel_rfl
theorem ex_c2:∃ (r:PrD) (f:qQ2),qXN exS2.data.toList=.ok r/\r.globals.length=1/\r.funcs=[f]/\f.body.length=1/\qJF qZf 0 r.funcs=0/\qJy 0 r.globals=8:=by
 have h:=ex_ok;generalize qXN exS2.data.toList=c at h;cases c with
 | bad _ _ _=>cases h
 | ok r =>
  unfold exOk at h;simp only[bE,beq_iff_eq]at h;obtain⟨j,h2,h3,h4,o⟩:=h;obtain⟨g,fs,m⟩:=r;simp only at *;match fs,h2,h3 with
  | [f],_,h3=>exact⟨_,f,rfl,j,rfl,by simpa using h3,h4,o⟩
theorem qJ2(w:World)(hc:qYA w)(h4:qWB w):Calls prog 7 #[] w fun e w'=>e=.returned (.bool true)/\Below w.1.size w w':=by
 have H1:=hI (qKb exS1 w hc h4);have HC:=hI (fun(W:World) (h:Below w.1.size w W)=>qKb exS2 W (hc.below h) (h4.below h));clear hc h4;rw[ex_c1]at H1;obtain⟨r,f,hr,hg1,j,d4,d6,hbt⟩:=ex_c2;rw[hr]at HC;unfold exS1 at H1;unfold exS2 at HC;clear hr;go_enter func7,ntmps7
 go_wp2_with fail
 refine(H1.o).mono ?_;rintro e w1 ⟨rfl,O⟩;have hz:=bal (Below.refl w1.1.size w1) (.cells #[.slice none 0 0, .slice none 0 0, .int .i64 0] 30);have I:=hI (O.trans (hz.mono O.size));have H2:=hI (HC.o _ I.o);clear H1 HC O hz;unfold qZX;go_wp2_with fail
 refine(H2.o).mono ?_;rintro e w2 ⟨v,rfl,hP,d3⟩;obtain⟨U,R,fq,fc,rfl,V⟩:=hP.at
 obtain⟨g,rfl,f5,f7,hR⟩:=V.fs.resolve_left (fun e=>by rw[j]at e;cases e);obtain⟨qv,cv,qb,cb,C,-,-,-,-⟩:=hR 0 (by rw[j];simp);have f3:r.funcs.length=1:=by rw[j];rfl
 have d5:(r.funcs[0]'(by rw[j];simp)).body.length=1:=by simp only[j];exact d4
 have k4:w2.cell? ⟨g,5,none⟩=some (.slice qb 1 cb):=by
  have:=C.c5;rw[d5]at this;simpa using this
 have hb3:=bal (Below.refl w2.1.size w2) (.cells #[.slice U r.globals.length R, .slice (some ⟨g,0,none⟩) r.funcs.length fc, .int .i64 r.main] 30);have X:=hI (I.o.trans (d3.mono I.o.size));have s:=hI (X.o.trans (hb3.mono X.o.size));have HF:=hI (qLD w2.1.size qZf r U (some ⟨g,0,none⟩) R fc _ hb3.size (V.keep hb3));have y:=hI (fun(W:World) (h:Below w2.1.size w2 W)=>qMs w2.1.size r U (some ⟨g,0,none⟩) R fc W h.size (V.keep h));have z:=hI (fun(W:World) (h:Below w2.1.size w2 W)=>qLp w2.1.size r r U (some ⟨g,0,none⟩) U (some ⟨g,0,none⟩) R fc R fc W h.size (V.keep h) (V.keep h));have HW:=hI hb3;have HN:=hI (vL w2 (.cells #[.slice U r.globals.length R, .slice (some ⟨g,0,none⟩) r.funcs.length fc, .int .i64 r.main] 30));have f4:(r.funcs.length:Int)=1:=by omega
 have f6:(r.globals.length:Int)=1:=by omega
 have f8:=kP hb3 k4;rw[d6]at HF;rw[hbt]at y;rw[qLw]at z;clear hP V hR C hb3 d3 H2 j d4 d5 d6 hbt;unfold prV qZf at *;rw[f3,hg1]at HF y z HW HN s;go_wp2_with fail
 refine(HF.o).mono ?_;rintro e w3 ⟨rfl,hb3⟩;have J:=hI (s.o.trans (hb3.mono s.o.size));have A:=hI (HW.o.trans (hb3.mono HW.o.size));have M4:=(hb3.block _ (by simp)).trans HN.o;have d2:=hI M4;obtain⟨m0,m1,m2⟩:=qUF M4;have G:=qJ m0;simp only at G;have Y:=hI (y.o w3 A.o);clear hb3 HF s HW M4 y HN;go_wp2_with fail
 refine(Y.o).mono ?_;rintro e w4 ⟨rfl,hb4⟩;have Z:=hI (J.o.trans (hb4.mono J.o.size));have d9:=hI (A.o.trans (hb4.mono A.o.size));have M6:=(hb4.block _ G).trans d2.o;obtain⟨m0,m1,m2⟩:=qUF M6;have G:=qJ m0;simp only at G;have d8:=hI (z.o w4 d9.o);clear hb4 J A Y M6 d2 z;go_wp2_with fail
 refine(d8.o).mono ?_;rintro e w5 ⟨rfl,hb5⟩;have d7:=hI (Z.o.trans (hb5.mono Z.o.size));go_wp2
 go_ret;exact⟨rfl,d7.o⟩
def RC{α β:Type}(S:α->β->Prop):CR α->CR β->Prop
 | .ok a, .ok b=>S a b
 | .bad _ _ c, .bad _ _ c'=>c=c'/\c≠0
 | _,_=>False
def qU9{α β:Type}(_:α)(_:β):Prop:=True
section
variable {α β γ δ:Type}
theorem RC.bind{S:α->β->Prop}{T:γ->δ->Prop}{p:CR α}{q:CR β}{f:α->CR γ}{g:β->CR δ}(h:RC S p q)(hf:∀ a b,S a b->RC T (f a) (g b)):RC T (p.bind f) (q.bind g):=by
 cases p with
 | ok a=>cases q with
  | ok b=>exact hf a b h
  | bad _ _ _=>exact h.elim
 | bad _ _ _=>cases q with
  | ok b=>exact h.elim
  | bad _ _ _=>exact h
theorem RC.ite{S:α->β->Prop}{c:Prop}[Decidable c]{p j:CR α}{q o:CR β}(s:RC S p q)(h2:RC S j o):RC S (if c then p else j) (if c then q else o):=by
 by_cases h:c
 ·rw[if_pos h,if_pos h];exact s
 ·rw[if_neg h,if_neg h];exact h2
theorem RC.need{b b':Bool}{t u:qQ}(code:Int)(h:b=b')(hc:code≠0:=by decide):RC qU9 (jQ b t code) (jQ b' u code):=by
 subst h;unfold jQ;cases b
 ·exact⟨rfl,hc⟩
 ·exact trivial
end
theorem qWt{k x:List UInt8}{m ln co:Int}{ks:List qQ}{u:qQ}(h:kO (.mk k x m ln co ks) u=true):∃ s o j,u=.mk k x m s o j/\xC ks j=true:=by
 obtain⟨z,A,m',s,o,j⟩:=u;obtain⟨y,h2,h3,h4⟩:=jN h;simp only[qQ.kind,qQ.text,qQ.num,qQ.kids]at y h2 h3 h4;subst y h2 h3;exact⟨s,o,j,rfl,h4⟩
theorem xY{t:qQ}{r us:List qQ}(h:xC (t :: r) us=true):∃ u us',us=u :: us'/\kO t u=true/\xC r us'=true:=by
 cases us with
 | nil=>simp[xC]at h
 | cons u us=>simp only[xC,bE]at h;exact⟨u,us,rfl,h.1,h.2⟩
theorem xK{us:List qQ}(h:xC [] us=true):us=[]:=by
 cases us with
 | nil=>rfl
 | cons _ _=>simp[xC]at h
section
variable (E:Env)
theorem qWT{t u:qQ}(h:t.text=u.text):RC Eq (qZD E t) (qZD E u):=by
 unfold qZD;rw[h];cases qQj u.text 0 E.own with
 | some p=>exact rfl
 | none =>
  cases qQj u.text 0 E.gs with
  | some p=>exact rfl
  | none=>exact⟨rfl,by decide⟩
mutual
theorem sug_alike:∀ (t u:qQ),kO t u=true->RC Eq (qJu E t) (qJu E u)
 | .mk k x m ln co ks,u,h=>by
  obtain⟨ln',co',ks',rfl,hk⟩:=qWt h;rw[qJu,qJu];refine RC.ite rfl (RC.ite rfl (RC.ite ?_ (RC.ite rfl (RC.ite rfl (qJG ks ks' hk)))));refine(qWT E (t:=.mk k x m ln co ks) (u:=.mk k x m ln' co' ks') rfl).bind fun a b hab=>?_
  subst hab;exact rfl
theorem qJG:∀ (ts us:List qQ),xC ts us=true->RC Eq (qQu E ts) (qQu E us)
 | [],us,h=>by rw[xK h,qQu];exact rfl
 | t :: r,us,h=>by
  obtain⟨u,us',rfl,h1,h2⟩:=xY h;rw[qQu,qQu];refine(sug_alike t u h1).bind fun a b hab=>?_
  subst hab;exact RC.ite (qJG r us' h2) rfl
end
theorem qZq{ts us:List qQ}(h:xC ts us=true):RC Eq (yB E ts) (yB E us) :=
 (qJG E ts us h).bind fun a b hab=>by subst hab;exact rfl
def TyE(a b:Ex):Prop:=a.ty=b.ty
theorem qV8{t u:qQ}(h:kO t u=true):RC TyE (qQ1 E t) (qQ1 E u):=by
 have hp:=jN h;unfold qQ1;rw[hp.1];refine(qWT E hp.2.1).bind fun a b hab=>?_
 subst hab;exact(RC.need _ rfl).bind fun _ _ _=>rfl
theorem qW1(op:List UInt8){ts us:List qQ}(h:xC ts us=true)(T:Ty):RC Eq (qQr E op ts T) (qQr E op us T):=by
 unfold qQr;split
 ·exact rfl
 ·exact RC.ite rfl ((qZq E h).bind fun a b hab=>by subst hab;exact rfl)
 ·exact RC.ite rfl ((qZq E h).bind fun a b hab=>by subst hab;exact rfl)
 ·exact rfl
 ·exact rfl
theorem qV4{ts us:List qQ}(h:xC ts us=true)(t u:qQ)(j:kO t u=true):kO (ts.headD t) (us.headD u)=true:=by
 cases ts with
 | nil=>rw[xK h];exact j
 | cons a r=>obtain⟨b,s,rfl,o,_⟩:=xY h;exact o
theorem qWg(e:Ex)(ks:List Ex):(e.withKids ks).ty=e.ty:=by cases e;rfl
mutual
theorem qXd:∀ (t u:qQ) (T:Ty),kO t u=true->RC qU9 (qQT E t T) (qQT E u T)
 | .mk k x m ln co ks,u,T,h=>by
  obtain⟨ln',co',ks',rfl,hk⟩:=qWt h;have hl:=qX3 _ _ hk;rw[qQT,qQT];refine RC.ite ?_ (RC.ite ?_ (RC.ite ?_ (RC.ite ?_ ?_)))
  ·exact(RC.need _ rfl).bind fun _ _ _=>trivial
  ·exact(RC.need _ rfl).bind fun _ _ _=>trivial
  ·refine(qV8 E h).bind fun a b hab=>?_
   unfold TyE at hab;rw[hab];refine(RC.need _ rfl).bind fun _ _ _=>?_
   rw[hl];refine RC.ite trivial ((qZq E hk).bind fun c d hcd=>?_);subst hcd;exact(RC.need _ rfl).bind fun _ _ _=>(qZG ks ks' c hk).bind fun _ _ _=>trivial
  ·refine(RC.need _ rfl).bind fun _ _ _=>(qZq E hk).bind fun c d hcd=>?_
   subst hcd;exact(qZG ks ks' c hk).bind fun _ _ _=>trivial
  ·refine(qW1 E _ hk T).bind fun c d hcd=>?_
   subst hcd;exact(RC.need _ rfl).bind fun _ _ _=>(qZG ks ks' c.1 hk).bind fun _ _ _=>trivial
theorem qZG:∀ (ts us:List qQ) (T:Ty),xC ts us=true->RC qU9 (vD E ts T) (vD E us T)
 | [],us,T,h=>by rw[xK h,vD];exact trivial
 | t :: r,us,T,h=>by
  obtain⟨u,us',rfl,h1,h2⟩:=xY h;rw[vD,vD];exact(qXd t u T h1).bind fun _ _ _=>(qZG r us' T h2).bind fun _ _ _=>trivial
end
theorem qPK{ts us:List qQ}(h:xC ts us=true):RC qU9 (qQL E ts) (qQL E us):=by
 unfold qQL;rw[qX3 _ _ h];refine RC.ite trivial ((qZq E h).bind fun a b hab=>?_);subst hab;exact(RC.need _ rfl).bind fun _ _ _=>qZG E ts us a h
theorem qJk{t u:qQ}(h:kO t u=true):RC TyE (wJ E t) (wJ E u):=by
 unfold wJ;refine(qV8 E h).bind fun a b hab=>(qPK E (jN h).2.2.2).bind fun c d _=>?_
 show TyE _ _
 unfold TyE at *;rw[qWg,qWg,hab]
theorem qKA:∀ (ts us:List qQ) (j:List qI),xC ts us=true->RC qU9 (wM E ts j) (wM E us j)
 | [],us,j,h=>by rw[xK h,wM];exact trivial
 | t :: r,us,j,h=>by
  obtain⟨u,o,rfl,s,h2⟩:=xY h;rw[wM,wM];exact(qXd E t u _ s).bind fun _ _ _=>(qKA r o _ h2).bind fun _ _ _=>trivial
end
theorem qKZ(fs:List kI){t u:qQ}(h:kO t u=true):RC Eq (wI fs t) (wI fs u):=by
 have hp:=jN h;unfold wI;rw[hp.2.1];cases qQN u.text 0 fs with
 | none=>exact⟨rfl,by decide⟩
 | some p =>
  obtain⟨a,i⟩:=p;exact(RC.need _ (by rw[qX3 _ _ hp.2.2.2])).bind fun _ _ _=>rfl
theorem qJA{t u:qQ}(h:kO t u=true):qZr t=qZr u:=by
 have hp:=jN h;have j:=qV4 hp.2.2.2 (.mk [] [] 0 0 0 []) (.mk [] [] 0 0 0 []) rfl;unfold qZr;rw[hp.2.1,(jN j).2.1]
theorem qPO(own:List qI){t u:qQ}(h:kO t u=true):RC Eq (qJJ own t) (qJJ own u):=by
 unfold qJJ;rw[qJA h,(jN h).2.1];exact(RC.need _ rfl).bind fun _ _ _=>(RC.need _ rfl).bind fun _ _ _=>rfl
theorem qUe{ts us:List qQ}(h:xC ts us=true):∀ i,kO (kid ts i) (kid us i)=true:=by
 induction ts generalizing us with
 | nil=>rw[xK h];intro i;rfl
 | cons t r ih =>
  obtain⟨u,o,rfl,j,h2⟩:=xY h;intro i;cases i with
  | zero=>exact j
  | succ i=>exact ih h2 i
def OwnE(a b:Sx×List qI):Prop:=a.2=b.2
def OwnL(a b:List Sx×List qI):Prop:=a.2=b.2
section
variable (gs:List qI) (fs:List kI) (ret:Ty)
mutual
theorem st_alike:∀ (t u:qQ) (own:List qI),kO t u=true->RC OwnE (stC gs fs ret t own) (stC gs fs ret u own)
 | .mk k x m ln co ks,u,own,h=>by
  obtain⟨ln',co',ks',rfl,hk⟩:=qWt h;have hl:=qX3 _ _ hk;have h0:=qUe hk 0;have h1:=qUe hk 1;rw[stC.eq_def,stC.eq_def];simp only;refine RC.ite ?_ (RC.ite ?_ (RC.ite ?_ (RC.ite ?_ (RC.ite ?_ ?_))))
  ·refine(qJk _ h0).bind fun a b hab=>?_
   unfold TyE at hab;rw[hab];exact(qXd _ _ _ _ h1).bind fun _ _ _=>rfl
  ·exact(qJk _ h0).bind fun a b hab=>rfl
  ·refine(qKZ fs h).bind fun a b hab=>?_
   subst hab;exact(qKA _ ks ks' _ hk).bind fun _ _ _=>rfl
  ·refine(qJk _ h0).bind fun a b hab=>(qKZ fs h1).bind fun c d hcd=>?_
   subst hcd;unfold TyE at hab;rw[hab];exact(RC.need _ rfl).bind fun _ _ _=>(qKA _ _ _ _ (jN h1).2.2.2).bind fun _ _ _=>rfl
  ·exact(RC.need _ (by rw[hl])).bind fun _ _ _=>(qZG _ ks ks' ret hk).bind fun _ _ _=>rfl
  ·match ks,hk with
   | [],hk=>rw[xK hk];exact rfl
   | [a],hk =>
    obtain⟨a',us1,rfl,e1,hk⟩:=xY hk;rw[xK hk];exact(qXd _ a a' _ e1).bind fun _ _ _=>rfl
   | [a,b],hk =>
    obtain⟨a',us1,rfl,e1,hk⟩:=xY hk;obtain⟨b',us2,rfl,e2,hk⟩:=xY hk;rw[xK hk];exact(qXd _ a a' _ e1).bind fun _ _ _=>(qKX b b' own e2).bind fun _ _ h=>h
   | a :: b :: c :: r,hk =>
    obtain⟨a',us1,rfl,e1,hk⟩:=xY hk;obtain⟨b',us2,rfl,e2,hk⟩:=xY hk;obtain⟨c',us3,rfl,e3,hk⟩:=xY hk;refine(qXd _ a a' _ e1).bind fun _ _ _=>(qKX b b' own e2).bind fun p q h=>?_
    unfold OwnL at h;rw[h];exact(qKX c c' q.2 e3).bind fun _ _ h=>h
theorem qKX:∀ (t u:qQ) (own:List qI),kO t u=true->RC OwnL (blC gs fs ret t own) (blC gs fs ret u own)
 | .mk k x m ln co ks,u,own,h=>by
  obtain⟨ln',co',ks',rfl,hk⟩:=qWt h;rw[blC,blC];exact qVQ ks ks' own hk
theorem qVQ:∀ (ts us:List qQ) (own:List qI),xC ts us=true->RC OwnL (qXJ gs fs ret ts own) (qXJ gs fs ret us own)
 | [],us,own,h=>by rw[xK h,qXJ];exact rfl
 | t :: r,us,own,h=>by
  obtain⟨u,us',rfl,h1,h2⟩:=xY h;rw[qXJ,qXJ,(jN h1).1];refine RC.ite ((qPO own h1).bind fun a b hab=>?_) ((st_alike t u own h1).bind fun a b hab=>?_)
  ·subst hab;exact qVQ r us' a h2
  ·unfold OwnE at hab;rw[hab];exact(qVQ r us' b.2 h2).bind fun _ _ h=>h
end
end
theorem qV6:∀ {ts us:List qQ},xC ts us=true->kO (ts.getLastD (.mk [] [] 0 0 0 [])) (us.getLastD (.mk [] [] 0 0 0 []))=true:=by
 have o:∀ (ts us:List qQ) (t u:qQ),kO t u=true->xC ts us=true->kO (ts.getLastD t) (us.getLastD u)=true:=by
  intro ts;induction ts with
  | nil=>intro us t u h j;rw[xK j];exact h
  | cons a r ih =>
   intro us t u h j;obtain⟨b,s,rfl,y,h2⟩:=xY j;rw[List.getLastD_cons,List.getLastD_cons];exact ih s a b y h2
 intro ts us h;exact o ts us _ _ rfl h
theorem qJE:∀ {ts us:List qQ},xC ts us=true->xC ts.dropLast us.dropLast=true
 | [],us,h=>by rw[xK h];rfl
 | [t],us,h=>by
  obtain⟨u,j,rfl,y,h2⟩:=xY h;rw[xK h2];rfl
 | t :: s :: r,us,h=>by
  obtain⟨u,j,rfl,y,h2⟩:=xY h;obtain⟨v,o,rfl,h3,h4⟩:=xY h2;rw[List.dropLast_cons₂,List.dropLast_cons₂];simp only[xC,bE];exact⟨y,qJE (ts:=s :: r) (us:=v :: o) (by simp only[xC,bE];exact⟨h3,h4⟩)⟩
theorem qPw{ts us:List qQ}(h:xC ts us=true):xC (ts.drop 1) (us.drop 1)=true:=by
 cases ts with
 | nil=>rw[xK h];rfl
 | cons t r=>obtain⟨u,j,rfl,o,h2⟩:=xY h;exact h2
theorem qKv(S:HdS){t u:qQ}(h:kO t u=true):RC qU9 (yF S t) (yF S u):=by
 unfold yF;rw[(jN h).2.1];exact RC.need _ rfl
theorem qUO(S:HdS){t u:qQ}(h:kO t u=true):RC Eq (qZ9 S t) (qZ9 S u):=by
 have hp:=jN h;have hl:=qV6 hp.2.2.2;unfold qZ9;generalize t.kids.getLastD (.mk [] [] 0 0 0 [])=a at *;generalize u.kids.getLastD (.mk [] [] 0 0 0 [])=b at *;have j:=jN hl;simp only[qJA h,j.1,j.2.2.1];exact(RC.need _ rfl).bind fun _ _ _=>(qKv S h).bind fun _ _ _=>(RC.need _ rfl).bind fun _ _ _=>rfl
theorem qVg:∀ (ts us:List qQ) (acc:List qI),xC ts us=true->RC Eq (yH ts acc) (yH us acc)
 | [],us,acc,h=>by rw[xK h,yH];exact rfl
 | t :: r,us,acc,h=>by
  obtain⟨u,j,rfl,o,h2⟩:=xY h;rw[yH,yH,(jN o).2.1,qJA o];exact(RC.need _ rfl).bind fun _ _ _=>(RC.need _ rfl).bind fun _ _ _=>qVg r j _ h2
theorem qWV(S:HdS){t u:qQ}(h:kO t u=true):RC Eq (wF S t) (wF S u):=by
 have hp:=jN h;have j:=qV4 hp.2.2.2 (.mk [] [] 0 0 0 []) (.mk [] [] 0 0 0 []) rfl;unfold wF;refine(RC.need _ rfl).bind fun _ _ _=>(qKv S h).bind fun _ _ _=>(qVg _ _ [] (qPw (qJE hp.2.2.2))).bind fun a b hab=>?_
 subst hab;rw[hp.2.1,(jN j).2.1];exact rfl
theorem qV5:∀ (ts us:List qQ) (S:HdS),xC ts us=true->RC Eq (yS ts S) (yS us S)
 | [],us,S,h=>by rw[xK h,yS];exact rfl
 | t :: r,us,S,h=>by
  obtain⟨u,o,rfl,j,h2⟩:=xY h;rw[yS,yS,(jN j).1];refine RC.bind (S:=Eq) (RC.ite (qWV S j) (qUO S j)) fun a b hab=>?_
  subst hab;exact qV5 r o a h2
theorem qX9(gs:List qI)(fs:List kI):∀ (ts us:List qQ) (hs:List kI),xC ts us=true->RC qU9 (vG gs fs ts hs) (vG gs fs us hs)
 | [],us,hs,h=>by rw[xK h,vG];exact trivial
 | t :: r,us,hs,h=>by
  obtain⟨u,j,rfl,o,h2⟩:=xY h;rw[vG.eq_def,vG.eq_def];simp only;rw[(jN o).1];refine RC.ite ?_ (qX9 gs fs r j hs h2);cases hs with
  | nil=>exact trivial
  | cons a hs=>exact(qKX gs fs a.t _ _ a.params (qV6 (jN o).2.2.2)).bind fun _ _ _=>(qX9 gs fs r j hs h2).bind fun _ _ _=>trivial
theorem qPn{t u:qQ}(h:kO t u=true):RC qU9 (qZb t) (qZb u):=by
 have j:=(jN h).2.2.2;unfold qZb;refine(qV5 _ _ _ j).bind fun a b hab=>?_
 subst hab;refine(qX9 a.gs a.fs _ _ a.fs j).bind fun _ _ _=>?_
 cases qQN qZf 0 a.fs with
 | none=>exact⟨rfl,by decide⟩
 | some p=>exact RC.ite trivial ⟨rfl,by decide⟩
theorem qLy:∀ t:qQ,kO t t=true
 | .mk k x m ln co ks=>zR rfl rfl rfl (qLA fun t ht=>qLy t)
theorem qLX{t:qQ}{a b c:Int}(h:qZb t=.bad a b c):c≠0:=by
 have:=qPn (qLy t);rw[h]at this;exact this.2
theorem readC_bad{s:List UInt8}{a b c:Int}(h:qXN s=.bad a b c):c≠0:=by
 unfold qXN at h;have ho:=qVG s;cases hr:qZ4 s with
 | out=>exact absurd hr ho
 | ok t l=>rw[hr]at h;exact qLX h
 | bad x y z =>
  rw[hr]at h;have:=qLq hr;injection h with e1 e2 e3;omega
theorem sound_law(s:ByteArray)(w:World)(hc:qYA w)(h4:qWB w):Calls prog 4 #[.string s] w fun e w'=>e=.returned (.bool true)/\Below w.1.size w w':=by
 have HC:=hI hc;have H4:=hI h4;have Y:=hI (fun(W:World) (h:Below w.1.size w W)=>qJ2 W (HC.o.below h) (H4.o.below h));by_cases hl:(s.size:Int)<=2000
 case neg =>
  have HA:=hI (qJ2 w hc h4);clear h4 hc Y;go_enter func4,ntmps4
  go_wp2_with fail
  refine(HA.o).mono ?_;rintro e R ⟨rfl,hb⟩;go_wp2
  go_ret;exact⟨rfl,hb⟩
 case pos =>
 have V:=hI (qKb s w hc h4);clear hc h4;cases hP:qXN s.data.toList with
 | bad la lb lc =>
  have g3:=readC_bad hP;have d5:(lc != 0)=true:=by simpa using g3
  rw[hP]at V;clear hP g3;go_enter func4,ntmps4
  go_wp2_with fail
  refine(V.o).mono ?_;rintro e R ⟨rfl,J⟩;unfold qZX;have C:=hI (bal J (.cells #[.slice none 0 0, .slice none 0 0, .int .i64 0] 30));have HA:=hI (Y.o _ C.o);clear J V;go_wp2_with fail
  refine(HA.o).mono ?_;rintro e w3 ⟨rfl,hb3⟩;have d8:=hI (C.o.trans (hb3.mono C.o.size));have g6:=hI (Y.o w3 d8.o);clear hb3 HA;go_wp2_with fail
  refine(g6.o).mono ?_;rintro e w4 ⟨rfl,hb4⟩;go_wp2
  go_ret;exact⟨rfl,d8.o.trans (hb4.mono d8.o.size)⟩
 | ok p =>
 obtain⟨hf,hg,mi,mf,g4,f5,m5,m6⟩:=read_snd hP;rw[hP]at V;clear hP;obtain⟨pg,O,pm⟩:=p;simp only at hf hg g4 f5;subst g4;obtain⟨f6,m7⟩:=List.getElem?_eq_some_iff.1 f5;clear f5;have HF:=hI hf;have HG:=hI hg;clear hf hg;go_enter func4,ntmps4
 go_wp2_with fail
 refine(V.o).mono ?_;rintro e R ⟨v,rfl,hp,d5⟩;obtain⟨gq,gc,fq,fc,rfl,hA⟩:=hp.at
 have f4:=bal (Below.refl R.1.size R) (.cells #[.slice gq pg.length gc, .slice fq O.length fc, .int .i64 (mi:Nat)] 30);have C:=hI (d5.trans (f4.mono d5.size));have N1:=hI (vL R (.cells #[.slice gq pg.length gc, .slice fq O.length fc, .int .i64 (mi:Nat)] 30));have HP:=hI (hA.keep f4);have n5:(R.alloc (.cells #[.slice gq pg.length gc, .slice fq O.length fc, .int .i64 (mi:Nat)] 30)).1.size=R.1.size+1:=by simp
 have HA:=hI (Y.o _ C.o);clear hp d5 hA f4 V HC H4 Y;unfold prV;simp only;go_wp2_with fail
 refine(HA.o).mono ?_;rintro e w2 ⟨rfl,J⟩;have f7:=hI (C.o.trans (J.mono C.o.size));have M1:=hI ((J.block R.1.size (by omega)).trans N1.o);have d4:=hI (HP.o.keep (J.mono (by omega)));have n4:R.1.size < w2.1.size:=by have:=J.size;omega
 clear J HA HP N1 C;have m3:=d4.o.gl;have g9:=d4.o.fl;simp only at m3 g9;go_wp2_with fail
 go_loopw [7] (fun i wr=>AlRel O.length w2 i wr) (fun i _=>O.length - (intOf i).toNat)
 case atStart=>exact⟨0,Nat.zero_le _,rfl,Below.refl _ _⟩
 case round =>
  obtain⟨k,hk,rfl,hb⟩:=hrel;have G:=hI hb;have U:=hI (d4.o.keep (hb.mono (by omega)));obtain⟨m0,m1,m2⟩:=qUF ((hb.block R.1.size (by omega)).trans M1.o);have d6:=qJ m0;simp only at d6;clear hb;by_cases j:k < O.length
  case pos =>
   obtain⟨g,rfl,g0,g1,I⟩:=U.o.fs.resolve_left (fun e=>by rw[show O=[]from e]at j;simp at j);obtain⟨qv,cv,qb,cb,X,_,n1,g5,f8⟩:=I k j;have k3:=X.c3;have k4:=X.c4;have k5:=X.c5;have hF:=HF.o _ (List.getElem_mem j);have f3:=fun(W:World) (h:Below wr.1.size wr W)=>all_any R.1.size _ O[k].body (Nat.lt_succ_self _) qb cb W (by have:=h.size;omega) (g5.keep (h.mono (by omega))) f8 hF.body
   have n3:=hF.params;have g2:(k:Int) < (O.length:Nat):=by omega
   have m4:(0:Int)<=(k:Int):=by omega
   simp only at k3 k4 k5 n1;unfold xM at f3;have HC:=hI f3;clear X I hF f3 g5 f8;generalize O[k]=f at *;generalize f.body.length=nb at *;generalize f.vars.length=nv at *;generalize f.params=fp at *;go_wp2_with fail
   generalize wr=Z at *;refine wRg (S:=fun w'=>Below Z.1.size Z w') 24 ?_;refine wTk 0 36 (.pointer (some ⟨R.1.size,1,none⟩)) ?_ (bD Z) ?_
   ·intro _ y;go_simp
   refine wTk 1 37 (.slice (some ⟨g,0,none⟩) O.length fc) ?_ (bD Z) ?_
   ·intro _ y;have m1:=kP y m1;go_simp
   refine wTk 2 38 (.int .i64 k) ?_ (bD Z) ?_
   ·intro _ y;go_simp
   refine wTk 3 39 (.pointer (some ⟨g,k * 6,none⟩)) ?_ (bD Z) ?_
   ·intro _ y;go_simp
   refine wTk 4 40 (.pointer (some ⟨g,k * 6+5,none⟩)) ?_ (bD Z) ?_
   ·intro _ y;go_simp
   refine wTk 5 41 (.slice qb nb cb) ?_ (bD Z) ?_
   ·intro _ y;have k5:=kP y k5;go_simp
   refine wOn 6 fun K hK=>?_
   go_simp;refine(HC.o _ (Below.refl _ _).drew).mono ?_;rintro e v1 ⟨rfl,d3⟩;have d3:=zF d3;have A:=hI d3;refine kK hK d3 ?_;clear hK K;clear d3;refine wTk 7 43 (.bool false) ?_ A.o ?_
   ·intro _ y;go_simp
   refine wTk 8 44 (.bool false) ?_ A.o ?_
   ·intro _ y;go_simp
   refine wTk 9 45 (.pointer (some ⟨R.1.size,1,none⟩)) ?_ A.o ?_
   ·intro _ y;go_simp
   refine wTk 10 46 (.slice (some ⟨g,0,none⟩) O.length fc) ?_ A.o ?_
   ·intro _ y;have m1:=kP y m1;go_simp
   refine wTk 11 47 (.int .i64 k) ?_ A.o ?_
   ·intro _ y;go_simp
   refine wTk 12 48 (.pointer (some ⟨g,k * 6,none⟩)) ?_ A.o ?_
   ·intro _ y;go_simp
   refine wTk 13 49 (.pointer (some ⟨g,k * 6+3,none⟩)) ?_ A.o ?_
   ·intro _ y;go_simp
   refine wTk 14 50 (.int .i64 fp) ?_ A.o ?_
   ·intro _ y;have k3:=kP y k3;go_simp
   refine wTk 15 51 (.pointer (some ⟨R.1.size,1,none⟩)) ?_ A.o ?_
   ·intro _ y;go_simp
   refine wTk 16 52 (.slice (some ⟨g,0,none⟩) O.length fc) ?_ A.o ?_
   ·intro _ y;have m1:=kP y m1;go_simp
   refine wTk 17 53 (.int .i64 k) ?_ A.o ?_
   ·intro _ y;go_simp
   refine wTk 18 54 (.pointer (some ⟨g,k * 6,none⟩)) ?_ A.o ?_
   ·intro _ y;go_simp
   refine wTk 19 55 (.pointer (some ⟨g,k * 6+4,none⟩)) ?_ A.o ?_
   ·intro _ y;go_simp
   refine wTk 20 56 (.slice qv nv cv) ?_ A.o ?_
   ·intro _ y;have k4:=kP y k4;go_simp
   refine wTk 21 57 (.int .i64 nv) ?_ A.o ?_
   ·intro _ y;go_simp
   refine wTk 22 58 (.bool false) ?_ A.o ?_
   ·intro _ y;go_simp
   refine wTk 23 59 (.bool false) ?_ A.o ?_
   ·intro _ y;go_simp
   refine wDn ?_ _;go_wp2
   go_roundw
   case rel=>exact⟨k+1,by omega,by go_num,G.o.trans (A.o.mono G.o.size)⟩
   case measure=>simp[intOf];omega
  case neg =>
  go_wp2_with fail
  obtain⟨wp,rfl⟩:∃ wp:World,wp=wr:=⟨_,rfl⟩;clear m0 m1 m2 d6 U HF;go_loopw [8,9] (fun a i wr=>BtRel pg w2 a i wr) (fun _ i _=>pg.length - (intOf i).toNat)
  case atStart=>exact⟨0,0,Nat.zero_le _,rfl,rfl,by simp,G.o⟩
  case round =>
   obtain⟨k,acc,hk,rfl,rfl,f9,hb⟩:=hrel;have HS:=hI f9;have G:=hI hb;have U:=hI (d4.o.keep (hb.mono (by omega)));obtain⟨m0,m1,m2⟩:=qUF ((hb.block R.1.size (by omega)).trans M1.o);have d6:=qJ m0;simp only at d6;clear hb f9;by_cases j:k < pg.length
   case pos =>
    obtain⟨g,rfl,g0,g1,I⟩:=U.o.gs.resolve_left (fun e=>by rw[show pg=[]from e]at j;simp at j);have X:=I k j;have k1:=X.c1;have k3:=X.c3;simp only at k1 k3;have z:=qME j acc;have n0:=HG.o _ (List.getElem_mem j);have g2:(k:Int) < (pg.length:Nat):=by omega
    have m4:(0:Int)<=(k:Int):=by omega
    clear X I;generalize pg[k]=v at *;obtain⟨vn,⟨t1,t2⟩,vs⟩:=v;simp only at k1 k3 z n0;by_cases hz:vs=0
    ·subst hz;rw[show(max 0 1:Int)=1 from rfl,Int.mul_one]at z;simp only[IntWalk.i64_left]at z;have d9:=hI z;clear z;go_wp2
     go_roundw
     case rel=>exact⟨k+1,wrap64 (acc+wrap64 t1),by omega,by go_num,rfl,by rw[<-HS.o,d9.o],G.o⟩
     case measure=>simp[intOf];omega
    ·rw[show max vs 1=vs by omega,Int.mul_comm t1 vs]at z;simp only[IntWalk.i64_left]at z;have d9:=hI z;clear z;go_wp2
     go_roundw
     case rel=>exact⟨k+1,wrap64 (acc+wrap64 (vs * t1)),by omega,by go_num,rfl,by rw[<-HS.o,d9.o],G.o⟩
     case measure=>simp[intOf];omega
   case neg =>
   have d7:=qMr j acc;rw[HS.o]at d7;obtain⟨g,rfl,g0,g1,I⟩:=U.o.fs.resolve_left (fun e=>by rw[show O=[]from e]at f6;simp at f6);obtain⟨qv,cv,qb,cb,X,_,_,_,_⟩:=I mi f6;have k0:=X.c0;have k3:=X.c3;simp only at k0 k3;rw[m7]at k0 k3;rw[m5]at k0;rw[m6]at k3;unfold qZf at k0;have m9:(mi:Int) < (O.length:Nat):=by omega
   have n2:(0:Int)<=(mi:Int):=by omega
   have d2:=fun(W:World) (h:Below wr.1.size wr W)=>qMs R.1.size ⟨pg,O,(mi:Nat)⟩ gq (some ⟨g,0,none⟩) gc fc W (by have:=h.size;omega) (U.o.keep (h.mono (by omega)))
   unfold prV at d2;simp only at d2;rw[d7]at d2;have g7:=hI d2;clear X I d2;go_wp2_with fail
   refine(g7.o _ (Below.refl _ _)).mono ?_;rintro e w9 ⟨rfl,g8⟩;go_wp2
   go_ret;exact⟨rfl,f7.o.trans ((G.o.trans (g8.mono G.o.size)).mono f7.o.size)⟩
end Go.Proofs.YtiajhekdhhhghaaGreatDoor
