/- Walks. -/
import Derived.Test.YtiajhekdhhhghaaGreatDoorMat
import Derived.Test.YtiajhekdhhhghaaGreatDoorMah
set_option linter.all false
set_option maxHeartbeats 8000000
set_option maxRecDepth 100000
namespace Go.Proofs.YtiajhekdhhhghaaGreatDoor
open Tryz Go.Proofs.Tryz
open Go Go.RowKit
def AlERel(ts us:List Ex)(w:World)(i:Value)(wr:World):Prop :=
 ∃ k:Nat,k≤ts.length∧i=.int .i64 k∧yO (ts.drop k) (us.drop k)=yO ts us∧Below w.1.size w wr
theorem qWE(B:Nat)(ts us:List Ex)(q q':Option Addr)(c c':Nat)(w:World)(hB:B≤w.1.size)(h1:qWx B w ts q)(h2:qWx B w us q')(hn1:ts.length≤maxLen)(hn2:us.length≤maxLen)
 (hrec:∀ t∈ts,∀ (u:Ex) (v v':Value) (w:World),B≤w.1.size→qQF w (· < B) t v→qQF w (· < B) u v'→Calls prog 70 #[exV t v,exV u v'] w (xM (qKs t u) w)) :
 Calls prog 69 #[.slice q ts.length c, .slice q' us.length c', .func (.func 70) #[] #[]] w (xM (yO ts us) w):=by
 have H1:=hI h1;have H2:=hI h2;have HR:=hI hrec;have hcf:∀ (args:Array Value) (w:World),(callFunc 70 args).run prog w=.ok (.enter 70 args) w:=fun _ _=>rfl
 unfold maxLen at hn1 hn2;clear h1 h2 hrec;unfold xM;by_cases hl:ts.length=us.length
 ·have hlb:(((ts.length:Nat):Int) != ((us.length:Nat):Int))=false:=by simp[hl]
  rw[←hl];rw[←hl]at hlb hn2;have HL:=hI hl;clear hl;go_enter func69,ntmps69
  go_wp2_with fail
  go_loopw [15] (fun i wr=>AlERel ts us w i wr) (fun i _=>ts.length - (intOf i).toNat)
  case atStart=>exact⟨0,Nat.zero_le _,rfl,by simp,Below.refl _ _⟩
  case round =>
   obtain⟨k,hk,rfl,hs,hb⟩:=hrel;have HS:=hI hs;have HBB:=hI hb;clear hs hb;by_cases hlt:k < ts.length
   ·have hlt':k < us.length:=by have:=HL.o;omega
    obtain⟨g,rfl,hgB,hgr,hR1⟩:=(H1.o.keep (HBB.o.mono hB)).resolve_left (fun e=>by rw[e]at hlt;simp at hlt);obtain⟨g',rfl,hgB',hgr',hR2⟩:=(H2.o.keep (HBB.o.mono hB)).resolve_left (fun e=>by rw[e]at hlt';simp at hlt');have hbs:B≤wr.1.size:=by have:=HBB.o.size;omega
    obtain⟨v1,l1,C1⟩:=hR1 k hlt;obtain⟨v2,l2,C2⟩:=hR2 k hlt';have⟨k0,k1,k2,k3,k4,k5,k6,k7,k8,_⟩:=C1.a;have⟨j0,j1,j2,j3,j4,j5,j6,j7,j8,_⟩:=C2.a;have HC:=hI (fun(W:World) (h:Below wr.1.size wr W)=>HR.o ts[k] (List.getElem_mem _) us[k] v1 v2 W (Nat.le_trans hbs h.size) (l1.keep (h.mono hbs)) (l2.keep (h.mono hbs)));have hstep:=sameEL_at hlt hlt';have HST:=hI hstep;clear hstep;clear C1 C2 hR1 hR2 l1 l2;generalize ts[k]=t at *;generalize us[k]=u at *;obtain⟨op,ty,n,va,gl,l,co,ks⟩:=t;obtain⟨op',ty',n',va',gl',l',co',ks'⟩:=u;simp only[Ex.op,Ex.ty,Ex.num,Ex.var,Ex.glob,Ex.line,Ex.col,exV]at k0 k1 k2 k3 k4 k5 k6 k7 k8 j0 j1 j2 j3 j4 j5 j6 j7 j8 HC;generalize hT:Ex.mk op ty n va gl l co ks=t at *;generalize hU:Ex.mk op' ty' n' va' gl' l' co' ks'=u at *;generalize hst:qKs t u=b at *;have hk63:(k:Int) < (ts.length:Nat):=by omega
    have hk0:(0:Int)≤(k:Int):=by omega
    go_wp2_with fail
    refine wRg (S:=fun w'=>Below wr.1.size wr w') 9 ?_;refine wTk 0 18 (.func (.func 70) #[] #[]) ?_ (bD wr) ?_
    ·intro _ y;go_simp
    refine wTk 1 19 (.slice (some ⟨g,0,none⟩) ts.length c) ?_ (bD wr) ?_
    ·intro _ y;go_simp
    refine wTk 2 20 (.int .i64 k) ?_ (bD wr) ?_
    ·intro _ y;go_simp
    refine wTk 3 21 (.pointer (some ⟨g,k * 9,none⟩)) ?_ (bD wr) ?_
    ·intro _ y;go_simp
    refine wTk 4 22 (.agg #[.string ⟨op.toArray⟩, .int .i64 ty.1, .bool ty.2, .int .u64 n, .int .i64 va, .bool gl, .int .i64 l, .int .i64 co,v1]) ?_ (bD wr) ?_
    ·intro _ y;have k0:=kP y k0;have k1:=kP y k1;have k2:=kP y k2;have k3:=kP y k3;have k4:=kP y k4;have k5:=kP y k5;have k6:=kP y k6;have k7:=kP y k7;have k8:=kP y k8;go_simp
    refine wTk 5 23 (.slice (some ⟨g',0,none⟩) ts.length c') ?_ (bD wr) ?_
    ·intro _ y;go_simp
    refine wTk 6 24 (.int .i64 k) ?_ (bD wr) ?_
    ·intro _ y;go_simp
    refine wTk 7 25 (.pointer (some ⟨g',k * 9,none⟩)) ?_ (bD wr) ?_
    ·intro _ y;go_simp
    refine wTk 8 26 (.agg #[.string ⟨op'.toArray⟩, .int .i64 ty'.1, .bool ty'.2, .int .u64 n', .int .i64 va', .bool gl', .int .i64 l', .int .i64 co',v2]) ?_ (bD wr) ?_
    ·intro _ y;have j0:=kP y j0;have j1:=kP y j1;have j2:=kP y j2;have j3:=kP y j3;have j4:=kP y j4;have j5:=kP y j5;have j6:=kP y j6;have j7:=kP y j7;have j8:=kP y j8;go_simp
    refine wOn 9 fun K hK=>?_
    go_simp;refine(HC.o _ (Below.refl _ _).drew).mono ?_;rintro e w3 ⟨rfl,hb3⟩;have hb9:=zF hb3;have HB9:=hI hb9;clear hb3;refine kD hK ?_;clear hK K;refine wOn 10 fun K hK=>?_
    go_simp;refine kD hK ?_;clear hK K;refine wDn ?_ _;clear hb9;cases b
    ·go_wp2
     go_ret;refine⟨?_,HBB.o.trans (HB9.o.mono HBB.o.size)⟩;rw[←HS.o,HST.o];rfl
    ·go_wp2
     go_roundw
     case rel=>exact⟨k+1,by omega,by go_num,by rw[←HS.o,HST.o,bT],HBB.o.trans (HB9.o.mono HBB.o.size)⟩
     case measure=>simp[intOf];omega
   ·have hend:=sameEL_end hlt HL.o;go_wp2
    go_ret;refine⟨?_,HBB.o⟩;rw[←HS.o,hend];rfl
 ·have hlb:(((ts.length:Nat):Int) != ((us.length:Nat):Int))=true:=by simp;omega
  have hs:yO ts us=false:=by
   cases h:yO ts us
   ·rfl
   ·exact absurd (qYe ts us h) hl
  rw[hs];clear hl;go_enter func69,ntmps69
  go_wp2
  go_ret;exact⟨rfl,Below.refl _ _⟩
theorem qYL(B:Nat)(a b:Ex)(v v':Value)(w:World)(hB:B≤w.1.size)(ha:qQF w (· < B) a v)(hb:qQF w (· < B) b v')
 (hrec:∀ t∈a.kids,∀ (u:Ex) (v v':Value) (w:World),B≤w.1.size→qQF w (· < B) t v→qQF w (· < B) u v'→Calls prog 70 #[exV t v,exV u v'] w (xM (qKs t u) w)) :
 Calls prog 70 #[exV a v,exV b v'] w (xM (qKs a b) w):=by
 obtain⟨q,c,rfl,hm,hka⟩:=ha.at
 obtain⟨q',c',rfl,hm',hkb⟩:=hb.at
 obtain⟨op,ty,n,va,gl,l,co,ks⟩:=a;obtain⟨op',ty',n',va',gl',l',co',ks'⟩:=b;simp only[Ex.kids]at *;have h2:=(bal (Below.refl w.1.size w) (.cells (exC (.mk op ty n va gl l co ks) (.slice q ks.length c)).toArray 76)).trans ((bal (Below.refl _ (w.alloc (.cells (exC (.mk op ty n va gl l co ks) (.slice q ks.length c)).toArray 76))) (.cells (exC (.mk op' ty' n' va' gl' l' co' ks') (.slice q' ks'.length c')).toArray 76)).mono (by simp));have HE:=hI (qWE B ks ks' q q' c c' _ (Nat.le_trans hB h2.size) (hka.keep (h2.mono hB)) (hkb.keep (h2.mono hB)) hm hm' hrec);have H2:=hI h2;have hst:qKs (.mk op ty n va gl l co ks) (.mk op' ty' n' va' gl' l' co' ks')=(op == op' && ((ty.1 == ty'.1 && ty.2 == ty'.2) && (n == n' && (va == va' && (gl == gl' && (l == l' && (co == co' && yO ks ks'))))))):=rfl;rw[hst];clear h2 ha hb hka hkb hrec hst hm hm';unfold xM at *;simp only[exC,exV]at *;cases e0:(op == op');case false =>
  go_enter func70,ntmps70
  go_wp2
  go_ret;exact⟨rfl,H2.o⟩
 case true =>
 obtain⟨t1,t2⟩:=ty;obtain⟨t1',t2'⟩:=ty';simp only at *;by_cases a1:t1=t1'
 case neg =>
  rw[show(t1 == t1')=false by simpa using a1];go_enter func70,ntmps70
  go_wp2
  go_ret;exact⟨rfl,H2.o⟩
 case pos =>
 subst a1;by_cases a2:t2=t2'
 case neg =>
  rw[show(t1 == t1)=true by simp,show(t2 == t2')=false by simpa using a2];go_enter func70,ntmps70
  go_wp2
  go_ret;exact⟨rfl,H2.o⟩
 case pos =>
 subst a2;rw[show(t1 == t1)=true by simp,show(t2 == t2)=true by simp];cases e2:(n == n');case false =>
  go_enter func70,ntmps70
  go_wp2
  go_ret;exact⟨rfl,H2.o⟩
 case true =>
 cases e3:(va == va');case false =>
  go_enter func70,ntmps70
  go_wp2
  go_ret;exact⟨rfl,H2.o⟩
 case true =>
 cases e4:(gl == gl');case false =>
  go_enter func70,ntmps70
  go_wp2
  go_ret;exact⟨rfl,H2.o⟩
 case true =>
 cases e5:(l == l');case false =>
  go_enter func70,ntmps70
  go_wp2
  go_ret;exact⟨rfl,H2.o⟩
 case true =>
 cases e6:(co == co');case false =>
  go_enter func70,ntmps70
  go_wp2
  go_ret;exact⟨rfl,H2.o⟩
 case true =>
  go_enter func70,ntmps70
  go_wp2_with fail
  refine(HE.o).mono ?_;rintro e w3 ⟨rfl,hb3⟩;go_wp2
  go_ret;exact⟨rfl,H2.o.trans (hb3.mono H2.o.size)⟩
theorem qU2(B:Nat):∀ (n:Nat) (a:Ex),SizeOf.sizeOf a < n→∀ (b:Ex) (va vb:Value) (w:World),B≤w.1.size→qQF w (· < B) a va→qQF w (· < B) b vb→Calls prog 70 #[exV a va,exV b vb] w (xM (qKs a b) w):=by
 intro n;induction n with
 | zero=>intro a h;omega
 | succ n ih =>
  intro a h b va vb w hB ha hb;refine qYL B a b va vb w hB ha hb fun t ht u v v' w1 h1 h2 h3=>ih t ?_ u v v' w1 h1 h2 h3
  obtain⟨op,ty,m,v,g,l,c,ks⟩:=a;have:=kidE_size (t:=t) (ks:=ks) ht op ty m v g l c;omega
theorem qKt(B:Nat)(es us:List Ex)(q q':Option Addr)(c c':Nat)(w:World)(hB:B≤w.1.size)(h1:qWx B w es q)(h2:qWx B w us q')(hn1:es.length≤maxLen)(hn2:us.length≤maxLen) :
 Calls prog 69 #[.slice q es.length c, .slice q' us.length c', .func (.func 70) #[] #[]] w (xM (yO es us) w) :=
 qWE B es us q q' c c' w hB h1 h2 hn1 hn2 fun t _ u v v' w1 hB1 l1 l2=>qU2 B _ t (Nat.lt_succ_self _) u v v' w1 hB1 l1 l2
def AlSRel(ts us:List Sx)(w:World)(i:Value)(wr:World):Prop :=
 ∃ k:Nat,k≤ts.length∧i=.int .i64 k∧yA (ts.drop k) (us.drop k)=yA ts us∧Below w.1.size w wr
theorem qKz(B:Nat)(ts us:List Sx)(q q':Option Addr)(c c':Nat)(w:World)(hB:B≤w.1.size)(h1:qVt B w ts q)(h2:qVt B w us q')(hn1:ts.length≤maxLen)(hn2:us.length≤maxLen)
 (hrec:∀ t∈ts,∀ (u:Sx) (v v':qQg) (w:World),B≤w.1.size→wL w (· < B) t v→wL w (· < B) u v'→Calls prog 48 #[sxV t v,sxV u v'] w (xM (qKu t u) w)) :
 Calls prog 47 #[.slice q ts.length c, .slice q' us.length c', .func (.func 48) #[] #[]] w (xM (yA ts us) w):=by
 have H1:=hI h1;have H2:=hI h2;have HR:=hI hrec;have hcf:∀ (args:Array Value) (w:World),(callFunc 48 args).run prog w=.ok (.enter 48 args) w:=fun _ _=>rfl
 unfold maxLen at hn1 hn2;clear h1 h2 hrec;unfold xM;by_cases hl:ts.length=us.length
 ·have hlb:(((ts.length:Nat):Int) != ((us.length:Nat):Int))=false:=by simp[hl]
  rw[←hl];rw[←hl]at hlb hn2;have HL:=hI hl;clear hl;go_enter func47,ntmps47
  go_wp2_with fail
  go_loopw [15] (fun i wr=>AlSRel ts us w i wr) (fun i _=>ts.length - (intOf i).toNat)
  case atStart=>exact⟨0,Nat.zero_le _,rfl,by simp,Below.refl _ _⟩
  case round =>
   obtain⟨k,hk,rfl,hs,hb⟩:=hrel;have HS:=hI hs;have HBB:=hI hb;clear hs hb;by_cases hlt:k < ts.length
   ·have hlt':k < us.length:=by have:=HL.o;omega
    obtain⟨g,rfl,hgB,hgr,hR1⟩:=(H1.o.keep (HBB.o.mono hB)).resolve_left (fun e=>by rw[e]at hlt;simp at hlt);obtain⟨g',rfl,hgB',hgr',hR2⟩:=(H2.o.keep (HBB.o.mono hB)).resolve_left (fun e=>by rw[e]at hlt';simp at hlt');have hbs:B≤wr.1.size:=by have:=HBB.o.size;omega
    obtain⟨v1,l1,C1⟩:=hR1 k hlt;obtain⟨v2,l2,C2⟩:=hR2 k hlt';have⟨k0,k1,k2,k3,k4,k5,k6,k7,_⟩:=C1.a;have⟨j0,j1,j2,j3,j4,j5,j6,j7,_⟩:=C2.a;have HC:=hI (fun(W:World) (h:Below wr.1.size wr W)=>HR.o ts[k] (List.getElem_mem _) us[k] v1 v2 W (Nat.le_trans hbs h.size) (l1.keep (h.mono hbs)) (l2.keep (h.mono hbs)));have hstep:=sameSL_at hlt hlt';have HST:=hI hstep;clear hstep;clear C1 C2 hR1 hR2 l1 l2;generalize ts[k]=t at *;generalize us[k]=u at *;obtain⟨op,l,co,tg,es,fn,th,el⟩:=t;obtain⟨op',l',co',tg',es',fn',th',el'⟩:=u;obtain⟨tv,ev,hv,lv⟩:=v1;obtain⟨tv',ev',hv',lv'⟩:=v2;simp only[Sx.op,Sx.line,Sx.col,Sx.fn,sxV]at k0 k1 k2 k3 k4 k5 k6 k7 j0 j1 j2 j3 j4 j5 j6 j7 HC;generalize hT:Sx.mk op l co tg es fn th el=t at *;generalize hU:Sx.mk op' l' co' tg' es' fn' th' el'=u at *;generalize hst:qKu t u=b at *;have hk63:(k:Int) < (ts.length:Nat):=by omega
    have hk0:(0:Int)≤(k:Int):=by omega
    go_wp2_with fail
    refine wRg (S:=fun w'=>Below wr.1.size wr w') 9 ?_;refine wTk 0 18 (.func (.func 48) #[] #[]) ?_ (bD wr) ?_
    ·intro _ y;go_simp
    refine wTk 1 19 (.slice (some ⟨g,0,none⟩) ts.length c) ?_ (bD wr) ?_
    ·intro _ y;go_simp
    refine wTk 2 20 (.int .i64 k) ?_ (bD wr) ?_
    ·intro _ y;go_simp
    refine wTk 3 21 (.pointer (some ⟨g,k * 8,none⟩)) ?_ (bD wr) ?_
    ·intro _ y;go_simp
    refine wTk 4 22 (.agg #[.string ⟨op.toArray⟩, .int .i64 l, .int .i64 co,tv,ev, .int .i64 fn,hv,lv]) ?_ (bD wr) ?_
    ·intro _ y;have k0:=kP y k0;have k1:=kP y k1;have k2:=kP y k2;have k3:=kP y k3;have k4:=kP y k4;have k5:=kP y k5;have k6:=kP y k6;have k7:=kP y k7;go_simp
    refine wTk 5 23 (.slice (some ⟨g',0,none⟩) ts.length c') ?_ (bD wr) ?_
    ·intro _ y;go_simp
    refine wTk 6 24 (.int .i64 k) ?_ (bD wr) ?_
    ·intro _ y;go_simp
    refine wTk 7 25 (.pointer (some ⟨g',k * 8,none⟩)) ?_ (bD wr) ?_
    ·intro _ y;go_simp
    refine wTk 8 26 (.agg #[.string ⟨op'.toArray⟩, .int .i64 l', .int .i64 co',tv',ev', .int .i64 fn',hv',lv']) ?_ (bD wr) ?_
    ·intro _ y;have j0:=kP y j0;have j1:=kP y j1;have j2:=kP y j2;have j3:=kP y j3;have j4:=kP y j4;have j5:=kP y j5;have j6:=kP y j6;have j7:=kP y j7;go_simp
    refine wOn 9 fun K hK=>?_
    go_simp;refine(HC.o _ (Below.refl _ _).drew).mono ?_;rintro e w3 ⟨rfl,hb3⟩;have hb9:=zF hb3;have HB9:=hI hb9;clear hb3;refine kD hK ?_;clear hK K;refine wOn 10 fun K hK=>?_
    go_simp;refine kD hK ?_;clear hK K;refine wDn ?_ _;clear hb9;cases b
    ·go_wp2
     go_ret;refine⟨?_,HBB.o.trans (HB9.o.mono HBB.o.size)⟩;rw[←HS.o,HST.o];rfl
    ·go_wp2
     go_roundw
     case rel=>exact⟨k+1,by omega,by go_num,by rw[←HS.o,HST.o,bT],HBB.o.trans (HB9.o.mono HBB.o.size)⟩
     case measure=>simp[intOf];omega
   ·have hend:=sameSL_end hlt HL.o;go_wp2
    go_ret;refine⟨?_,HBB.o⟩;rw[←HS.o,hend];rfl
 ·have hlb:(((ts.length:Nat):Int) != ((us.length:Nat):Int))=true:=by simp;omega
  have hs:yA ts us=false:=by
   cases h:yA ts us
   ·rfl
   ·exact absurd (qYh ts us h) hl
  rw[hs];clear hl;go_enter func47,ntmps47
  go_wp2
  go_ret;exact⟨rfl,Below.refl _ _⟩
theorem qVx{w:World}{g T:Nat}{a0 a1 a2 a3 a4 a5 a6 a7:Value}(h:w.1[g]? = some (.cells #[a0,a1,a2,a3,a4,a5,a6,a7] T)) :
 w.cell? ⟨g,0,none⟩=some a0∧w.cell? ⟨g,1,none⟩=some a1∧w.cell? ⟨g,2,none⟩=some a2∧w.cell? ⟨g,3,none⟩=some a3∧w.cell? ⟨g,4,none⟩=some a4∧w.cell? ⟨g,5,none⟩=some a5∧w.cell? ⟨g,6,none⟩=some a6∧w.cell? ⟨g,7,none⟩=some a7:=by
 simp[World.cell?,h]
theorem qYM(B:Nat)(a b:Sx)(v v':qQg)(w:World)(hB:B≤w.1.size)(ha:wL w (· < B) a v)(hb:wL w (· < B) b v')
 (hrec:∀ t,(t∈a.thn∨t∈a.els)→∀ (u:Sx) (v v':qQg) (w:World),B≤w.1.size→wL w (· < B) t v→wL w (· < B) u v'→Calls prog 48 #[sxV t v,sxV u v'] w (xM (qKu t u) w)) :
 Calls prog 48 #[sxV a v,sxV b v'] w (xM (qKu a b) w):=by
 obtain⟨q1,c1,q2,c2,q3,c3,q4,c4,rfl,a1,a2,a3,a4,m1,m2,m3,m4⟩:=ha.at
 obtain⟨p1,d1,p2,d2,p3,d3,p4,d4,rfl,b1,b2,b3,b4,n1,n2,n3,n4⟩:=hb.at
 obtain⟨op,l,co,tg,es,fn,th,el⟩:=a;obtain⟨op',l',co',tg',es',fn',th',el'⟩:=b;simp only[Sx.target,Sx.exprs,Sx.thn,Sx.els]at *;have h2:=(bal (Below.refl w.1.size w) (.cells (sxC (.mk op l co tg es fn th el) ⟨.slice q1 tg.length c1, .slice q2 es.length c2, .slice q3 th.length c3, .slice q4 el.length c4⟩).toArray 73)).trans ((bal (Below.refl _ (w.alloc (.cells (sxC (.mk op l co tg es fn th el) ⟨.slice q1 tg.length c1, .slice q2 es.length c2, .slice q3 th.length c3, .slice q4 el.length c4⟩).toArray 73))) (.cells (sxC (.mk op' l' co' tg' es' fn' th' el') ⟨.slice p1 tg'.length d1, .slice p2 es'.length d2, .slice p3 th'.length d3, .slice p4 el'.length d4⟩).toArray 73)).mono (by simp));have N0:=hI ((bal (Below.refl _ (w.alloc (.cells (sxC (.mk op l co tg es fn th el) ⟨.slice q1 tg.length c1, .slice q2 es.length c2, .slice q3 th.length c3, .slice q4 el.length c4⟩).toArray 73))) (.cells (sxC (.mk op' l' co' tg' es' fn' th' el') ⟨.slice p1 tg'.length d1, .slice p2 es'.length d2, .slice p3 th'.length d3, .slice p4 el'.length d4⟩).toArray 73)).block w.1.size (by simp) |>.trans (vL w (.cells (sxC (.mk op l co tg es fn th el) ⟨.slice q1 tg.length c1, .slice q2 es.length c2, .slice q3 th.length c3, .slice q4 el.length c4⟩).toArray 73)));have N1:=hI (vL (w.alloc (.cells (sxC (.mk op l co tg es fn th el) ⟨.slice q1 tg.length c1, .slice q2 es.length c2, .slice q3 th.length c3, .slice q4 el.length c4⟩).toArray 73)) (.cells (sxC (.mk op' l' co' tg' es' fn' th' el') ⟨.slice p1 tg'.length d1, .slice p2 es'.length d2, .slice p3 th'.length d3, .slice p4 el'.length d4⟩).toArray 73));have E1:=hI (fun(W:World) (h:Below w.1.size w W)=>qKt B tg tg' q1 p1 c1 d1 W (Nat.le_trans hB h.size) (a1.keep (h.mono hB)) (b1.keep (h.mono hB)) m1 n1);have E2:=hI (fun(W:World) (h:Below w.1.size w W)=>qKt B es es' q2 p2 c2 d2 W (Nat.le_trans hB h.size) (a2.keep (h.mono hB)) (b2.keep (h.mono hB)) m2 n2);have E3:=hI (fun(W:World) (h:Below w.1.size w W)=>qKz B th th' q3 p3 c3 d3 W (Nat.le_trans hB h.size) (a3.keep (h.mono hB)) (b3.keep (h.mono hB)) m3 n3 fun t ht=>hrec t (.inl ht));have E4:=hI (fun(W:World) (h:Below w.1.size w W)=>qKz B el el' q4 p4 c4 d4 W (Nat.le_trans hB h.size) (a4.keep (h.mono hB)) (b4.keep (h.mono hB)) m4 n4 fun t ht=>hrec t (.inr ht));have H2:=hI h2;have hst:qKu (.mk op l co tg es fn th el) (.mk op' l' co' tg' es' fn' th' el')=(op == op' && (l == l' && (co == co' && (fn == fn' && (yO tg tg' && (yO es es' && (yA th th' && yA el el'))))))):=rfl;rw[hst];clear h2 ha hb a1 a2 a3 a4 b1 b2 b3 b4 hrec hst;generalize yO tg tg'=g1 at *;generalize yO es es'=g2 at *;generalize yA th th'=g3 at *;generalize yA el el'=g4 at *;rw[World.size_alloc]at N1;unfold xM at *;simp only[sxC,sxV]at *;cases e0:(op == op');case false =>
  go_enter func48,ntmps48
  go_wp2
  go_ret;exact⟨rfl,H2.o⟩
 case true =>
 cases e1:(l == l');case false =>
  go_enter func48,ntmps48
  go_wp2
  go_ret;exact⟨rfl,H2.o⟩
 case true =>
 cases e2:(co == co');case false =>
  go_enter func48,ntmps48
  go_wp2
  go_ret;exact⟨rfl,H2.o⟩
 case true =>
 cases e3:(fn == fn');case false =>
  go_enter func48,ntmps48
  go_wp2
  go_ret;exact⟨rfl,H2.o⟩
 case true =>
 have C1:=hI (E1.o _ H2.o);clear E1;have hs0:(w.alloc (.cells (sxC (.mk op l co tg es fn th el) ⟨.slice q1 tg.length c1, .slice q2 es.length c2, .slice q3 th.length c3, .slice q4 el.length c4⟩).toArray 73)).1.size=w.1.size+1:=by simp
 simp only[sxC]at hs0;clear hs0;go_enter func48,ntmps48
 go_wp2_with fail
 refine(C1.o).mono ?_;rintro e w3 ⟨rfl,hb3⟩;have HB3:=hI (H2.o.trans (hb3.mono H2.o.size));have M0:=hI ((hb3.block _ (by simp;omega)).trans N0.o);have M1:=hI ((hb3.block _ (by simp)).trans N1.o);have D2:=hI (E2.o w3 HB3.o);clear hb3 C1 E2 N0 N1 H2;cases g1;case false =>
  go_wp2
  go_ret;exact⟨rfl,HB3.o⟩
 case true =>
 obtain⟨k0,k1,k2,k3,k4,k5,k6,k7⟩:=qVx M0.o;obtain⟨j0,j1,j2,j3,j4,j5,j6,j7⟩:=qVx M1.o;have hl3:=qJ j0;simp only at hl3;go_wp2_with fail
 refine(D2.o).mono ?_;rintro e w4 ⟨rfl,hb4⟩;have HB4:=hI (HB3.o.trans (hb4.mono HB3.o.size));have P0:=hI ((hb4.block _ (by omega)).trans M0.o);have P1:=hI ((hb4.block _ (by omega)).trans M1.o);have D3:=hI (E3.o w4 HB4.o);clear hb4 D2 E3 M0 M1 HB3 k0 k1 k2 k3 k4 k5 k6 k7 j0 j1 j2 j3 j4 j5 j6 j7 hl3;cases g2;case false =>
  go_wp2
  go_ret;exact⟨rfl,HB4.o⟩
 case true =>
 obtain⟨k0,k1,k2,k3,k4,k5,k6,k7⟩:=qVx P0.o;obtain⟨j0,j1,j2,j3,j4,j5,j6,j7⟩:=qVx P1.o;have hl3:=qJ j0;simp only at hl3;go_wp2_with fail
 refine(D3.o).mono ?_;rintro e w5 ⟨rfl,hb5⟩;have HB5:=hI (HB4.o.trans (hb5.mono HB4.o.size));have Q0:=hI ((hb5.block _ (by omega)).trans P0.o);have Q1:=hI ((hb5.block _ (by omega)).trans P1.o);have D4:=hI (E4.o w5 HB5.o);clear hb5 D3 E4 P0 P1 HB4 k0 k1 k2 k3 k4 k5 k6 k7 j0 j1 j2 j3 j4 j5 j6 j7 hl3;cases g3;case false =>
  go_wp2
  go_ret;exact⟨rfl,HB5.o⟩
 case true =>
 obtain⟨k0,k1,k2,k3,k4,k5,k6,k7⟩:=qVx Q0.o;obtain⟨j0,j1,j2,j3,j4,j5,j6,j7⟩:=qVx Q1.o;have hl3:=qJ j0;simp only at hl3;go_wp2_with fail
 refine(D4.o).mono ?_;rintro e w6 ⟨rfl,hb6⟩;have HB6:=hI (HB5.o.trans (hb6.mono HB5.o.size));go_wp2
 go_ret;exact⟨rfl,HB6.o⟩
theorem qU4(B:Nat):∀ (n:Nat) (a:Sx),SizeOf.sizeOf a < n→∀ (b:Sx) (va vb:qQg) (w:World),B≤w.1.size→wL w (· < B) a va→wL w (· < B) b vb→Calls prog 48 #[sxV a va,sxV b vb] w (xM (qKu a b) w):=by
 intro n;induction n with
 | zero=>intro a h;omega
 | succ n ih =>
  intro a h b va vb w hB ha hb;refine qYM B a b va vb w hB ha hb fun t ht u v v' w1 h1 h2 h3=>ih t ?_ u v v' w1 h1 h2 h3
  rcases ht with ht | ht
  ·have:=thn_size ht;omega
  ·have:=els_size ht;omega
theorem qYN(B:Nat)(es us:List Sx)(q q':Option Addr)(c c':Nat)(w:World)(hB:B≤w.1.size)(h1:qVt B w es q)(h2:qVt B w us q')(hn1:es.length≤maxLen)(hn2:us.length≤maxLen) :
 Calls prog 47 #[.slice q es.length c, .slice q' us.length c', .func (.func 48) #[] #[]] w (xM (yA es us) w) :=
 qKz B es us q q' c c' w hB h1 h2 hn1 hn2 fun t _ u v v' w1 hB1 l1 l2=>qU4 B _ t (Nat.lt_succ_self _) u v v' w1 hB1 l1 l2
theorem qLa(a b:qI)(w:World):Calls prog 29 #[qXK a,qXK b] w (xM (qYi a b) w):=by
 obtain⟨n,⟨t1,t2⟩,s⟩:=a;obtain⟨n',⟨t1',t2'⟩,s'⟩:=b;have h2:=hI (fun a b:Obj=>((bal (Below.refl w.1.size w) a).trans ((bal (Below.refl _ (w.alloc a)) b).mono (by simp))));have hsv:qYi ⟨n,(t1,t2),s⟩ ⟨n',(t1',t2'),s'⟩=(n == n' && ((t1 == t1' && t2 == t2') && s == s')):=rfl;rw[hsv];unfold xM qXK;go_enter func29,ntmps29
 go_wp2
 all_goals
  go_ret;exact⟨congrArg Ending.returned (congrArg Value.bool (by simp[*])),h2.o _ _⟩
def AlVRel(ts us:List qI)(w:World)(i:Value)(wr:World):Prop :=
 ∃ k:Nat,k≤ts.length∧i=.int .i64 k∧kC (ts.drop k) (us.drop k)=kC ts us∧Below w.1.size w wr
theorem qWF(B:Nat)(ts us:List qI)(q q':Option Addr)(c c':Nat)(w:World)(hB:B≤w.1.size)(h1:qYC B w ts q)(h2:qYC B w us q')(hn1:ts.length≤maxLen)(hn2:us.length≤maxLen) :
 Calls prog 28 #[.slice q ts.length c, .slice q' us.length c', .func (.func 29) #[] #[]] w (xM (kC ts us) w):=by
 have H1:=hI h1;have H2:=hI h2;have hcf:∀ (args:Array Value) (w:World),(callFunc 29 args).run prog w=.ok (.enter 29 args) w:=fun _ _=>rfl
 unfold maxLen at hn1 hn2;clear h1 h2;unfold xM;by_cases hl:ts.length=us.length
 ·have hlb:(((ts.length:Nat):Int) != ((us.length:Nat):Int))=false:=by simp[hl]
  rw[←hl];rw[←hl]at hlb hn2;have HL:=hI hl;clear hl;go_enter func28,ntmps28
  go_wp2_with fail
  go_loopw [15] (fun i wr=>AlVRel ts us w i wr) (fun i _=>ts.length - (intOf i).toNat)
  case atStart=>exact⟨0,Nat.zero_le _,rfl,by simp,Below.refl _ _⟩
  case round =>
   obtain⟨k,hk,rfl,hs,hb⟩:=hrel;have HS:=hI hs;have HBB:=hI hb;clear hs hb;by_cases hlt:k < ts.length
   ·have hlt':k < us.length:=by have:=HL.o;omega
    obtain⟨g,rfl,hgB,hgr,hR1⟩:=(H1.o.keep (HBB.o.mono hB)).resolve_left (fun e=>by rw[e]at hlt;simp at hlt);obtain⟨g',rfl,hgB',hgr',hR2⟩:=(H2.o.keep (HBB.o.mono hB)).resolve_left (fun e=>by rw[e]at hlt';simp at hlt');have hbs:B≤wr.1.size:=by have:=HBB.o.size;omega
    have C1:=hR1 k hlt;have C2:=hR2 k hlt';have⟨k0,k1,k2,k3,_⟩:=C1.a;have⟨j0,j1,j2,j3,_⟩:=C2.a;have HC:=hI (fun(W:World) (_:Below wr.1.size wr W)=>qLa ts[k] us[k] W);have hstep:=sameVL_at hlt hlt';have HST:=hI hstep;clear hstep;clear C1 C2 hR1 hR2;generalize ts[k]=t at *;generalize us[k]=u at *;unfold qXK at HC;generalize hst:qYi t u=b at *;have hk63:(k:Int) < (ts.length:Nat):=by omega
    have hk0:(0:Int)≤(k:Int):=by omega
    go_wp2_with fail
    refine wRg (S:=fun w'=>Below wr.1.size wr w') 9 ?_;refine wTk 0 18 (.func (.func 29) #[] #[]) ?_ (bD wr) ?_
    ·intro _ y;go_simp
    refine wTk 1 19 (.slice (some ⟨g,0,none⟩) ts.length c) ?_ (bD wr) ?_
    ·intro _ y;go_simp
    refine wTk 2 20 (.int .i64 k) ?_ (bD wr) ?_
    ·intro _ y;go_simp
    refine wTk 3 21 (.pointer (some ⟨g,k * 4,none⟩)) ?_ (bD wr) ?_
    ·intro _ y;go_simp
    refine wTk 4 22 (.agg #[.string ⟨t.name.toArray⟩, .int .i64 t.t.1, .bool t.t.2, .int .i64 t.size]) ?_ (bD wr) ?_
    ·intro _ y;have k0:=kP y k0;have k1:=kP y k1;have k2:=kP y k2;have k3:=kP y k3;go_simp
    refine wTk 5 23 (.slice (some ⟨g',0,none⟩) ts.length c') ?_ (bD wr) ?_
    ·intro _ y;go_simp
    refine wTk 6 24 (.int .i64 k) ?_ (bD wr) ?_
    ·intro _ y;go_simp
    refine wTk 7 25 (.pointer (some ⟨g',k * 4,none⟩)) ?_ (bD wr) ?_
    ·intro _ y;go_simp
    refine wTk 8 26 (.agg #[.string ⟨u.name.toArray⟩, .int .i64 u.t.1, .bool u.t.2, .int .i64 u.size]) ?_ (bD wr) ?_
    ·intro _ y;have j0:=kP y j0;have j1:=kP y j1;have j2:=kP y j2;have j3:=kP y j3;go_simp
    refine wOn 9 fun K hK=>?_
    go_simp;refine(HC.o _ (Below.refl _ _).drew).mono ?_;rintro e w3 ⟨rfl,hb3⟩;have hb9:=zF hb3;have HB9:=hI hb9;clear hb3;refine kD hK ?_;clear hK K;refine wOn 10 fun K hK=>?_
    go_simp;refine kD hK ?_;clear hK K;refine wDn ?_ _;clear hb9;cases b
    ·go_wp2
     go_ret;refine⟨?_,HBB.o.trans (HB9.o.mono HBB.o.size)⟩;rw[←HS.o,HST.o];rfl
    ·go_wp2
     go_roundw
     case rel=>exact⟨k+1,by omega,by go_num,by rw[←HS.o,HST.o,bT],HBB.o.trans (HB9.o.mono HBB.o.size)⟩
     case measure=>simp[intOf];omega
   ·have hend:=sameVL_end hlt HL.o;go_wp2
    go_ret;refine⟨?_,HBB.o⟩;rw[←HS.o,hend];rfl
 ·have hlb:(((ts.length:Nat):Int) != ((us.length:Nat):Int))=true:=by simp;omega
  have hs:kC ts us=false:=by
   cases h:kC ts us
   ·rfl
   ·exact absurd (qYj ts us h) hl
  rw[hs];clear hl;go_enter func28,ntmps28
  go_wp2
  go_ret;exact⟨rfl,Below.refl _ _⟩
theorem cells6{w:World}{g T:Nat}{a0 a1 a2 a3 a4 a5:Value}(h:w.1[g]? = some (.cells #[a0,a1,a2,a3,a4,a5] T)) :
 w.cell? ⟨g,0,none⟩=some a0∧w.cell? ⟨g,1,none⟩=some a1∧w.cell? ⟨g,2,none⟩=some a2∧w.cell? ⟨g,3,none⟩=some a3∧w.cell? ⟨g,4,none⟩=some a4∧w.cell? ⟨g,5,none⟩=some a5:=by
 simp[World.cell?,h]
theorem qUF{w:World}{g T:Nat}{a0 a1 a2:Value}(h:w.1[g]? = some (.cells #[a0,a1,a2] T)) :
 w.cell? ⟨g,0,none⟩=some a0∧w.cell? ⟨g,1,none⟩=some a1∧w.cell? ⟨g,2,none⟩=some a2:=by
 simp[World.cell?,h]
theorem qU3(B:Nat)(a b:qQ2)(q1 q2 p1 p2:Option Addr)(c1 c2 d1 d2:Nat)(w:World)(hB:B≤w.1.size)(a1:qYC B w a.vars q1)(a2:qVt B w a.body q2)(b1:qYC B w b.vars p1)(b2:qVt B w b.body p2)(m1:a.vars.length≤64)(m2:a.body.length≤maxLen)(n1:b.vars.length≤64)(n2:b.body.length≤maxLen) :
 Calls prog 31 #[fdV a ⟨.slice q1 a.vars.length c1, .slice q2 a.body.length c2⟩,fdV b ⟨.slice p1 b.vars.length d1, .slice p2 b.body.length d2⟩] w (xM (qYf a b) w):=by
 obtain⟨nm,ty,pa,vs,bd⟩:=a;obtain⟨nm',ty',pa',vs',bd'⟩:=b;simp only at *;have hmx:(64:Nat)≤maxLen:=by unfold maxLen;omega
 have h2:=(bal (Below.refl w.1.size w) (.cells #[.string ⟨nm.toArray⟩, .int .i64 ty.1, .bool ty.2, .int .i64 pa, .slice q1 vs.length c1, .slice q2 bd.length c2] 40)).trans ((bal (Below.refl _ (w.alloc (.cells #[.string ⟨nm.toArray⟩, .int .i64 ty.1, .bool ty.2, .int .i64 pa, .slice q1 vs.length c1, .slice q2 bd.length c2] 40))) (.cells #[.string ⟨nm'.toArray⟩, .int .i64 ty'.1, .bool ty'.2, .int .i64 pa', .slice p1 vs'.length d1, .slice p2 bd'.length d2] 40)).mono (by simp));have N0:=hI ((bal (Below.refl _ (w.alloc (.cells #[.string ⟨nm.toArray⟩, .int .i64 ty.1, .bool ty.2, .int .i64 pa, .slice q1 vs.length c1, .slice q2 bd.length c2] 40))) (.cells #[.string ⟨nm'.toArray⟩, .int .i64 ty'.1, .bool ty'.2, .int .i64 pa', .slice p1 vs'.length d1, .slice p2 bd'.length d2] 40)).block w.1.size (by simp) |>.trans (vL w (.cells #[.string ⟨nm.toArray⟩, .int .i64 ty.1, .bool ty.2, .int .i64 pa, .slice q1 vs.length c1, .slice q2 bd.length c2] 40)));have N1:=vL (w.alloc (.cells #[.string ⟨nm.toArray⟩, .int .i64 ty.1, .bool ty.2, .int .i64 pa, .slice q1 vs.length c1, .slice q2 bd.length c2] 40)) (.cells #[.string ⟨nm'.toArray⟩, .int .i64 ty'.1, .bool ty'.2, .int .i64 pa', .slice p1 vs'.length d1, .slice p2 bd'.length d2] 40);rw[World.size_alloc]at N1;have N1:=hI N1;have E1:=hI (fun(W:World) (h:Below w.1.size w W)=>qWF B vs vs' q1 p1 c1 d1 W (Nat.le_trans hB h.size) (a1.keep (h.mono hB)) (b1.keep (h.mono hB)) (Nat.le_trans m1 hmx) (Nat.le_trans n1 hmx));have E2:=hI (fun(W:World) (h:Below w.1.size w W)=>qYN B bd bd' q2 p2 c2 d2 W (Nat.le_trans hB h.size) (a2.keep (h.mono hB)) (b2.keep (h.mono hB)) m2 n2);have H2:=hI h2;have hst:qYf ⟨nm,ty,pa,vs,bd⟩ ⟨nm',ty',pa',vs',bd'⟩=(nm == nm' && ((ty.1 == ty'.1 && ty.2 == ty'.2) && (pa == pa' && (kC vs vs' && yA bd bd')))):=rfl;rw[hst];clear h2 a1 a2 b1 b2 hst hmx;generalize kC vs vs'=g1 at *;generalize yA bd bd'=g2 at *;unfold xM fdV at *;simp only at *;cases e0:(nm == nm');case false =>
  go_enter func31,ntmps31
  go_wp2
  go_ret;exact⟨rfl,H2.o⟩
 case true =>
 obtain⟨t1,t2⟩:=ty;obtain⟨t1',t2'⟩:=ty';simp only at *;by_cases a1:t1=t1'
 case neg =>
  rw[show(t1 == t1')=false by simpa using a1];go_enter func31,ntmps31
  go_wp2
  go_ret;exact⟨rfl,H2.o⟩
 case pos =>
 subst a1;by_cases a2:t2=t2'
 case neg =>
  rw[show(t1 == t1)=true by simp,show(t2 == t2')=false by simpa using a2];go_enter func31,ntmps31
  go_wp2
  go_ret;exact⟨rfl,H2.o⟩
 case pos =>
 subst a2;rw[show(t1 == t1)=true by simp,show(t2 == t2)=true by simp];cases e2:(pa == pa');case false =>
  go_enter func31,ntmps31
  go_wp2
  go_ret;exact⟨rfl,H2.o⟩
 case true =>
 have C1:=hI (E1.o _ H2.o);clear E1;go_enter func31,ntmps31
 go_wp2_with fail
 refine(C1.o).mono ?_;rintro e w3 ⟨rfl,hb3⟩;have HB3:=hI (H2.o.trans (hb3.mono H2.o.size));have M0:=hI ((hb3.block _ (by simp;omega)).trans N0.o);have M1:=hI ((hb3.block _ (by simp)).trans N1.o);have D2:=hI (E2.o w3 HB3.o);clear hb3 C1 E2 N0 N1 H2;cases g1;case false =>
  go_wp2
  go_ret;exact⟨rfl,HB3.o⟩
 case true =>
 obtain⟨k0,k1,k2,k3,k4,k5⟩:=cells6 M0.o;obtain⟨j0,j1,j2,j3,j4,j5⟩:=cells6 M1.o;have hl3:=qJ j0;simp only at hl3;go_wp2_with fail
 refine(D2.o).mono ?_;rintro e w4 ⟨rfl,hb4⟩;have HB4:=hI (HB3.o.trans (hb4.mono HB3.o.size));go_wp2
 go_ret;exact⟨rfl,HB4.o⟩
def AlFRel(ts us:List qQ2)(w:World)(i:Value)(wr:World):Prop :=
 ∃ k:Nat,k≤ts.length∧i=.int .i64 k∧wS (ts.drop k) (us.drop k)=wS ts us∧Below w.1.size w wr
theorem alikeF_any(B:Nat)(ts us:List qQ2)(q q':Option Addr)(c c':Nat)(w:World)(hB:B≤w.1.size)(h1:FsAt B w ts q)(h2:FsAt B w us q')(hn1:ts.length≤maxLen)(hn2:us.length≤maxLen) :
 Calls prog 30 #[.slice q ts.length c, .slice q' us.length c', .func (.func 31) #[] #[]] w (xM (wS ts us) w):=by
 have H1:=hI h1;have H2:=hI h2;have hcf:∀ (args:Array Value) (w:World),(callFunc 31 args).run prog w=.ok (.enter 31 args) w:=fun _ _=>rfl
 unfold maxLen at hn1 hn2;clear h1 h2;unfold xM;by_cases hl:ts.length=us.length
 ·have hlb:(((ts.length:Nat):Int) != ((us.length:Nat):Int))=false:=by simp[hl]
  rw[←hl];rw[←hl]at hlb hn2;have HL:=hI hl;clear hl;go_enter func30,ntmps30
  go_wp2_with fail
  go_loopw [15] (fun i wr=>AlFRel ts us w i wr) (fun i _=>ts.length - (intOf i).toNat)
  case atStart=>exact⟨0,Nat.zero_le _,rfl,by simp,Below.refl _ _⟩
  case round =>
   obtain⟨k,hk,rfl,hs,hb⟩:=hrel;have HS:=hI hs;have HBB:=hI hb;clear hs hb;by_cases hlt:k < ts.length
   ·have hlt':k < us.length:=by have:=HL.o;omega
    obtain⟨g,rfl,hgB,hgr,hR1⟩:=(H1.o.keep (HBB.o.mono hB)).resolve_left (fun e=>by rw[e]at hlt;simp at hlt);obtain⟨g',rfl,hgB',hgr',hR2⟩:=(H2.o.keep (HBB.o.mono hB)).resolve_left (fun e=>by rw[e]at hlt';simp at hlt');have hbs:B≤wr.1.size:=by have:=HBB.o.size;omega
    obtain⟨q1,c1,q2,c2,C1,va,na,ba,ma⟩:=hR1 k hlt;obtain⟨p1,d1,p2,d2,C2,vb,nb,bb,mb⟩:=hR2 k hlt';have⟨k0,k1,k2,k3,k4,k5,_⟩:=C1.a;have⟨j0,j1,j2,j3,j4,j5,_⟩:=C2.a;have HC:=hI (fun(W:World) (h:Below wr.1.size wr W)=>qU3 B ts[k] us[k] q1 q2 p1 p2 c1 c2 d1 d2 W (Nat.le_trans hbs h.size) (va.keep (h.mono hbs)) (ba.keep (h.mono hbs)) (vb.keep (h.mono hbs)) (bb.keep (h.mono hbs)) na ma nb mb);have hstep:=sameFL_at hlt hlt';have HST:=hI hstep;clear hstep;clear C1 C2 hR1 hR2 va na ba ma vb nb bb mb;generalize ts[k]=t at *;generalize us[k]=u at *;unfold fdV at HC;simp only at k4 k5 j4 j5;generalize hst:qYf t u=b at *;have hk63:(k:Int) < (ts.length:Nat):=by omega
    have hk0:(0:Int)≤(k:Int):=by omega
    go_wp2_with fail
    refine wRg (S:=fun w'=>Below wr.1.size wr w') 9 ?_;refine wTk 0 18 (.func (.func 31) #[] #[]) ?_ (bD wr) ?_
    ·intro _ y;go_simp
    refine wTk 1 19 (.slice (some ⟨g,0,none⟩) ts.length c) ?_ (bD wr) ?_
    ·intro _ y;go_simp
    refine wTk 2 20 (.int .i64 k) ?_ (bD wr) ?_
    ·intro _ y;go_simp
    refine wTk 3 21 (.pointer (some ⟨g,k * 6,none⟩)) ?_ (bD wr) ?_
    ·intro _ y;go_simp
    refine wTk 4 22 (.agg #[.string ⟨t.name.toArray⟩, .int .i64 t.t.1, .bool t.t.2, .int .i64 t.params, .slice q1 t.vars.length c1, .slice q2 t.body.length c2]) ?_ (bD wr) ?_
    ·intro _ y;have k0:=kP y k0;have k1:=kP y k1;have k2:=kP y k2;have k3:=kP y k3;have k4:=kP y k4;have k5:=kP y k5;go_simp
    refine wTk 5 23 (.slice (some ⟨g',0,none⟩) ts.length c') ?_ (bD wr) ?_
    ·intro _ y;go_simp
    refine wTk 6 24 (.int .i64 k) ?_ (bD wr) ?_
    ·intro _ y;go_simp
    refine wTk 7 25 (.pointer (some ⟨g',k * 6,none⟩)) ?_ (bD wr) ?_
    ·intro _ y;go_simp
    refine wTk 8 26 (.agg #[.string ⟨u.name.toArray⟩, .int .i64 u.t.1, .bool u.t.2, .int .i64 u.params, .slice p1 u.vars.length d1, .slice p2 u.body.length d2]) ?_ (bD wr) ?_
    ·intro _ y;have j0:=kP y j0;have j1:=kP y j1;have j2:=kP y j2;have j3:=kP y j3;have j4:=kP y j4;have j5:=kP y j5;go_simp
    refine wOn 9 fun K hK=>?_
    go_simp;refine(HC.o _ (Below.refl _ _).drew).mono ?_;rintro e w3 ⟨rfl,hb3⟩;have hb9:=zF hb3;have HB9:=hI hb9;clear hb3;refine kD hK ?_;clear hK K;refine wOn 10 fun K hK=>?_
    go_simp;refine kD hK ?_;clear hK K;refine wDn ?_ _;clear hb9;cases b
    ·go_wp2
     go_ret;refine⟨?_,HBB.o.trans (HB9.o.mono HBB.o.size)⟩;rw[←HS.o,HST.o];rfl
    ·go_wp2
     go_roundw
     case rel=>exact⟨k+1,by omega,by go_num,by rw[←HS.o,HST.o,bT],HBB.o.trans (HB9.o.mono HBB.o.size)⟩
     case measure=>simp[intOf];omega
   ·have hend:=sameFL_end hlt HL.o;go_wp2
    go_ret;refine⟨?_,HBB.o⟩;rw[←HS.o,hend];rfl
 ·have hlb:(((ts.length:Nat):Int) != ((us.length:Nat):Int))=true:=by simp;omega
  have hs:wS ts us=false:=by
   cases h:wS ts us
   ·rfl
   ·exact absurd (qYg ts us h) hl
  rw[hs];clear hl;go_enter func30,ntmps30
  go_wp2
  go_ret;exact⟨rfl,Below.refl _ _⟩
theorem same_prog(B:Nat)(p p':PrD)(gq fq gq' fq':Option Addr)(gc fc gc' fc':Nat)(w:World)(hB:B≤w.1.size)(ha:qPb B p gq fq w)(hb:qPb B p' gq' fq' w) :
 Calls prog 13 #[prV p gq fq gc fc,prV p' gq' fq' gc' fc'] w (xM (sameP p p') w):=by
 have hmx:(64:Nat)≤maxLen:=by unfold maxLen;omega
 have h2:=(bal (Below.refl w.1.size w) (.cells #[.slice gq p.globals.length gc, .slice fq p.funcs.length fc, .int .i64 p.main] 30)).trans ((bal (Below.refl _ (w.alloc (.cells #[.slice gq p.globals.length gc, .slice fq p.funcs.length fc, .int .i64 p.main] 30))) (.cells #[.slice gq' p'.globals.length gc', .slice fq' p'.funcs.length fc', .int .i64 p'.main] 30)).mono (by simp));have N0:=hI ((bal (Below.refl _ (w.alloc (.cells #[.slice gq p.globals.length gc, .slice fq p.funcs.length fc, .int .i64 p.main] 30))) (.cells #[.slice gq' p'.globals.length gc', .slice fq' p'.funcs.length fc', .int .i64 p'.main] 30)).block w.1.size (by simp) |>.trans (vL w (.cells #[.slice gq p.globals.length gc, .slice fq p.funcs.length fc, .int .i64 p.main] 30)));have N1:=vL (w.alloc (.cells #[.slice gq p.globals.length gc, .slice fq p.funcs.length fc, .int .i64 p.main] 30)) (.cells #[.slice gq' p'.globals.length gc', .slice fq' p'.funcs.length fc', .int .i64 p'.main] 30);rw[World.size_alloc]at N1;have N1:=hI N1;have E1:=hI (fun(W:World) (h:Below w.1.size w W)=>qWF B p.globals p'.globals gq gq' gc gc' W (Nat.le_trans hB h.size) (ha.gs.keep (h.mono hB)) (hb.gs.keep (h.mono hB)) (Nat.le_trans ha.gl hmx) (Nat.le_trans hb.gl hmx));have E2:=hI (fun(W:World) (h:Below w.1.size w W)=>alikeF_any B p.funcs p'.funcs fq fq' fc fc' W (Nat.le_trans hB h.size) (ha.fs.keep (h.mono hB)) (hb.fs.keep (h.mono hB)) (by have:=ha.fl;omega) (by have:=hb.fl;omega));have H2:=hI h2;have hst:sameP p p'=(p.main == p'.main && (kC p.globals p'.globals && wS p.funcs p'.funcs)):=rfl;rw[hst];clear h2 ha hb hst hmx;obtain⟨pg,pf,pm⟩:=p;obtain⟨pg',pf',pm'⟩:=p';unfold xM prV at *;simp only at *;generalize kC pg pg'=g1 at *;generalize wS pf pf'=g2 at *;cases e1:(pm == pm');case false =>
  go_enter func13,ntmps13
  go_wp2
  go_ret;exact⟨rfl,H2.o⟩
 case true =>
 have C1:=hI (E1.o _ H2.o);clear E1;go_enter func13,ntmps13
 go_wp2_with fail
 refine(C1.o).mono ?_;rintro e w3 ⟨rfl,hb3⟩;have HB3:=hI (H2.o.trans (hb3.mono H2.o.size));have M0:=hI ((hb3.block _ (by simp;omega)).trans N0.o);have M1:=hI ((hb3.block _ (by simp)).trans N1.o);have D2:=hI (E2.o w3 HB3.o);clear hb3 C1 E2 N0 N1 H2;cases g1;case false =>
  go_wp2
  go_ret;exact⟨rfl,HB3.o⟩
 case true =>
 obtain⟨k0,k1,k2⟩:=qUF M0.o;obtain⟨j0,j1,j2⟩:=qUF M1.o;have hl3:=qJ j0;simp only at hl3;go_wp2_with fail
 refine(D2.o).mono ?_;rintro e w4 ⟨rfl,hb4⟩;have HB4:=hI (HB3.o.trans (hb4.mono HB3.o.size));go_wp2
 go_ret;exact⟨rfl,HB4.o⟩
def qJF(x:List UInt8)(i:Nat):List qQ2→Int
 | []=>-1
 | f :: r=>if f.name == x then(i:Int)else qJF x (i+1) r
theorem findD_at{x:List UInt8}{fs:List qQ2}{i:Nat}(h:i < fs.length):qJF x i (fs.drop i)=if fs[i].name == x then(i:Int)else qJF x (i+1) (fs.drop (i+1)):=by
 rw[List.drop_eq_getElem_cons h,qJF]
theorem findD_end{x:List UInt8}{fs:List qQ2}{i:Nat}(h:¬i < fs.length):qJF x i (fs.drop i)=-1:=by
 rw[List.drop_eq_nil_of_le (by omega),qJF]
def FdRel(x:List UInt8)(fs:List qQ2)(w:World)(i:Value)(wr:World):Prop :=
 ∃ k:Nat,k≤fs.length∧i=.int .i64 k∧qJF x k (fs.drop k)=qJF x 0 fs∧Below w.1.size w wr
theorem find_prog(B:Nat)(x:List UInt8)(p:PrD)(gq fq:Option Addr)(gc fc:Nat)(w:World)(hB:B≤w.1.size)(h:qPb B p gq fq w) :
 Calls prog 15 #[prV p gq fq gc fc, .string ⟨x.toArray⟩] w fun e w'=>e=.returned (.int .i64 (qJF x 0 p.funcs))∧Below w.1.size w w':=by
 have hb:=bal (Below.refl w.1.size w) (.cells #[.slice gq p.globals.length gc, .slice fq p.funcs.length fc, .int .i64 p.main] 30);have HF:=hI (h.fs.keep (hb.mono hB));have HL:=hI h.fl;have HB:=hI hb;have hs:(w.alloc (.cells #[.slice gq p.globals.length gc, .slice fq p.funcs.length fc, .int .i64 p.main] 30)).1.size=w.1.size+1:=by simp
 have hlen:=h.fl;clear h hb;unfold prV;obtain⟨pg,pf,pm⟩:=p;simp only at *;go_enter func15,ntmps15
 go_wp2_with fail
 go_loopw [10] (fun i wr=>FdRel x pf (w.alloc (.cells #[.slice gq pg.length gc, .slice fq pf.length fc, .int .i64 pm] 30)) i wr) (fun i _=>pf.length - (intOf i).toNat)
 case atStart=>exact⟨0,Nat.zero_le _,rfl,by simp,Below.refl _ _⟩
 case round =>
  obtain⟨k,hk,rfl,hs1,hb⟩:=hrel;have HS:=hI hs1;have HBB:=hI (HB.o.trans (hb.mono HB.o.size));have HBA:=hI hb;have hF:=HF.o.keep (hb.mono (by omega));clear hs1 hb;by_cases hlt:k < pf.length
  ·obtain⟨g,rfl,hgB,hgr,hR1⟩:=hF.resolve_left (fun e=>by rw[e]at hlt;simp at hlt);obtain⟨q1,c1,q2,c2,C1,_,_,_,_⟩:=hR1 k hlt;have⟨k0,k1,k2,k3,k4,k5,_⟩:=C1.a;have HST:=hI (findD_at (x:=x) hlt);clear C1 hR1;generalize pf[k]=f at *;have HA:=hI (bal (Below.refl wr.1.size wr) (.cells #[.string ⟨f.name.toArray⟩, .int .i64 f.t.1, .bool f.t.2, .int .i64 f.params, .slice q1 f.vars.length c1, .slice q2 f.body.length c2] 40));simp only at k4 k5;cases he:(f.name == x)
   ·go_wp2
    go_roundw
    case rel=>exact⟨k+1,by omega,by go_num,by rw[←HS.o,HST.o,he];rfl,(HBA.o.trans (HA.o.mono HBA.o.size))⟩
    case measure=>simp[intOf];omega
   ·go_wp2
    go_ret;refine⟨?_,HBB.o.trans (HA.o.mono HBB.o.size)⟩;rw[←HS.o,HST.o,he];rfl
  ·have hend:=findD_end (x:=x) hlt;go_wp2
   go_ret;refine⟨?_,HBB.o⟩;rw[←HS.o,hend];rfl
theorem cells4{w:World}{g T:Nat}{a0 a1 a2 a3:Value}(h:w.1[g]? = some (.cells #[a0,a1,a2,a3] T)) :
 w.cell? ⟨g,0,none⟩=some a0∧w.cell? ⟨g,1,none⟩=some a1∧w.cell? ⟨g,2,none⟩=some a2∧w.cell? ⟨g,3,none⟩=some a3:=by
 simp[World.cell?,h]
def qJy(acc:Int):List qI→Int
 | []=>acc
 | v :: r=>qJy (IntKind.i64.wrap (acc+IntKind.i64.wrap (v.t.1 * max v.size 1))) r
theorem bitsW_at{vs:List qI}{i:Nat}(h:i < vs.length)(acc:Int):qJy acc (vs.drop i)=qJy (IntKind.i64.wrap (acc+IntKind.i64.wrap (vs[i].t.1 * max vs[i].size 1))) (vs.drop (i+1)):=by
 rw[List.drop_eq_getElem_cons h,qJy]
theorem bitsW_end{vs:List qI}{i:Nat}(h:¬i < vs.length)(acc:Int):qJy acc (vs.drop i)=acc:=by
 rw[List.drop_eq_nil_of_le (by omega),qJy]
def BtRel(vs:List qI)(w:World)(a i:Value)(wr:World):Prop :=
 ∃ (k:Nat) (acc:Int),k≤vs.length∧i=.int .i64 k∧a=.int .i64 acc∧qJy acc (vs.drop k)=qJy 0 vs∧Below w.1.size w wr
theorem bits_prog(B:Nat)(p:PrD)(gq fq:Option Addr)(gc fc:Nat)(w:World)(hB:B≤w.1.size)(h:qPb B p gq fq w) :
 Calls prog 12 #[prV p gq fq gc fc] w fun e w'=>e=.returned (.int .i64 (qJy 0 p.globals))∧Below w.1.size w w':=by
 have hb:=bal (Below.refl w.1.size w) (.cells #[.slice gq p.globals.length gc, .slice fq p.funcs.length fc, .int .i64 p.main] 30);have HF:=hI (h.gs.keep (hb.mono hB));have HB:=hI hb;have hs:(w.alloc (.cells #[.slice gq p.globals.length gc, .slice fq p.funcs.length fc, .int .i64 p.main] 30)).1.size=w.1.size+1:=by simp
 have hlen:=h.gl;clear h hb;unfold prV;obtain⟨pg,pf,pm⟩:=p;simp only at *;go_enter func12,ntmps12
 go_wp2_with fail
 go_loopw [3,9] (fun a i wr=>BtRel pg (w.alloc (.cells #[.slice gq pg.length gc, .slice fq pf.length fc, .int .i64 pm] 30)) a i wr) (fun _ i _=>pg.length - (intOf i).toNat)
 case atStart=>exact⟨0,0,Nat.zero_le _,rfl,rfl,by simp,Below.refl _ _⟩
 case round =>
  obtain⟨k,acc,hk,rfl,rfl,hs1,hb⟩:=hrel;have HS:=hI hs1;have HBB:=hI (HB.o.trans (hb.mono HB.o.size));have HBA:=hI hb;have hF:=HF.o.keep (hb.mono (by omega));clear hs1 hb;by_cases hlt:k < pg.length
  ·obtain⟨g,rfl,hgB,hgr,hR1⟩:=hF.resolve_left (fun e=>by rw[e]at hlt;simp at hlt);have C1:=hR1 k hlt;have⟨k0,k1,k2,k3,_⟩:=C1.a;have HST:=hI (bitsW_at hlt acc);clear C1 hR1;generalize pg[k]=v at *;have HA:=hI (bal (Below.refl wr.1.size wr) (.cells #[.string ⟨v.name.toArray⟩, .int .i64 v.t.1, .bool v.t.2, .int .i64 v.size] 42));have hk63:(k:Int) < (pg.length:Nat):=by omega
   have hc:=vL wr (.cells #[.string ⟨v.name.toArray⟩, .int .i64 v.t.1, .bool v.t.2, .int .i64 v.size] 42);obtain⟨v0,v1,v2,v3⟩:=cells4 hc;have hsz:(wr.alloc (.cells #[.string ⟨v.name.toArray⟩, .int .i64 v.t.1, .bool v.t.2, .int .i64 v.size] 42)).1.size=wr.1.size+1:=by simp
   clear hc;go_wp2_with fail
   generalize wr.alloc (.cells #[.string ⟨v.name.toArray⟩, .int .i64 v.t.1, .bool v.t.2, .int .i64 v.size] 42)=Z at *;refine wRg (S:=fun w'=>Below Z.1.size Z w') 7 ?_;refine wTk 0 13 (.int .i64 acc) ?_ (bD Z) ?_
   ·intro _ y;go_simp
   refine wTk 1 14 (.pointer (some ⟨wr.1.size,1,none⟩)) ?_ (bD Z) ?_
   ·intro _ y;go_simp
   refine wTk 2 15 (.pointer (some ⟨wr.1.size,1,none⟩)) ?_ (bD Z) ?_
   ·intro _ y;go_simp
   refine wTk 3 16 (.int .i64 v.t.1) ?_ (bD Z) ?_
   ·intro _ y;have v1:=kP y v1;go_simp
   refine wTk 4 17 (.agg #[.string ⟨v.name.toArray⟩, .int .i64 v.t.1, .bool v.t.2, .int .i64 v.size]) ?_ (bD Z) ?_
   ·intro _ y;have v0:=kP y v0;have v1:=kP y v1;have v2:=kP y v2;have v3:=kP y v3;go_simp
   refine wOn 5 fun K hK=>?_
   go_simp;refine(qVy _ _ _ _ _).mono ?_;rintro e w3 ⟨rfl,hb3⟩;have hb9:=zF hb3;have HB9:=hI hb9;clear hb3;refine kK hK hb9 ?_;clear hK K;refine wOn 6 fun K hK=>?_
   go_simp;refine kK hK hb9 ?_;clear hK K;refine wOn 7 fun K hK=>?_
   go_simp;refine kD hK ?_;clear hK K;refine wOn 8 fun K hK=>?_
   go_simp;refine kD hK ?_;clear hK K;refine wDn ?_ _;have HBZ:=hI (HBA.o.trans ((HA.o.trans (hb9.mono (by omega))).mono HBA.o.size));clear hb9 v0 v1 v2 v3;go_wp2
   refine⟨⟨k+1,IntKind.i64.wrap (acc+IntKind.i64.wrap (v.t.1 * max v.size 1)),by omega,by go_num,rfl,by rw[←HS.o,HST.o],HBZ.o⟩,?_⟩;simp[intOf];omega
  ·have hend:=bitsW_end hlt acc;go_wp2
   go_ret;refine⟨?_,HBB.o⟩;rw[←HS.o,hend];rfl
def exS1:ByteArray:=⟨#[117,56,32,120,59,32,118,111,105,100,32,109,97,105,110,40,41,32,123,32,120,32,61,32,120,32,43,32,51,48,48,59,32,125]⟩
def exS2:ByteArray:=⟨#[117,56,32,120,59,32,118,111,105,100,32,109,97,105,110,40,41,32,123,32,97,115,115,101,114,116,40,49,32,60,32,120,41,59,32,125]⟩
theorem ex_c1:qXN exS1.data.toList=.bad 1 29 41:=by kernel_rfl
def exOk(c:CR PrD):Bool:=match c with
 | .ok r=>r.globals.length == 1 && (r.funcs.length == 1 && ((match r.funcs with | f :: _=>f.body.length == 1 | []=>false) && (qJF qZf 0 r.funcs == 0 && qJy 0 r.globals == 8)))
 | _=>false
theorem ex_ok:exOk (qXN exS2.data.toList)=true:=by kernel_rfl
theorem ex_c2:∃ (r:PrD) (f:qQ2),qXN exS2.data.toList=.ok r∧r.globals.length=1∧r.funcs=[f]∧f.body.length=1∧qJF qZf 0 r.funcs=0∧qJy 0 r.globals=8:=by
 have h:=ex_ok;generalize qXN exS2.data.toList=c at h;cases c with
 | bad _ _ _=>cases h
 | ok r =>
  unfold exOk at h;simp only[bE,beq_iff_eq]at h;obtain⟨h1,h2,h3,h4,h5⟩:=h;obtain⟨g,fs,m⟩:=r;simp only at *;match fs,h2,h3 with
  | [f],_,h3=>exact⟨_,f,rfl,h1,rfl,by simpa using h3,h4,h5⟩
theorem qJ2(w:World)(hc:qYA w)(h4:qWB w):Calls prog 7 #[] w fun e w'=>e=.returned (.bool true)∧Below w.1.size w w':=by
 have H1:=hI (qKb exS1 w hc h4);have HC:=hI (fun(W:World) (h:Below w.1.size w W)=>qKb exS2 W (hc.below h) (h4.below h));clear hc h4;rw[ex_c1]at H1;obtain⟨r,f,hr,hg1,hf1,hb1,hfd,hbt⟩:=ex_c2;rw[hr]at HC;unfold exS1 at H1;unfold exS2 at HC;clear hr;go_enter func7,ntmps7
 go_wp2_with fail
 refine(H1.o).mono ?_;rintro e w1 ⟨rfl,hB1⟩;have hz:=bal (Below.refl w1.1.size w1) (.cells #[.slice none 0 0, .slice none 0 0, .int .i64 0] 30);have HB1:=hI (hB1.trans (hz.mono hB1.size));have H2:=hI (HC.o _ HB1.o);clear H1 HC hB1 hz;unfold qZX;go_wp2_with fail
 refine(H2.o).mono ?_;rintro e w2 ⟨v,rfl,hP,hB2⟩;obtain⟨gq,gc,fq,fc,rfl,hA⟩:=hP.at
 obtain⟨g,rfl,hgB,hgl,hR⟩:=hA.fs.resolve_left (fun e=>by rw[hf1]at e;cases e);obtain⟨qv,cv,qb,cb,C,-,-,-,-⟩:=hR 0 (by rw[hf1];simp);have hfl:r.funcs.length=1:=by rw[hf1];rfl
 have hbl:(r.funcs[0]'(by rw[hf1];simp)).body.length=1:=by simp only[hf1];exact hb1
 have k4:w2.cell? ⟨g,5,none⟩=some (.slice qb 1 cb):=by
  have:=C.c5;rw[hbl]at this;simpa using this
 have hb3:=bal (Below.refl w2.1.size w2) (.cells #[.slice gq r.globals.length gc, .slice (some ⟨g,0,none⟩) r.funcs.length fc, .int .i64 r.main] 30);have HB2:=hI (HB1.o.trans (hB2.mono HB1.o.size));have HB3:=hI (HB2.o.trans (hb3.mono HB2.o.size));have HF:=hI (find_prog w2.1.size qZf r gq (some ⟨g,0,none⟩) gc fc _ hb3.size (hA.keep hb3));have HBT:=hI (fun(W:World) (h:Below w2.1.size w2 W)=>bits_prog w2.1.size r gq (some ⟨g,0,none⟩) gc fc W h.size (hA.keep h));have HSM:=hI (fun(W:World) (h:Below w2.1.size w2 W)=>same_prog w2.1.size r r gq (some ⟨g,0,none⟩) gq (some ⟨g,0,none⟩) gc fc gc fc W h.size (hA.keep h) (hA.keep h));have HW:=hI hb3;have HN:=hI (vL w2 (.cells #[.slice gq r.globals.length gc, .slice (some ⟨g,0,none⟩) r.funcs.length fc, .int .i64 r.main] 30));have hfg:(r.funcs.length:Int)=1:=by omega
 have hgg:(r.globals.length:Int)=1:=by omega
 have k4':=kP hb3 k4;rw[hfd]at HF;rw[hbt]at HBT;rw[sameP_refl]at HSM;clear hP hA hR C hb3 hB2 H2 hf1 hb1 hbl hfd hbt;unfold prV qZf at *;rw[hfl,hg1]at HF HBT HSM HW HN HB3;go_wp2_with fail
 refine(HF.o).mono ?_;rintro e w3 ⟨rfl,hb3⟩;have HB4:=hI (HB3.o.trans (hb3.mono HB3.o.size));have HW4:=hI (HW.o.trans (hb3.mono HW.o.size));have M4:=(hb3.block _ (by simp)).trans HN.o;have HM4:=hI M4;obtain⟨m0,m1,m2⟩:=qUF M4;have hlm:=qJ m0;simp only at hlm;have HB5:=hI (HBT.o w3 HW4.o);clear hb3 HF HB3 HW M4 HBT HN;go_wp2_with fail
 refine(HB5.o).mono ?_;rintro e w4 ⟨rfl,hb4⟩;have HB6:=hI (HB4.o.trans (hb4.mono HB4.o.size));have HW6:=hI (HW4.o.trans (hb4.mono HW4.o.size));have M6:=(hb4.block _ hlm).trans HM4.o;obtain⟨m0,m1,m2⟩:=qUF M6;have hlm:=qJ m0;simp only at hlm;have HS7:=hI (HSM.o w4 HW6.o);clear hb4 HB4 HW4 HB5 M6 HM4 HSM;go_wp2_with fail
 refine(HS7.o).mono ?_;rintro e w5 ⟨rfl,hb5⟩;have HB7:=hI (HB6.o.trans (hb5.mono HB6.o.size));go_wp2
 go_ret;exact⟨rfl,HB7.o⟩
def RC{α β:Type}(S:α→β→Prop):CR α→CR β→Prop
 | .ok a, .ok b=>S a b
 | .bad _ _ c, .bad _ _ c'=>c=c'∧c≠0
 | _,_=>False
def qU9{α β:Type}(_:α)(_:β):Prop:=True
section
variable {α β γ δ:Type}
theorem RC.bind{S:α→β→Prop}{T:γ→δ→Prop}{p:CR α}{q:CR β}{f:α→CR γ}{g:β→CR δ}(h:RC S p q)(hf:∀ a b,S a b→RC T (f a) (g b)):RC T (p.bind f) (q.bind g):=by
 cases p with
 | ok a=>cases q with
  | ok b=>exact hf a b h
  | bad _ _ _=>exact h.elim
 | bad _ _ _=>cases q with
  | ok b=>exact h.elim
  | bad _ _ _=>exact h
theorem RC.ite{S:α→β→Prop}{c:Prop}[Decidable c]{p p':CR α}{q q':CR β}(h1:RC S p q)(h2:RC S p' q'):RC S (if c then p else p') (if c then q else q'):=by
 by_cases h:c
 ·rw[if_pos h,if_pos h];exact h1
 ·rw[if_neg h,if_neg h];exact h2
theorem RC.need{b b':Bool}{t u:qQ}(code:Int)(h:b=b')(hc:code≠0:=by decide):RC qU9 (jQ b t code) (jQ b' u code):=by
 subst h;unfold jQ;cases b
 ·exact⟨rfl,hc⟩
 ·exact trivial
end
theorem qWt{k x:List UInt8}{m ln co:Int}{ks:List qQ}{u:qQ}(h:kO (.mk k x m ln co ks) u=true):∃ ln' co' ks',u=.mk k x m ln' co' ks'∧xC ks ks'=true:=by
 obtain⟨k',x',m',ln',co',ks'⟩:=u;obtain⟨h1,h2,h3,h4⟩:=jN h;simp only[qQ.kind,qQ.text,qQ.num,qQ.kids]at h1 h2 h3 h4;subst h1 h2 h3;exact⟨ln',co',ks',rfl,h4⟩
theorem xY{t:qQ}{r us:List qQ}(h:xC (t :: r) us=true):∃ u us',us=u :: us'∧kO t u=true∧xC r us'=true:=by
 cases us with
 | nil=>simp[xC]at h
 | cons u us=>simp only[xC,bE]at h;exact⟨u,us,rfl,h.1,h.2⟩
theorem xK{us:List qQ}(h:xC [] us=true):us=[]:=by
 cases us with
 | nil=>rfl
 | cons _ _=>simp[xC]at h
section
variable (E:Env)
theorem qWT{t u:qQ}(h:t.text=u.text):RC Eq (qZD E t) (qZD E u):=by
 unfold qZD;rw[h];cases qQj u.text 0 E.own with
 | some p=>exact rfl
 | none =>
  cases qQj u.text 0 E.gs with
  | some p=>exact rfl
  | none=>exact⟨rfl,by decide⟩
mutual
theorem sug_alike:∀ (t u:qQ),kO t u=true→RC Eq (qJu E t) (qJu E u)
 | .mk k x m ln co ks,u,h=>by
  obtain⟨ln',co',ks',rfl,hk⟩:=qWt h;rw[qJu,qJu];refine RC.ite rfl (RC.ite rfl (RC.ite ?_ (RC.ite rfl (RC.ite rfl (qJG ks ks' hk)))));refine(qWT E (t:=.mk k x m ln co ks) (u:=.mk k x m ln' co' ks') rfl).bind fun a b hab=>?_
  subst hab;exact rfl
theorem qJG:∀ (ts us:List qQ),xC ts us=true→RC Eq (qQu E ts) (qQu E us)
 | [],us,h=>by rw[xK h,qQu];exact rfl
 | t :: r,us,h=>by
  obtain⟨u,us',rfl,h1,h2⟩:=xY h;rw[qQu,qQu];refine(sug_alike t u h1).bind fun a b hab=>?_
  subst hab;exact RC.ite (qJG r us' h2) rfl
end
theorem qZq{ts us:List qQ}(h:xC ts us=true):RC Eq (yB E ts) (yB E us) :=
 (qJG E ts us h).bind fun a b hab=>by subst hab;exact rfl
def TyE(a b:Ex):Prop:=a.ty=b.ty
theorem qV8{t u:qQ}(h:kO t u=true):RC TyE (qQ1 E t) (qQ1 E u):=by
 have hp:=jN h;unfold qQ1;rw[hp.1];refine(qWT E hp.2.1).bind fun a b hab=>?_
 subst hab;exact(RC.need _ rfl).bind fun _ _ _=>rfl
theorem qW1(op:List UInt8){ts us:List qQ}(h:xC ts us=true)(T:Ty):RC Eq (qQr E op ts T) (qQr E op us T):=by
 unfold qQr;split
 ·exact rfl
 ·exact RC.ite rfl ((qZq E h).bind fun a b hab=>by subst hab;exact rfl)
 ·exact RC.ite rfl ((qZq E h).bind fun a b hab=>by subst hab;exact rfl)
 ·exact rfl
 ·exact rfl
theorem qV4{ts us:List qQ}(h:xC ts us=true)(t u:qQ)(htu:kO t u=true):kO (ts.headD t) (us.headD u)=true:=by
 cases ts with
 | nil=>rw[xK h];exact htu
 | cons a r=>obtain⟨b,us',rfl,h1,_⟩:=xY h;exact h1
theorem qWg(e:Ex)(ks:List Ex):(e.withKids ks).ty=e.ty:=by cases e;rfl
mutual
theorem qXd:∀ (t u:qQ) (T:Ty),kO t u=true→RC qU9 (qQT E t T) (qQT E u T)
 | .mk k x m ln co ks,u,T,h=>by
  obtain⟨ln',co',ks',rfl,hk⟩:=qWt h;have hl:=qX3 _ _ hk;rw[qQT,qQT];refine RC.ite ?_ (RC.ite ?_ (RC.ite ?_ (RC.ite ?_ ?_)))
  ·exact(RC.need _ rfl).bind fun _ _ _=>trivial
  ·exact(RC.need _ rfl).bind fun _ _ _=>trivial
  ·refine(qV8 E h).bind fun a b hab=>?_
   unfold TyE at hab;rw[hab];refine(RC.need _ rfl).bind fun _ _ _=>?_
   rw[hl];refine RC.ite trivial ((qZq E hk).bind fun c d hcd=>?_);subst hcd;exact(RC.need _ rfl).bind fun _ _ _=>(qZG ks ks' c hk).bind fun _ _ _=>trivial
  ·refine(RC.need _ rfl).bind fun _ _ _=>(qZq E hk).bind fun c d hcd=>?_
   subst hcd;exact(qZG ks ks' c hk).bind fun _ _ _=>trivial
  ·refine(qW1 E _ hk T).bind fun c d hcd=>?_
   subst hcd;exact(RC.need _ rfl).bind fun _ _ _=>(qZG ks ks' c.1 hk).bind fun _ _ _=>trivial
theorem qZG:∀ (ts us:List qQ) (T:Ty),xC ts us=true→RC qU9 (vD E ts T) (vD E us T)
 | [],us,T,h=>by rw[xK h,vD];exact trivial
 | t :: r,us,T,h=>by
  obtain⟨u,us',rfl,h1,h2⟩:=xY h;rw[vD,vD];exact(qXd t u T h1).bind fun _ _ _=>(qZG r us' T h2).bind fun _ _ _=>trivial
end
theorem qPK{ts us:List qQ}(h:xC ts us=true):RC qU9 (qQL E ts) (qQL E us):=by
 unfold qQL;rw[qX3 _ _ h];refine RC.ite trivial ((qZq E h).bind fun a b hab=>?_);subst hab;exact(RC.need _ rfl).bind fun _ _ _=>qZG E ts us a h
theorem qJk{t u:qQ}(h:kO t u=true):RC TyE (wJ E t) (wJ E u):=by
 unfold wJ;refine(qV8 E h).bind fun a b hab=>(qPK E (jN h).2.2.2).bind fun c d _=>?_
 show TyE _ _
 unfold TyE at *;rw[qWg,qWg,hab]
theorem qKA:∀ (ts us:List qQ) (vs:List qI),xC ts us=true→RC qU9 (wM E ts vs) (wM E us vs)
 | [],us,vs,h=>by rw[xK h,wM];exact trivial
 | t :: r,us,vs,h=>by
  obtain⟨u,us',rfl,h1,h2⟩:=xY h;rw[wM,wM];exact(qXd E t u _ h1).bind fun _ _ _=>(qKA r us' _ h2).bind fun _ _ _=>trivial
end
theorem qKZ(fs:List kI){t u:qQ}(h:kO t u=true):RC Eq (wI fs t) (wI fs u):=by
 have hp:=jN h;unfold wI;rw[hp.2.1];cases qQN u.text 0 fs with
 | none=>exact⟨rfl,by decide⟩
 | some p =>
  obtain⟨a,i⟩:=p;exact(RC.need _ (by rw[qX3 _ _ hp.2.2.2])).bind fun _ _ _=>rfl
theorem qJA{t u:qQ}(h:kO t u=true):qZr t=qZr u:=by
 have hp:=jN h;have h1:=qV4 hp.2.2.2 (.mk [] [] 0 0 0 []) (.mk [] [] 0 0 0 []) rfl;unfold qZr;rw[hp.2.1,(jN h1).2.1]
theorem qPO(own:List qI){t u:qQ}(h:kO t u=true):RC Eq (qJJ own t) (qJJ own u):=by
 unfold qJJ;rw[qJA h,(jN h).2.1];exact(RC.need _ rfl).bind fun _ _ _=>(RC.need _ rfl).bind fun _ _ _=>rfl
theorem qUe{ts us:List qQ}(h:xC ts us=true):∀ i,kO (kid ts i) (kid us i)=true:=by
 induction ts generalizing us with
 | nil=>rw[xK h];intro i;rfl
 | cons t r ih =>
  obtain⟨u,us',rfl,h1,h2⟩:=xY h;intro i;cases i with
  | zero=>exact h1
  | succ i=>exact ih h2 i
def OwnE(a b:Sx×List qI):Prop:=a.2=b.2
def OwnL(a b:List Sx×List qI):Prop:=a.2=b.2
section
variable (gs:List qI) (fs:List kI) (ret:Ty)
mutual
theorem st_alike:∀ (t u:qQ) (own:List qI),kO t u=true→RC OwnE (stC gs fs ret t own) (stC gs fs ret u own)
 | .mk k x m ln co ks,u,own,h=>by
  obtain⟨ln',co',ks',rfl,hk⟩:=qWt h;have hl:=qX3 _ _ hk;have h0:=qUe hk 0;have h1:=qUe hk 1;rw[stC.eq_def,stC.eq_def];simp only;refine RC.ite ?_ (RC.ite ?_ (RC.ite ?_ (RC.ite ?_ (RC.ite ?_ ?_))))
  ·refine(qJk _ h0).bind fun a b hab=>?_
   unfold TyE at hab;rw[hab];exact(qXd _ _ _ _ h1).bind fun _ _ _=>rfl
  ·exact(qJk _ h0).bind fun a b hab=>rfl
  ·refine(qKZ fs h).bind fun a b hab=>?_
   subst hab;exact(qKA _ ks ks' _ hk).bind fun _ _ _=>rfl
  ·refine(qJk _ h0).bind fun a b hab=>(qKZ fs h1).bind fun c d hcd=>?_
   subst hcd;unfold TyE at hab;rw[hab];exact(RC.need _ rfl).bind fun _ _ _=>(qKA _ _ _ _ (jN h1).2.2.2).bind fun _ _ _=>rfl
  ·exact(RC.need _ (by rw[hl])).bind fun _ _ _=>(qZG _ ks ks' ret hk).bind fun _ _ _=>rfl
  ·match ks,hk with
   | [],hk=>rw[xK hk];exact rfl
   | [a],hk =>
    obtain⟨a',us1,rfl,e1,hk⟩:=xY hk;rw[xK hk];exact(qXd _ a a' _ e1).bind fun _ _ _=>rfl
   | [a,b],hk =>
    obtain⟨a',us1,rfl,e1,hk⟩:=xY hk;obtain⟨b',us2,rfl,e2,hk⟩:=xY hk;rw[xK hk];exact(qXd _ a a' _ e1).bind fun _ _ _=>(qKX b b' own e2).bind fun _ _ h=>h
   | a :: b :: c :: r,hk =>
    obtain⟨a',us1,rfl,e1,hk⟩:=xY hk;obtain⟨b',us2,rfl,e2,hk⟩:=xY hk;obtain⟨c',us3,rfl,e3,hk⟩:=xY hk;refine(qXd _ a a' _ e1).bind fun _ _ _=>(qKX b b' own e2).bind fun p q h=>?_
    unfold OwnL at h;rw[h];exact(qKX c c' q.2 e3).bind fun _ _ h=>h
theorem qKX:∀ (t u:qQ) (own:List qI),kO t u=true→RC OwnL (blC gs fs ret t own) (blC gs fs ret u own)
 | .mk k x m ln co ks,u,own,h=>by
  obtain⟨ln',co',ks',rfl,hk⟩:=qWt h;rw[blC,blC];exact qVQ ks ks' own hk
theorem qVQ:∀ (ts us:List qQ) (own:List qI),xC ts us=true→RC OwnL (qXJ gs fs ret ts own) (qXJ gs fs ret us own)
 | [],us,own,h=>by rw[xK h,qXJ];exact rfl
 | t :: r,us,own,h=>by
  obtain⟨u,us',rfl,h1,h2⟩:=xY h;rw[qXJ,qXJ,(jN h1).1];refine RC.ite ((qPO own h1).bind fun a b hab=>?_) ((st_alike t u own h1).bind fun a b hab=>?_)
  ·subst hab;exact qVQ r us' a h2
  ·unfold OwnE at hab;rw[hab];exact(qVQ r us' b.2 h2).bind fun _ _ h=>h
end
end
theorem qV6:∀ {ts us:List qQ},xC ts us=true→kO (ts.getLastD (.mk [] [] 0 0 0 [])) (us.getLastD (.mk [] [] 0 0 0 []))=true:=by
 have key:∀ (ts us:List qQ) (t u:qQ),kO t u=true→xC ts us=true→kO (ts.getLastD t) (us.getLastD u)=true:=by
  intro ts;induction ts with
  | nil=>intro us t u h h';rw[xK h'];exact h
  | cons a r ih =>
   intro us t u h h';obtain⟨b,us',rfl,h1,h2⟩:=xY h';rw[List.getLastD_cons,List.getLastD_cons];exact ih us' a b h1 h2
 intro ts us h;exact key ts us _ _ rfl h
theorem qJE:∀ {ts us:List qQ},xC ts us=true→xC ts.dropLast us.dropLast=true
 | [],us,h=>by rw[xK h];rfl
 | [t],us,h=>by
  obtain⟨u,us',rfl,h1,h2⟩:=xY h;rw[xK h2];rfl
 | t :: s :: r,us,h=>by
  obtain⟨u,us',rfl,h1,h2⟩:=xY h;obtain⟨v,us2,rfl,h3,h4⟩:=xY h2;rw[List.dropLast_cons₂,List.dropLast_cons₂];simp only[xC,bE];exact⟨h1,qJE (ts:=s :: r) (us:=v :: us2) (by simp only[xC,bE];exact⟨h3,h4⟩)⟩
theorem qPw{ts us:List qQ}(h:xC ts us=true):xC (ts.drop 1) (us.drop 1)=true:=by
 cases ts with
 | nil=>rw[xK h];rfl
 | cons t r=>obtain⟨u,us',rfl,h1,h2⟩:=xY h;exact h2
theorem qKv(S:HdS){t u:qQ}(h:kO t u=true):RC qU9 (yF S t) (yF S u):=by
 unfold yF;rw[(jN h).2.1];exact RC.need _ rfl
theorem qUO(S:HdS){t u:qQ}(h:kO t u=true):RC Eq (qZ9 S t) (qZ9 S u):=by
 have hp:=jN h;have hl:=qV6 hp.2.2.2;unfold qZ9;generalize t.kids.getLastD (.mk [] [] 0 0 0 [])=a at *;generalize u.kids.getLastD (.mk [] [] 0 0 0 [])=b at *;have hq:=jN hl;simp only[qJA h,hq.1,hq.2.2.1];exact(RC.need _ rfl).bind fun _ _ _=>(qKv S h).bind fun _ _ _=>(RC.need _ rfl).bind fun _ _ _=>rfl
theorem qVg:∀ (ts us:List qQ) (acc:List qI),xC ts us=true→RC Eq (yH ts acc) (yH us acc)
 | [],us,acc,h=>by rw[xK h,yH];exact rfl
 | t :: r,us,acc,h=>by
  obtain⟨u,us',rfl,h1,h2⟩:=xY h;rw[yH,yH,(jN h1).2.1,qJA h1];exact(RC.need _ rfl).bind fun _ _ _=>(RC.need _ rfl).bind fun _ _ _=>qVg r us' _ h2
theorem qWV(S:HdS){t u:qQ}(h:kO t u=true):RC Eq (wF S t) (wF S u):=by
 have hp:=jN h;have h1:=qV4 hp.2.2.2 (.mk [] [] 0 0 0 []) (.mk [] [] 0 0 0 []) rfl;unfold wF;refine(RC.need _ rfl).bind fun _ _ _=>(qKv S h).bind fun _ _ _=>(qVg _ _ [] (qPw (qJE hp.2.2.2))).bind fun a b hab=>?_
 subst hab;rw[hp.2.1,(jN h1).2.1];exact rfl
theorem qV5:∀ (ts us:List qQ) (S:HdS),xC ts us=true→RC Eq (yS ts S) (yS us S)
 | [],us,S,h=>by rw[xK h,yS];exact rfl
 | t :: r,us,S,h=>by
  obtain⟨u,us',rfl,h1,h2⟩:=xY h;rw[yS,yS,(jN h1).1];refine RC.bind (S:=Eq) (RC.ite (qWV S h1) (qUO S h1)) fun a b hab=>?_
  subst hab;exact qV5 r us' a h2
theorem qX9(gs:List qI)(fs:List kI):∀ (ts us:List qQ) (hs:List kI),xC ts us=true→RC qU9 (vG gs fs ts hs) (vG gs fs us hs)
 | [],us,hs,h=>by rw[xK h,vG];exact trivial
 | t :: r,us,hs,h=>by
  obtain⟨u,us',rfl,h1,h2⟩:=xY h;rw[vG.eq_def,vG.eq_def];simp only;rw[(jN h1).1];refine RC.ite ?_ (qX9 gs fs r us' hs h2);cases hs with
  | nil=>exact trivial
  | cons a hs=>exact(qKX gs fs a.t _ _ a.params (qV6 (jN h1).2.2.2)).bind fun _ _ _=>(qX9 gs fs r us' hs h2).bind fun _ _ _=>trivial
theorem qPn{t u:qQ}(h:kO t u=true):RC qU9 (qZb t) (qZb u):=by
 have hk:=(jN h).2.2.2;unfold qZb;refine(qV5 _ _ _ hk).bind fun a b hab=>?_
 subst hab;refine(qX9 a.gs a.fs _ _ a.fs hk).bind fun _ _ _=>?_
 cases qQN qZf 0 a.fs with
 | none=>exact⟨rfl,by decide⟩
 | some p=>exact RC.ite trivial ⟨rfl,by decide⟩
def qPq{α:Type}:CR α→Int
 | .ok _=>0
 | .bad _ _ c=>c
theorem RC.code{α β:Type}{S:α→β→Prop}{p:CR α}{q:CR β}(h:RC S p q):qPq p=qPq q:=by
 cases p with
 | ok a=>cases q with
  | ok b=>rfl
  | bad _ _ _=>exact h.elim
 | bad _ _ _=>cases q with
  | ok b=>exact h.elim
  | bad _ _ _=>exact h.1
theorem code_alike{s s':List UInt8}(h:zJ xN (qZ4 s) (qZ4 s')):qPq (qXN s)=qPq (qXN s'):=by
 unfold qXN;have h1:=qVG s;have h2:=qVG s';generalize qZ4 s=p at *;generalize qZ4 s'=q at *;cases p with
 | out=>exact absurd rfl h1
 | ok t l=>cases q with
  | out=>exact absurd rfl h2
  | ok u l'=>exact(qPn h.1).code
  | bad _ _ _=>exact h.elim
 | bad a b c=>cases q with
  | out=>exact absurd rfl h2
  | ok u l'=>exact h.elim
  | bad a' b' c'=>exact h
theorem qQ9.all{p:CR PrD}{w w':World}{e:Ending}(h:qQ9 p w e w') :
 ∃ gq gn gc fq fn fc m a b,e=.returned (.tuple #[.agg #[.slice gq gn gc, .slice fq fn fc, .int .i64 m], .int .i64 a, .int .i64 b, .int .i64 (qPq p)])∧Below w.1.size w w':=by
 rcases h.cases with⟨r,v,rfl,rfl,hr,hb⟩ | ⟨ln,co,code,rfl,rfl,hb⟩
 ·obtain⟨gq,gc,fq,fc,rfl⟩:=hr.shape;exact⟨gq,_,gc,fq,_,fc,_,0,0,rfl,hb⟩
 ·exact⟨none,0,0,none,0,0,0,ln,co,rfl,hb⟩
theorem blanks_law(s:ByteArray)(w:World)(hc:qYA w)(h4:qWB w):Calls prog 3 #[.string s] w fun e w'=>e=.returned (.bool true)∧Below w.1.size w w':=by
 have HC:=hI hc;have H4:=hI h4;by_cases hl:(s.size:Int)≤2000
 ·have hs':s.size≤65536:=by omega
  cases hx:qQD s.data.toList 1 1 with
  | bad ln c code =>
   have HL:=hI (lex_no w hs' h4.1.2 hx);have hcode:=qPN _ _ _ _ (Nat.le_refl _) hx;have hc:(code != 0)=true:=by simp;omega
   clear hcode hx h4;go_enter func3,ntmps3
   go_wp2_with fail
   refine(HL.o).mono ?_;rintro e w1 ⟨rfl,hb1⟩;have HB1:=hI hb1;have HA:=hI (qJ2 w1 (HC.o.below hb1) (H4.o.below hb1));clear hb1 HL;go_wp2_with fail
   refine(HA.o).mono ?_;rintro e w2 ⟨rfl,hb2⟩;have HB2:=hI (HB1.o.trans (hb2.mono HB1.o.size));have HA2:=hI (qJ2 w2 (HC.o.below HB2.o) (H4.o.below HB2.o));clear hb2 HA;go_wp2_with fail
   refine(HA2.o).mono ?_;rintro e w3 ⟨rfl,hb3⟩;go_wp2
   go_ret;exact⟨rfl,HB2.o.trans (hb3.mono HB2.o.size)⟩
  | ok ts =>
   obtain⟨us,hu,hbe⟩:=back_math hx;obtain⟨n1,n2,n3⟩:=lex_len _ _ _ _ ts (Nat.le_refl _) hx;have hsl:=qQQ s;have hsh:(shF 0 ts).length≤6000:=by rw[shF_L];have:=showL_le (ts.map Tok.bare);omega
   have hu1:(⟨(shF 0 ts).toArray⟩:ByteArray).data.toList=shF 0 ts:=by simp
   have hr1:=qP4 hx (by omega);have hr2:=qP4 hu (by omega);have hrel:=rel_program 200000 hbe;rw[←hr1,←hr2]at hrel;have hcd:=code_alike hrel;have HCD:=hI hcd;have HL:=hI (lex_ok w hs' h4.1.2 hx);have HM:=hI (fun(W:World) (h:Below w.1.size w W)=>by have:=qKb ⟨(shF 0 ts).toArray⟩ W (HC.o.below h) (H4.o.below h);rw[hu1]at this;exact this);have HRD:=hI (fun(W:World) (h:Below w.1.size w W)=>qKb s W (HC.o.below h) (H4.o.below h));have n4:ts.length≤3001:=by omega
   clear n2 n3 hx h4 hu hu1 hbe hsl hr1 hr2 hrel hcd;generalize qXN s.data.toList=P1 at *;generalize qXN (shF 0 ts)=P2 at *;go_enter func3,ntmps3
   go_wp2_with fail
   refine(HL.o).mono ?_;rintro e w1 ⟨v1,rfl,hown1,hb1⟩;obtain⟨g1,cap1,rfl,hg1,hgl1,_,hrow1⟩:=qUr hown1 n1;have HB1:=hI hb1;have HA:=hI (qJ2 w1 (HC.o.below hb1) (H4.o.below hb1));have R1:=hI hrow1;clear hown1 hrow1 HL hb1;go_wp2_with fail
   refine(HA.o).mono ?_;rintro e w2 ⟨rfl,hb2⟩;have HB2:=hI (HB1.o.trans (hb2.mono HB1.o.size));have R2:=hI (R1.o.below hb2 hgl1);have hgl2:g1 < w2.1.size:=by have:=hb2.size;omega
   have HR:=hI (HRD.o w2 HB2.o);clear HA hb2 R1 HRD HB1;go_wp2_with fail
   refine(HR.o).mono ?_;intro e w3 hq;obtain⟨gq,gn,gc,fq,fn,fc,m,pa1,pa2,rfl,hb3⟩:=hq.all;have ha3:=bal (Below.refl w3.1.size w3) (.cells #[.slice gq gn gc, .slice fq fn fc, .int .i64 m] 30);have HB3:=hI (HB2.o.trans ((hb3.trans (ha3.mono hb3.size)).mono HB2.o.size));have R3:=hI ((R2.o.below hb3 hgl2).below ha3 (by have:=hb3.size;omega));have hgl3:g1 < w3.1.size+1:=by have:=hb3.size;omega
   have HSH:=hI (lshow_any g1 cap1 ts _ R3.o (by rw[World.size_alloc];exact hgl3) (by omega) (by omega));clear hq hb3 ha3 R2 HR hgl2;go_wp2_with fail
   refine(HSH.o).mono ?_;rintro e w4 ⟨rfl,hb4⟩;have HB4:=hI (HB3.o.trans (hb4.mono HB3.o.size));have HR:=hI (HM.o w4 HB4.o);clear HSH hb4 HM R3 HB3;go_wp2_with fail
   refine(HR.o).mono ?_;intro e w5 hq;obtain⟨gq',gn',gc',fq',fn',fc',m',pb1,pb2,rfl,hb5⟩:=hq.all;have HB5:=hI (bal (HB4.o.trans (hb5.mono HB4.o.size)) (.cells #[.slice gq' gn' gc', .slice fq' fn' fc', .int .i64 m'] 30));have hcd:=HCD.o;rw[hcd];clear hq hb5 HR HB4 HCD hcd;go_wp2
   go_ret;exact⟨by simp,HB5.o⟩
 ·have HA:=hI (qJ2 w hc h4);clear h4;go_enter func3,ntmps3
  go_wp2_with fail
  refine(HA.o).mono ?_;rintro e w1 ⟨rfl,hb⟩;go_wp2
  go_ret;exact⟨rfl,hb⟩
end Go.Proofs.YtiajhekdhhhghaaGreatDoor
