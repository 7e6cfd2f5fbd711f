/- Walks. -/
import Derived.Test.YtiajhekdhhhghaaGreatDoorMam
set_option linter.all false
set_option maxHeartbeats 8000000
set_option maxRecDepth 100000
namespace Go.Proofs.YtiajhekdhhhghaaGreatDoor
open Tryz Go.Proofs.Tryz
open Go Go.RowKit
def AlSRel(ts us:List Sx)(w:World)(i:Value)(wr:World):Prop :=
 ∃ k:Nat,k<=ts.length/\i=.int .i64 k/\yA (ts.drop k) (us.drop k)=yA ts us/\Below w.1.size w wr
theorem qKz(B:Nat)(ts us:List Sx)(q q':Option Addr)(c c':Nat)(w:World)(hB:B<=w.1.size)(h1:qVt B w ts q)(h2:qVt B w us q')(hn1:ts.length<=maxLen)(hn2:us.length<=maxLen)
 (hrec:∀ t∈ts,∀ (u:Sx) (v v':qQg) (w:World),B<=w.1.size->wL w (· < B) t v->wL w (· < B) u v'->Calls prog 48 #[sxV t v,sxV u v'] w (xM (qKu t u) w)) :
 Calls prog 47 #[.slice q ts.length c, .slice q' us.length c', .func (.func 48) #[] #[]] w (xM (yA ts us) w):=by
 have H1:=hI h1;have H2:=hI h2;have HR:=hI hrec;have hcf:∀ (args:Array Value) (w:World),(callFunc 48 args).run prog w=.ok (.enter 48 args) w:=fun _ _=>rfl
 unfold maxLen at hn1 hn2;clear h1 h2 hrec;unfold xM;by_cases hl:ts.length=us.length
 ·have hlb:(((ts.length:Nat):Int) != ((us.length:Nat):Int))=false:=by simp[hl]
  rw[<-hl];rw[<-hl]at hlb hn2;have HL:=hI hl;clear hl;go_enter func47,ntmps47
  go_wp2_with fail
  go_loopw [15] (fun i wr=>AlSRel ts us w i wr) (fun i _=>ts.length - (intOf i).toNat)
  case atStart=>exact⟨0,Nat.zero_le _,rfl,by simp,Below.refl _ _⟩
  case round =>
   obtain⟨k,hk,rfl,hs,hb⟩:=hrel;have HS:=hI hs;have HBB:=hI hb;clear hs hb;by_cases hlt:k < ts.length
   ·have hlt':k < us.length:=by have:=HL.o;omega
    obtain⟨g,rfl,hgB,hgr,hR1⟩:=(H1.o.keep (HBB.o.mono hB)).resolve_left (fun e=>by rw[e]at hlt;simp at hlt);obtain⟨g',rfl,hgB',hgr',hR2⟩:=(H2.o.keep (HBB.o.mono hB)).resolve_left (fun e=>by rw[e]at hlt';simp at hlt');have hbs:B<=wr.1.size:=by have:=HBB.o.size;omega
    obtain⟨v1,l1,C1⟩:=hR1 k hlt;obtain⟨v2,l2,C2⟩:=hR2 k hlt';have⟨k0,k1,k2,k3,k4,k5,k6,k7,_⟩:=C1.a;have⟨j0,j1,j2,j3,j4,j5,j6,j7,_⟩:=C2.a;have HC:=hI (fun(W:World) (h:Below wr.1.size wr W)=>HR.o ts[k] (List.getElem_mem _) us[k] v1 v2 W (Nat.le_trans hbs h.size) (l1.keep (h.mono hbs)) (l2.keep (h.mono hbs)));have hstep:=qLG hlt hlt';have HST:=hI hstep;clear hstep;clear C1 C2 hR1 hR2 l1 l2;generalize ts[k]=t at *;generalize us[k]=u at *;obtain⟨op,l,co,tg,es,fn,th,el⟩:=t;obtain⟨op',l',co',tg',es',fn',th',el'⟩:=u;obtain⟨tv,ev,hv,lv⟩:=v1;obtain⟨tv',ev',hv',lv'⟩:=v2;simp only[Sx.op,Sx.line,Sx.col,Sx.fn,sxV]at k0 k1 k2 k3 k4 k5 k6 k7 j0 j1 j2 j3 j4 j5 j6 j7 HC;generalize hT:Sx.mk op l co tg es fn th el=t at *;generalize hU:Sx.mk op' l' co' tg' es' fn' th' el'=u at *;generalize hst:qKu t u=b at *;have hk63:(k:Int) < (ts.length:Nat):=by omega
    have hk0:(0:Int)<=(k:Int):=by omega
    go_wp2_with fail
    refine wRg (S:=fun w'=>Below wr.1.size wr w') 9 ?_;refine wTk 0 18 (.func (.func 48) #[] #[]) ?_ (bD wr) ?_
    ·intro _ y;go_simp
    refine wTk 1 19 (.slice (some ⟨g,0,none⟩) ts.length c) ?_ (bD wr) ?_
    ·intro _ y;go_simp
    refine wTk 2 20 (.int .i64 k) ?_ (bD wr) ?_
    ·intro _ y;go_simp
    refine wTk 3 21 (.pointer (some ⟨g,k * 8,none⟩)) ?_ (bD wr) ?_
    ·intro _ y;go_simp
    refine wTk 4 22 (.agg #[.string ⟨op.toArray⟩, .int .i64 l, .int .i64 co,tv,ev, .int .i64 fn,hv,lv]) ?_ (bD wr) ?_
    ·intro _ y;obtain⟨k0,k1,k2,k3,k4,k5,k6,k7⟩:=kP8 y k0 k1 k2 k3 k4 k5 k6 k7;go_simp
    refine wTk 5 23 (.slice (some ⟨g',0,none⟩) ts.length c') ?_ (bD wr) ?_
    ·intro _ y;go_simp
    refine wTk 6 24 (.int .i64 k) ?_ (bD wr) ?_
    ·intro _ y;go_simp
    refine wTk 7 25 (.pointer (some ⟨g',k * 8,none⟩)) ?_ (bD wr) ?_
    ·intro _ y;go_simp
    refine wTk 8 26 (.agg #[.string ⟨op'.toArray⟩, .int .i64 l', .int .i64 co',tv',ev', .int .i64 fn',hv',lv']) ?_ (bD wr) ?_
    ·intro _ y;obtain⟨j0,j1,j2,j3,j4,j5,j6,j7⟩:=kP8 y j0 j1 j2 j3 j4 j5 j6 j7;go_simp
    refine wOn 9 fun K hK=>?_
    go_simp;refine(HC.o _ (Below.refl _ _).drew).mono ?_;rintro e w3 ⟨rfl,hb3⟩;have hb9:=zF hb3;have HB9:=hI hb9;clear hb3;refine kD hK ?_;clear hK K;refine wOn 10 fun K hK=>?_
    go_simp;refine kD hK ?_;clear hK K;refine wDn ?_ _;clear hb9;cases b
    ·go_wp2
     go_ret;refine⟨?_,HBB.o.trans (HB9.o.mono HBB.o.size)⟩;rw[<-HS.o,HST.o];rfl
    ·go_wp2
     go_roundw
     case rel=>exact⟨k+1,by omega,by go_num,by rw[<-HS.o,HST.o,bT],HBB.o.trans (HB9.o.mono HBB.o.size)⟩
     case measure=>simp[intOf];omega
   ·have hend:=qLx hlt HL.o;go_wp2
    go_ret;refine⟨?_,HBB.o⟩;rw[<-HS.o,hend];rfl
 ·have hlb:(((ts.length:Nat):Int) != ((us.length:Nat):Int))=true:=by simp;omega
  have hs:yA ts us=false:=by
   cases h:yA ts us
   ·rfl
   ·exact absurd (qYh ts us h) hl
  rw[hs];clear hl;go_enter func47,ntmps47
  go_wp2
  go_ret;exact⟨rfl,Below.refl _ _⟩
theorem qVx{w:World}{g T:Nat}{a0 a1 a2 a3 a4 a5 a6 a7:Value}(h:w.1[g]? = some (.cells #[a0,a1,a2,a3,a4,a5,a6,a7] T)) :
 w.cell? ⟨g,0,none⟩=some a0/\w.cell? ⟨g,1,none⟩=some a1/\w.cell? ⟨g,2,none⟩=some a2/\w.cell? ⟨g,3,none⟩=some a3/\w.cell? ⟨g,4,none⟩=some a4/\w.cell? ⟨g,5,none⟩=some a5/\w.cell? ⟨g,6,none⟩=some a6/\w.cell? ⟨g,7,none⟩=some a7:=by
 simp[World.cell?,h]
theorem qYM(B:Nat)(a b:Sx)(v v':qQg)(w:World)(hB:B<=w.1.size)(ha:wL w (· < B) a v)(hb:wL w (· < B) b v')
 (hrec:∀ t,(t∈a.thn\/t∈a.els)->∀ (u:Sx) (v v':qQg) (w:World),B<=w.1.size->wL w (· < B) t v->wL w (· < B) u v'->Calls prog 48 #[sxV t v,sxV u v'] w (xM (qKu t u) w)) :
 Calls prog 48 #[sxV a v,sxV b v'] w (xM (qKu a b) w):=by
 obtain⟨q1,c1,q2,c2,q3,c3,q4,c4,rfl,a1,a2,a3,a4,m1,m2,m3,m4⟩:=ha.at
 obtain⟨p1,d1,p2,d2,p3,d3,p4,d4,rfl,b1,b2,b3,b4,n1,n2,n3,n4⟩:=hb.at
 obtain⟨op,l,co,tg,es,fn,th,el⟩:=a;obtain⟨op',l',co',tg',es',fn',th',el'⟩:=b;simp only[Sx.target,Sx.exprs,Sx.thn,Sx.els]at *;have h2:=(bal (Below.refl w.1.size w) (.cells (sxC (.mk op l co tg es fn th el) ⟨.slice q1 tg.length c1, .slice q2 es.length c2, .slice q3 th.length c3, .slice q4 el.length c4⟩).toArray 73)).trans ((bal (Below.refl _ (w.alloc (.cells (sxC (.mk op l co tg es fn th el) ⟨.slice q1 tg.length c1, .slice q2 es.length c2, .slice q3 th.length c3, .slice q4 el.length c4⟩).toArray 73))) (.cells (sxC (.mk op' l' co' tg' es' fn' th' el') ⟨.slice p1 tg'.length d1, .slice p2 es'.length d2, .slice p3 th'.length d3, .slice p4 el'.length d4⟩).toArray 73)).mono (by simp));have N0:=hI ((bal (Below.refl _ (w.alloc (.cells (sxC (.mk op l co tg es fn th el) ⟨.slice q1 tg.length c1, .slice q2 es.length c2, .slice q3 th.length c3, .slice q4 el.length c4⟩).toArray 73))) (.cells (sxC (.mk op' l' co' tg' es' fn' th' el') ⟨.slice p1 tg'.length d1, .slice p2 es'.length d2, .slice p3 th'.length d3, .slice p4 el'.length d4⟩).toArray 73)).block w.1.size (by simp) |>.trans (vL w (.cells (sxC (.mk op l co tg es fn th el) ⟨.slice q1 tg.length c1, .slice q2 es.length c2, .slice q3 th.length c3, .slice q4 el.length c4⟩).toArray 73)));have N1:=hI (vL (w.alloc (.cells (sxC (.mk op l co tg es fn th el) ⟨.slice q1 tg.length c1, .slice q2 es.length c2, .slice q3 th.length c3, .slice q4 el.length c4⟩).toArray 73)) (.cells (sxC (.mk op' l' co' tg' es' fn' th' el') ⟨.slice p1 tg'.length d1, .slice p2 es'.length d2, .slice p3 th'.length d3, .slice p4 el'.length d4⟩).toArray 73));have E1:=hI (fun(W:World) (h:Below w.1.size w W)=>qKt B tg tg' q1 p1 c1 d1 W (Nat.le_trans hB h.size) (a1.keep (h.mono hB)) (b1.keep (h.mono hB)) m1 n1);have E2:=hI (fun(W:World) (h:Below w.1.size w W)=>qKt B es es' q2 p2 c2 d2 W (Nat.le_trans hB h.size) (a2.keep (h.mono hB)) (b2.keep (h.mono hB)) m2 n2);have E3:=hI (fun(W:World) (h:Below w.1.size w W)=>qKz B th th' q3 p3 c3 d3 W (Nat.le_trans hB h.size) (a3.keep (h.mono hB)) (b3.keep (h.mono hB)) m3 n3 fun t ht=>hrec t (.inl ht));have E4:=hI (fun(W:World) (h:Below w.1.size w W)=>qKz B el el' q4 p4 c4 d4 W (Nat.le_trans hB h.size) (a4.keep (h.mono hB)) (b4.keep (h.mono hB)) m4 n4 fun t ht=>hrec t (.inr ht));have H2:=hI h2;have hst:qKu (.mk op l co tg es fn th el) (.mk op' l' co' tg' es' fn' th' el')=(op == op' && (l == l' && (co == co' && (fn == fn' && (yO tg tg' && (yO es es' && (yA th th' && yA el el'))))))):=rfl;rw[hst];clear h2 ha hb a1 a2 a3 a4 b1 b2 b3 b4 hrec hst;generalize yO tg tg'=g1 at *;generalize yO es es'=g2 at *;generalize yA th th'=g3 at *;generalize yA el el'=g4 at *;rw[World.size_alloc]at N1;unfold xM at *;simp only[sxC,sxV]at *;cases e0:(op == op');case false =>
  go_enter func48,ntmps48
  go_wp2
  go_ret;exact⟨rfl,H2.o⟩
 case true =>
 cases e1:(l == l');case false =>
  go_enter func48,ntmps48
  go_wp2
  go_ret;exact⟨rfl,H2.o⟩
 case true =>
 cases e2:(co == co');case false =>
  go_enter func48,ntmps48
  go_wp2
  go_ret;exact⟨rfl,H2.o⟩
 case true =>
 cases e3:(fn == fn');case false =>
  go_enter func48,ntmps48
  go_wp2
  go_ret;exact⟨rfl,H2.o⟩
 case true =>
 have C1:=hI (E1.o _ H2.o);clear E1;have hs0:(w.alloc (.cells (sxC (.mk op l co tg es fn th el) ⟨.slice q1 tg.length c1, .slice q2 es.length c2, .slice q3 th.length c3, .slice q4 el.length c4⟩).toArray 73)).1.size=w.1.size+1:=by simp
 simp only[sxC]at hs0;clear hs0;go_enter func48,ntmps48
 go_wp2_with fail
 refine(C1.o).mono ?_;rintro e w3 ⟨rfl,hb3⟩;have HB3:=hI (H2.o.trans (hb3.mono H2.o.size));have M0:=hI ((hb3.block _ (by simp;omega)).trans N0.o);have M1:=hI ((hb3.block _ (by simp)).trans N1.o);have D2:=hI (E2.o w3 HB3.o);clear hb3 C1 E2 N0 N1 H2;cases g1;case false =>
  go_wp2
  go_ret;exact⟨rfl,HB3.o⟩
 case true =>
 obtain⟨k0,k1,k2,k3,k4,k5,k6,k7⟩:=qVx M0.o;obtain⟨j0,j1,j2,j3,j4,j5,j6,j7⟩:=qVx M1.o;have hl3:=qJ j0;simp only at hl3;go_wp2_with fail
 refine(D2.o).mono ?_;rintro e w4 ⟨rfl,hb4⟩;have HB4:=hI (HB3.o.trans (hb4.mono HB3.o.size));have P0:=hI ((hb4.block _ (by omega)).trans M0.o);have P1:=hI ((hb4.block _ (by omega)).trans M1.o);have D3:=hI (E3.o w4 HB4.o);clear hb4 D2 E3 M0 M1 HB3 k0 k1 k2 k3 k4 k5 k6 k7 j0 j1 j2 j3 j4 j5 j6 j7 hl3;cases g2;case false =>
  go_wp2
  go_ret;exact⟨rfl,HB4.o⟩
 case true =>
 obtain⟨k0,k1,k2,k3,k4,k5,k6,k7⟩:=qVx P0.o;obtain⟨j0,j1,j2,j3,j4,j5,j6,j7⟩:=qVx P1.o;have hl3:=qJ j0;simp only at hl3;go_wp2_with fail
 refine(D3.o).mono ?_;rintro e w5 ⟨rfl,hb5⟩;have HB5:=hI (HB4.o.trans (hb5.mono HB4.o.size));have Q0:=hI ((hb5.block _ (by omega)).trans P0.o);have Q1:=hI ((hb5.block _ (by omega)).trans P1.o);have D4:=hI (E4.o w5 HB5.o);clear hb5 D3 E4 P0 P1 HB4 k0 k1 k2 k3 k4 k5 k6 k7 j0 j1 j2 j3 j4 j5 j6 j7 hl3;cases g3;case false =>
  go_wp2
  go_ret;exact⟨rfl,HB5.o⟩
 case true =>
 obtain⟨k0,k1,k2,k3,k4,k5,k6,k7⟩:=qVx Q0.o;obtain⟨j0,j1,j2,j3,j4,j5,j6,j7⟩:=qVx Q1.o;have hl3:=qJ j0;simp only at hl3;go_wp2_with fail
 refine(D4.o).mono ?_;rintro e w6 ⟨rfl,hb6⟩;have HB6:=hI (HB5.o.trans (hb6.mono HB5.o.size));go_wp2
 go_ret;exact⟨rfl,HB6.o⟩
theorem qU4(B:Nat):∀ (n:Nat) (a:Sx),SizeOf.sizeOf a < n->∀ (b:Sx) (va vb:qQg) (w:World),B<=w.1.size->wL w (· < B) a va->wL w (· < B) b vb->Calls prog 48 #[sxV a va,sxV b vb] w (xM (qKu a b) w):=by
 intro n;induction n with
 | zero=>intro a h;omega
 | succ n ih =>
  intro a h b va vb w hB ha hb;refine qYM B a b va vb w hB ha hb fun t ht u v v' w1 h1 h2 h3=>ih t ?_ u v v' w1 h1 h2 h3
  rcases ht with ht | ht
  ·have:=thn_size ht;omega
  ·have:=els_size ht;omega
theorem qYN(B:Nat)(es us:List Sx)(q q':Option Addr)(c c':Nat)(w:World)(hB:B<=w.1.size)(h1:qVt B w es q)(h2:qVt B w us q')(hn1:es.length<=maxLen)(hn2:us.length<=maxLen) :
 Calls prog 47 #[.slice q es.length c, .slice q' us.length c', .func (.func 48) #[] #[]] w (xM (yA es us) w) :=
 qKz B es us q q' c c' w hB h1 h2 hn1 hn2 fun t _ u v v' w1 hB1 l1 l2=>qU4 B _ t (Nat.lt_succ_self _) u v v' w1 hB1 l1 l2
theorem qLa(a b:qI)(w:World):Calls prog 29 #[qXK a,qXK b] w (xM (qYi a b) w):=by
 obtain⟨n,⟨t1,t2⟩,s⟩:=a;obtain⟨n',⟨t1',t2'⟩,s'⟩:=b;have h2:=hI (fun a b:Obj=>((bal (Below.refl w.1.size w) a).trans ((bal (Below.refl _ (w.alloc a)) b).mono (by simp))));have hsv:qYi ⟨n,(t1,t2),s⟩ ⟨n',(t1',t2'),s'⟩=(n == n' && ((t1 == t1' && t2 == t2') && s == s')):=rfl;rw[hsv];unfold xM qXK;go_enter func29,ntmps29
 go_wp2
 all_goals
  go_ret;exact⟨congrArg Ending.returned (congrArg Value.bool (by simp[*])),h2.o _ _⟩
def AlVRel(ts us:List qI)(w:World)(i:Value)(wr:World):Prop :=
 ∃ k:Nat,k<=ts.length/\i=.int .i64 k/\kC (ts.drop k) (us.drop k)=kC ts us/\Below w.1.size w wr
theorem qWF(B:Nat)(ts us:List qI)(q q':Option Addr)(c c':Nat)(w:World)(hB:B<=w.1.size)(h1:qYC B w ts q)(h2:qYC B w us q')(hn1:ts.length<=maxLen)(hn2:us.length<=maxLen) :
 Calls prog 28 #[.slice q ts.length c, .slice q' us.length c', .func (.func 29) #[] #[]] w (xM (kC ts us) w):=by
 have H1:=hI h1;have H2:=hI h2;have hcf:∀ (args:Array Value) (w:World),(callFunc 29 args).run prog w=.ok (.enter 29 args) w:=fun _ _=>rfl
 unfold maxLen at hn1 hn2;clear h1 h2;unfold xM;by_cases hl:ts.length=us.length
 ·have hlb:(((ts.length:Nat):Int) != ((us.length:Nat):Int))=false:=by simp[hl]
  rw[<-hl];rw[<-hl]at hlb hn2;have HL:=hI hl;clear hl;go_enter func28,ntmps28
  go_wp2_with fail
  go_loopw [15] (fun i wr=>AlVRel ts us w i wr) (fun i _=>ts.length - (intOf i).toNat)
  case atStart=>exact⟨0,Nat.zero_le _,rfl,by simp,Below.refl _ _⟩
  case round =>
   obtain⟨k,hk,rfl,hs,hb⟩:=hrel;have HS:=hI hs;have HBB:=hI hb;clear hs hb;by_cases hlt:k < ts.length
   ·have hlt':k < us.length:=by have:=HL.o;omega
    obtain⟨g,rfl,hgB,hgr,hR1⟩:=(H1.o.keep (HBB.o.mono hB)).resolve_left (fun e=>by rw[e]at hlt;simp at hlt);obtain⟨g',rfl,hgB',hgr',hR2⟩:=(H2.o.keep (HBB.o.mono hB)).resolve_left (fun e=>by rw[e]at hlt';simp at hlt');have hbs:B<=wr.1.size:=by have:=HBB.o.size;omega
    have C1:=hR1 k hlt;have C2:=hR2 k hlt';have⟨k0,k1,k2,k3,_⟩:=C1.a;have⟨j0,j1,j2,j3,_⟩:=C2.a;have HC:=hI (fun(W:World) (_:Below wr.1.size wr W)=>qLa ts[k] us[k] W);have hstep:=qLH hlt hlt';have HST:=hI hstep;clear hstep;clear C1 C2 hR1 hR2;generalize ts[k]=t at *;generalize us[k]=u at *;unfold qXK at HC;generalize hst:qYi t u=b at *;have hk63:(k:Int) < (ts.length:Nat):=by omega
    have hk0:(0:Int)<=(k:Int):=by omega
    go_wp2_with fail
    refine wRg (S:=fun w'=>Below wr.1.size wr w') 9 ?_;refine wTk 0 18 (.func (.func 29) #[] #[]) ?_ (bD wr) ?_
    ·intro _ y;go_simp
    refine wTk 1 19 (.slice (some ⟨g,0,none⟩) ts.length c) ?_ (bD wr) ?_
    ·intro _ y;go_simp
    refine wTk 2 20 (.int .i64 k) ?_ (bD wr) ?_
    ·intro _ y;go_simp
    refine wTk 3 21 (.pointer (some ⟨g,k * 4,none⟩)) ?_ (bD wr) ?_
    ·intro _ y;go_simp
    refine wTk 4 22 (.agg #[.string ⟨t.name.toArray⟩, .int .i64 t.t.1, .bool t.t.2, .int .i64 t.size]) ?_ (bD wr) ?_
    ·intro _ y;obtain⟨k0,k1,k2,k3⟩:=kP4 y k0 k1 k2 k3;go_simp
    refine wTk 5 23 (.slice (some ⟨g',0,none⟩) ts.length c') ?_ (bD wr) ?_
    ·intro _ y;go_simp
    refine wTk 6 24 (.int .i64 k) ?_ (bD wr) ?_
    ·intro _ y;go_simp
    refine wTk 7 25 (.pointer (some ⟨g',k * 4,none⟩)) ?_ (bD wr) ?_
    ·intro _ y;go_simp
    refine wTk 8 26 (.agg #[.string ⟨u.name.toArray⟩, .int .i64 u.t.1, .bool u.t.2, .int .i64 u.size]) ?_ (bD wr) ?_
    ·intro _ y;obtain⟨j0,j1,j2,j3⟩:=kP4 y j0 j1 j2 j3;go_simp
    refine wOn 9 fun K hK=>?_
    go_simp;refine(HC.o _ (Below.refl _ _).drew).mono ?_;rintro e w3 ⟨rfl,hb3⟩;have hb9:=zF hb3;have HB9:=hI hb9;clear hb3;refine kD hK ?_;clear hK K;refine wOn 10 fun K hK=>?_
    go_simp;refine kD hK ?_;clear hK K;refine wDn ?_ _;clear hb9;cases b
    ·go_wp2
     go_ret;refine⟨?_,HBB.o.trans (HB9.o.mono HBB.o.size)⟩;rw[<-HS.o,HST.o];rfl
    ·go_wp2
     go_roundw
     case rel=>exact⟨k+1,by omega,by go_num,by rw[<-HS.o,HST.o,bT],HBB.o.trans (HB9.o.mono HBB.o.size)⟩
     case measure=>simp[intOf];omega
   ·have hend:=qLz hlt HL.o;go_wp2
    go_ret;refine⟨?_,HBB.o⟩;rw[<-HS.o,hend];rfl
 ·have hlb:(((ts.length:Nat):Int) != ((us.length:Nat):Int))=true:=by simp;omega
  have hs:kC ts us=false:=by
   cases h:kC ts us
   ·rfl
   ·exact absurd (qYj ts us h) hl
  rw[hs];clear hl;go_enter func28,ntmps28
  go_wp2
  go_ret;exact⟨rfl,Below.refl _ _⟩
theorem qLo(B:Nat)(ts us:List qI)(q q':Option Addr)(c c':Nat)(w:World)(hB:B<=w.1.size)(h1:qYC B w ts q)(h2:qYC B w us q')(hn1:ts.length<=maxLen)(hn2:us.length<=maxLen) :
 Calls prog 32 #[.slice q ts.length c, .slice q' us.length c'] w (xM (kC ts us) w):=by
 have H1:=hI h1;have H2:=hI h2;unfold maxLen at hn1 hn2;clear h1 h2;unfold xM;by_cases hl:ts.length=us.length
 ·have hlb:(((ts.length:Nat):Int) != ((us.length:Nat):Int))=false:=by simp[hl]
  rw[<-hl];rw[<-hl]at hlb hn2;have HL:=hI hl;clear hl;go_enter func32,ntmps32
  go_wp2_with fail
  go_loopw [5] (fun i wr=>AlVRel ts us w i wr) (fun i _=>ts.length - (intOf i).toNat)
  case atStart=>exact⟨0,Nat.zero_le _,rfl,by simp,Below.refl _ _⟩
  case round =>
   obtain⟨k,hk,rfl,hs,hb⟩:=hrel;have HS:=hI hs;have HBB:=hI hb;clear hs hb;by_cases hlt:k < ts.length
   ·have hlt':k < us.length:=by have:=HL.o;omega
    obtain⟨g,rfl,hgB,hgr,hR1⟩:=(H1.o.keep (HBB.o.mono hB)).resolve_left (fun e=>by rw[e]at hlt;simp at hlt);obtain⟨g',rfl,hgB',hgr',hR2⟩:=(H2.o.keep (HBB.o.mono hB)).resolve_left (fun e=>by rw[e]at hlt';simp at hlt');have C1:=hR1 k hlt;have C2:=hR2 k hlt';have⟨k0,k1,k2,k3,_⟩:=C1.a;have⟨j0,j1,j2,j3,_⟩:=C2.a;have hstep:=qLH hlt hlt';have HST:=hI hstep;clear hstep C1 C2 hR1 hR2;generalize ts[k]=t at *;generalize us[k]=u at *;have hk63:(k:Int) < (ts.length:Nat):=by omega
    have hk0:(0:Int)<=(k:Int):=by omega
    obtain⟨n,⟨t1,t2⟩,s⟩:=t;obtain⟨n',⟨t1',t2'⟩,s'⟩:=u;have hsv:qYi ⟨n,(t1,t2),s⟩ ⟨n',(t1',t2'),s'⟩=(n == n' && ((t1 == t1' && t2 == t2') && s == s')):=rfl;have HSV:=hI hsv;clear hsv;simp only at k0 k1 k2 k3 j0 j1 j2 j3;by_cases e0:n=n'
    case neg =>
     go_wp2_with fail
     go_region
     go_wp2
     go_ret;exact⟨by rw[<-HS.o,HST.o,HSV.o];simp[e0],HBB.o.drew⟩
    case pos =>
    subst e0;by_cases e1:t1=t1'
    case neg =>
     go_wp2_with fail
     go_region
     go_wp2
     go_ret;exact⟨by rw[<-HS.o,HST.o,HSV.o];simp[e1],HBB.o.drew⟩
    case pos =>
    subst e1;by_cases e2:t2=t2'
    case neg =>
     go_wp2_with fail
     go_region
     go_wp2
     go_ret;exact⟨by rw[<-HS.o,HST.o,HSV.o];simp[e2],HBB.o.drew⟩
    case pos =>
    subst e2;by_cases e3:s=s'
    case neg =>
     go_wp2_with fail
     go_region
     go_wp2
     go_ret;exact⟨by rw[<-HS.o,HST.o,HSV.o];simp[e3],HBB.o.drew⟩
    case pos =>
    subst e3;go_wp2_with fail
    go_region
    go_wp2
    go_roundw
    case rel=>exact⟨k+1,by omega,by go_num,by rw[<-HS.o,HST.o,HSV.o];simp,HBB.o.drew⟩
    case measure=>simp[intOf];omega
   ·have hend:=qLz hlt HL.o;go_wp2
    go_ret;refine⟨?_,HBB.o⟩;rw[<-HS.o,hend];rfl
 ·have hlb:(((ts.length:Nat):Int) != ((us.length:Nat):Int))=true:=by simp;omega
  have hs:kC ts us=false:=by
   cases h:kC ts us
   ·rfl
   ·exact absurd (qYj ts us h) hl
  rw[hs];clear hl;go_enter func32,ntmps32
  go_wp2
  go_ret;exact⟨rfl,Below.refl _ _⟩
theorem qLs(B:Nat):∀ (n:Nat) (ts:List Ex),SizeOf.sizeOf ts < n->SlE B ts:=by
 intro n;induction n with
 | zero=>intro ts h;omega
 | succ n ih =>
  intro ts h;refine qLK B ts fun t ht=>ih t.kids ?_
  have h1:=List.sizeOf_lt_of_mem ht;obtain⟨op,ty,m,v,g,l,c,ks⟩:=t;simp only[Ex.mk.sizeOf_spec]at h1;show SizeOf.sizeOf ks < n
  omega
def SlS(B:Nat)(ss:List Sx):Prop:=∀ (us:List Sx) (q q':Option Addr) (c c':Nat) (w:World),B<=w.1.size->qVt B w ss q->qVt B w us q'->ss.length<=maxLen->us.length<=maxLen ->
 Calls prog 33 #[.slice q ss.length c, .slice q' us.length c'] w (xM (yA ss us) w)
theorem qLL(B:Nat)(ts:List Sx)(hrec:∀ t∈ts,SlS B t.thn/\SlS B t.els):SlS B ts:=by
 intro us q q' c c' w hB h1 h2 hn1 hn2;have H1:=hI h1;have H2:=hI h2;have HR:=hI hrec;unfold maxLen at hn1 hn2;clear h1 h2 hrec;unfold xM;by_cases hl:ts.length=us.length
 ·have hlb:(((ts.length:Nat):Int) != ((us.length:Nat):Int))=false:=by simp[hl]
  rw[<-hl];rw[<-hl]at hlb hn2;have HL:=hI hl;clear hl;go_enter func33,ntmps33
  go_wp2_with fail
  go_loopw [5] (fun i wr=>AlSRel ts us w i wr) (fun i _=>ts.length - (intOf i).toNat)
  case atStart=>exact⟨0,Nat.zero_le _,rfl,by simp,Below.refl _ _⟩
  case round =>
   obtain⟨k,hk,rfl,hs,hb⟩:=hrel;have HS:=hI hs;have HBB:=hI hb;clear hs hb;by_cases hlt:k < ts.length
   ·have hlt':k < us.length:=by have:=HL.o;omega
    obtain⟨g,rfl,hgB,hgr,hR1⟩:=(H1.o.keep (HBB.o.mono hB)).resolve_left (fun e=>by rw[e]at hlt;simp at hlt);obtain⟨g',rfl,hgB',hgr',hR2⟩:=(H2.o.keep (HBB.o.mono hB)).resolve_left (fun e=>by rw[e]at hlt';simp at hlt');obtain⟨v1,l1,C1⟩:=hR1 k hlt;obtain⟨v2,l2,C2⟩:=hR2 k hlt';obtain⟨q1,c1,q2,c2,q3,c3,q4,c4,rfl,a1,a2,a3,a4,m1,m2,m3,m4⟩:=l1.at
    obtain⟨p1,d1,p2,d2,p3,d3,p4,d4,rfl,b1,b2,b3,b4,n1,n2,n3,n4⟩:=l2.at
    have⟨k0,k1,k2,k3,k4,k5,k6,k7,_⟩:=C1.a;have⟨j0,j1,j2,j3,j4,j5,j6,j7,_⟩:=C2.a;have hbs:B<=wr.1.size:=by have:=HBB.o.size;omega
    have E1:=hI (fun(W:World) (h:Below wr.1.size wr W)=>qLs B _ ts[k].target (Nat.lt_succ_self _) us[k].target q1 p1 c1 d1 W (Nat.le_trans hbs h.size) (a1.keep (h.mono hbs)) (b1.keep (h.mono hbs)) m1 n1);have E2:=hI (fun(W:World) (h:Below wr.1.size wr W)=>qLs B _ ts[k].exprs (Nat.lt_succ_self _) us[k].exprs q2 p2 c2 d2 W (Nat.le_trans hbs h.size) (a2.keep (h.mono hbs)) (b2.keep (h.mono hbs)) m2 n2);have E3:=hI (fun(W:World) (h:Below wr.1.size wr W)=>(HR.o ts[k] (List.getElem_mem _)).1 us[k].thn q3 p3 c3 d3 W (Nat.le_trans hbs h.size) (a3.keep (h.mono hbs)) (b3.keep (h.mono hbs)) m3 n3);have E4:=hI (fun(W:World) (h:Below wr.1.size wr W)=>(HR.o ts[k] (List.getElem_mem _)).2 us[k].els q4 p4 c4 d4 W (Nat.le_trans hbs h.size) (a4.keep (h.mono hbs)) (b4.keep (h.mono hbs)) m4 n4);have hstep:=qLG hlt hlt';have HST:=hI hstep;clear hstep C1 C2 hR1 hR2 l1 l2 a1 a2 a3 a4 b1 b2 b3 b4 m1 m2 m3 m4 n1 n2 n3 n4;generalize ts[k]=t at *;generalize us[k]=u at *;have hk63:(k:Int) < (ts.length:Nat):=by omega
    have hk0:(0:Int)<=(k:Int):=by omega
    have HBY:=hI (fun a b:Obj=>(((Below.refl wr.1.size wr).alloc (Nat.le_refl _) a).alloc (by simp) b).drew);have HBX:=hI (fun a b:Obj=>HBB.o.trans ((HBY.o a b).mono HBB.o.size));have HN0:=hI (fun a b:Obj=>(((Below.refl (wr.1.size+1) (wr.alloc a)).alloc (by simp) b).drew.block wr.1.size (by omega)).trans (vL wr a));have HN1:=hI (fun a b:Obj=>(show((wr.alloc a).alloc b).drew.1[wr.1.size+1]? = some b by have:=vL (wr.alloc a) b;rw[World.size_alloc]at this;exact this));obtain⟨op,l,co,tg,es,fn,th,el⟩:=t;obtain⟨op',l',co',tg',es',fn',th',el'⟩:=u;have hsv:qKu (.mk op l co tg es fn th el) (.mk op' l' co' tg' es' fn' th' el')=(op == op' && (l == l' && (co == co' && (fn == fn' && (yO tg tg' && (yO es es' && (yA th th' && yA el el'))))))):=rfl;have HSV:=hI hsv;clear hsv;simp only[Sx.op,Sx.line,Sx.col,Sx.target,Sx.exprs,Sx.fn,Sx.thn,Sx.els]at k0 k1 k2 k3 k4 k5 k6 k7 j0 j1 j2 j3 j4 j5 j6 j7 E1 E2 E3 E4;generalize yO tg tg'=g1 at *;generalize yO es es'=g2 at *;generalize yA th th'=g3 at *;generalize yA el el'=g4 at *;go_wp2_with fail
    go_region
    all_goals
     clear k0 k1 k2 k3 k4 k5 k6 k7 j0 j1 j2 j3 j4 j5 j6 j7;by_cases e0:op=op'
     case neg =>
      go_wp2
      go_ret;exact⟨by rw[<-HS.o,HST.o,HSV.o];simp[e0],HBX.o _ _⟩
     case pos =>
     subst e0;by_cases e1:l=l'
     case neg =>
      go_wp2
      go_ret;exact⟨by rw[<-HS.o,HST.o,HSV.o];simp[e1],HBX.o _ _⟩
     case pos =>
     subst e1;by_cases e2:co=co'
     case neg =>
      go_wp2
      go_ret;exact⟨by rw[<-HS.o,HST.o,HSV.o];simp[e2],HBX.o _ _⟩
     case pos =>
     subst e2;by_cases e3:fn=fn'
     case neg =>
      go_wp2
      go_ret;exact⟨by rw[<-HS.o,HST.o,HSV.o];simp[e3],HBX.o _ _⟩
     case pos =>
     subst e3;go_wp2_with fail
     refine(E1.o _ (HBY.o _ _)).mono ?_;rintro e w3 ⟨rfl,hb3⟩;have B3:=hI ((HBY.o _ _).trans (hb3.mono (HBY.o _ _).size));have M3:=hI ((hb3.block wr.1.size (by simp;omega)).trans (HN0.o _ _));have P3:=hI ((hb3.block (wr.1.size+1) (by simp)).trans (HN1.o _ _));clear hb3;cases g1;case false =>
      go_wp2
      go_ret;exact⟨by rw[<-HS.o,HST.o,HSV.o];simp,HBB.o.trans (B3.o.mono HBB.o.size)⟩
     case true =>
     obtain⟨k0,k1,k2,k3,k4,k5,k6,k7⟩:=qVx M3.o;obtain⟨j0,j1,j2,j3,j4,j5,j6,j7⟩:=qVx P3.o;have hlj:=qJ j0;have hlk:=qJ k0;simp only at hlj hlk;go_wp2_with fail
     refine(E2.o _ B3.o).mono ?_;rintro e w4 ⟨rfl,hb4⟩;have B4:=hI (B3.o.trans (hb4.mono B3.o.size));have M4:=hI ((hb4.block _ hlk).trans M3.o);have P4:=hI ((hb4.block _ hlj).trans P3.o);clear hb4 k0 k1 k2 k3 k4 k5 k6 k7 j0 j1 j2 j3 j4 j5 j6 j7 hlj hlk M3 P3;cases g2;case false =>
      go_wp2
      go_ret;exact⟨by rw[<-HS.o,HST.o,HSV.o];simp,HBB.o.trans (B4.o.mono HBB.o.size)⟩
     case true =>
     obtain⟨k0,k1,k2,k3,k4,k5,k6,k7⟩:=qVx M4.o;obtain⟨j0,j1,j2,j3,j4,j5,j6,j7⟩:=qVx P4.o;have hlj:=qJ j0;have hlk:=qJ k0;simp only at hlj hlk;go_wp2_with fail
     refine(E3.o _ B4.o).mono ?_;rintro e w5 ⟨rfl,hb5⟩;have B5:=hI (B4.o.trans (hb5.mono B4.o.size));have M5:=hI ((hb5.block _ hlk).trans M4.o);have P5:=hI ((hb5.block _ hlj).trans P4.o);clear hb5 k0 k1 k2 k3 k4 k5 k6 k7 j0 j1 j2 j3 j4 j5 j6 j7 hlj hlk M4 P4;cases g3;case false =>
      go_wp2
      go_ret;exact⟨by rw[<-HS.o,HST.o,HSV.o];simp,HBB.o.trans (B5.o.mono HBB.o.size)⟩
     case true =>
     obtain⟨k0,k1,k2,k3,k4,k5,k6,k7⟩:=qVx M5.o;obtain⟨j0,j1,j2,j3,j4,j5,j6,j7⟩:=qVx P5.o;have hlj:=qJ j0;have hlk:=qJ k0;simp only at hlj hlk;go_wp2_with fail
     refine(E4.o _ B5.o).mono ?_;rintro e w6 ⟨rfl,hb6⟩;have B6:=hI (B5.o.trans (hb6.mono B5.o.size));have M6:=hI ((hb6.block _ hlk).trans M5.o);have P6:=hI ((hb6.block _ hlj).trans P5.o);clear hb6 k0 k1 k2 k3 k4 k5 k6 k7 j0 j1 j2 j3 j4 j5 j6 j7 hlj hlk M5 P5;cases g4
     ·go_wp2
      go_ret;exact⟨by rw[<-HS.o,HST.o,HSV.o];simp,HBB.o.trans (B6.o.mono HBB.o.size)⟩
     ·go_wp2
      go_roundw
      case rel=>exact⟨k+1,by omega,by go_num,by rw[<-HS.o,HST.o,HSV.o];simp,HBB.o.trans (B6.o.mono HBB.o.size)⟩
      case measure=>simp[intOf];omega
   ·have hend:=qLx hlt HL.o;go_wp2
    go_ret;refine⟨?_,HBB.o⟩;rw[<-HS.o,hend];rfl
 ·have hlb:(((ts.length:Nat):Int) != ((us.length:Nat):Int))=true:=by simp;omega
  have hs:yA ts us=false:=by
   cases h:yA ts us
   ·rfl
   ·exact absurd (qYh ts us h) hl
  rw[hs];clear hl;go_enter func33,ntmps33
  go_wp2
  go_ret;exact⟨rfl,Below.refl _ _⟩
theorem rsameS_any(B:Nat):∀ (n:Nat) (ts:List Sx),SizeOf.sizeOf ts < n->SlS B ts:=by
 intro n;induction n with
 | zero=>intro ts h;omega
 | succ n ih =>
  intro ts h;refine qLL B ts fun t ht=>?_
  have h1:=List.sizeOf_lt_of_mem ht;obtain⟨op,l,c,tg,es,fn,th,el⟩:=t;simp only[Sx.mk.sizeOf_spec]at h1;exact⟨ih th (by omega),ih el (by omega)⟩
theorem qLI{w:World}{g T:Nat}{a0 a1 a2 a3 a4 a5:Value}(h:w.1[g]? = some (.cells #[a0,a1,a2,a3,a4,a5] T)) :
 w.cell? ⟨g,0,none⟩=some a0/\w.cell? ⟨g,1,none⟩=some a1/\w.cell? ⟨g,2,none⟩=some a2/\w.cell? ⟨g,3,none⟩=some a3/\w.cell? ⟨g,4,none⟩=some a4/\w.cell? ⟨g,5,none⟩=some a5:=by
 simp[World.cell?,h]
theorem qUF{w:World}{g T:Nat}{a0 a1 a2:Value}(h:w.1[g]? = some (.cells #[a0,a1,a2] T)) :
 w.cell? ⟨g,0,none⟩=some a0/\w.cell? ⟨g,1,none⟩=some a1/\w.cell? ⟨g,2,none⟩=some a2:=by
 simp[World.cell?,h]
theorem qU3(B:Nat)(a b:qQ2)(q1 q2 p1 p2:Option Addr)(c1 c2 d1 d2:Nat)(w:World)(hB:B<=w.1.size)(a1:qYC B w a.vars q1)(a2:qVt B w a.body q2)(b1:qYC B w b.vars p1)(b2:qVt B w b.body p2)(m1:a.vars.length<=64)(m2:a.body.length<=maxLen)(n1:b.vars.length<=64)(n2:b.body.length<=maxLen) :
 Calls prog 31 #[fdV a ⟨.slice q1 a.vars.length c1, .slice q2 a.body.length c2⟩,fdV b ⟨.slice p1 b.vars.length d1, .slice p2 b.body.length d2⟩] w (xM (qYf a b) w):=by
 obtain⟨nm,ty,pa,vs,bd⟩:=a;obtain⟨nm',ty',pa',vs',bd'⟩:=b;simp only at *;have hmx:(64:Nat)<=maxLen:=by unfold maxLen;omega
 have h2:=(bal (Below.refl w.1.size w) (.cells #[.string ⟨nm.toArray⟩, .int .i64 ty.1, .bool ty.2, .int .i64 pa, .slice q1 vs.length c1, .slice q2 bd.length c2] 40)).trans ((bal (Below.refl _ (w.alloc (.cells #[.string ⟨nm.toArray⟩, .int .i64 ty.1, .bool ty.2, .int .i64 pa, .slice q1 vs.length c1, .slice q2 bd.length c2] 40))) (.cells #[.string ⟨nm'.toArray⟩, .int .i64 ty'.1, .bool ty'.2, .int .i64 pa', .slice p1 vs'.length d1, .slice p2 bd'.length d2] 40)).mono (by simp));have N0:=hI ((bal (Below.refl _ (w.alloc (.cells #[.string ⟨nm.toArray⟩, .int .i64 ty.1, .bool ty.2, .int .i64 pa, .slice q1 vs.length c1, .slice q2 bd.length c2] 40))) (.cells #[.string ⟨nm'.toArray⟩, .int .i64 ty'.1, .bool ty'.2, .int .i64 pa', .slice p1 vs'.length d1, .slice p2 bd'.length d2] 40)).block w.1.size (by simp) |>.trans (vL w (.cells #[.string ⟨nm.toArray⟩, .int .i64 ty.1, .bool ty.2, .int .i64 pa, .slice q1 vs.length c1, .slice q2 bd.length c2] 40)));have N1:=vL (w.alloc (.cells #[.string ⟨nm.toArray⟩, .int .i64 ty.1, .bool ty.2, .int .i64 pa, .slice q1 vs.length c1, .slice q2 bd.length c2] 40)) (.cells #[.string ⟨nm'.toArray⟩, .int .i64 ty'.1, .bool ty'.2, .int .i64 pa', .slice p1 vs'.length d1, .slice p2 bd'.length d2] 40);rw[World.size_alloc]at N1;have N1:=hI N1;have E1:=hI (fun(W:World) (h:Below w.1.size w W)=>qWF B vs vs' q1 p1 c1 d1 W (Nat.le_trans hB h.size) (a1.keep (h.mono hB)) (b1.keep (h.mono hB)) (Nat.le_trans m1 hmx) (Nat.le_trans n1 hmx));have E2:=hI (fun(W:World) (h:Below w.1.size w W)=>qYN B bd bd' q2 p2 c2 d2 W (Nat.le_trans hB h.size) (a2.keep (h.mono hB)) (b2.keep (h.mono hB)) m2 n2);have H2:=hI h2;have hst:qYf ⟨nm,ty,pa,vs,bd⟩ ⟨nm',ty',pa',vs',bd'⟩=(nm == nm' && ((ty.1 == ty'.1 && ty.2 == ty'.2) && (pa == pa' && (kC vs vs' && yA bd bd')))):=rfl;rw[hst];clear h2 a1 a2 b1 b2 hst hmx;generalize kC vs vs'=g1 at *;generalize yA bd bd'=g2 at *;unfold xM fdV at *;simp only at *;cases e0:(nm == nm');case false =>
  go_enter func31,ntmps31
  go_wp2
  go_ret;exact⟨rfl,H2.o⟩
 case true =>
 obtain⟨t1,t2⟩:=ty;obtain⟨t1',t2'⟩:=ty';simp only at *;by_cases a1:t1=t1'
 case neg =>
  rw[show(t1 == t1')=false by simpa using a1];go_enter func31,ntmps31
  go_wp2
  go_ret;exact⟨rfl,H2.o⟩
 case pos =>
 subst a1;by_cases a2:t2=t2'
 case neg =>
  rw[show(t1 == t1)=true by simp,show(t2 == t2')=false by simpa using a2];go_enter func31,ntmps31
  go_wp2
  go_ret;exact⟨rfl,H2.o⟩
 case pos =>
 subst a2;rw[show(t1 == t1)=true by simp,show(t2 == t2)=true by simp];cases e2:(pa == pa');case false =>
  go_enter func31,ntmps31
  go_wp2
  go_ret;exact⟨rfl,H2.o⟩
 case true =>
 have C1:=hI (E1.o _ H2.o);clear E1;go_enter func31,ntmps31
 go_wp2_with fail
 refine(C1.o).mono ?_;rintro e w3 ⟨rfl,hb3⟩;have HB3:=hI (H2.o.trans (hb3.mono H2.o.size));have M0:=hI ((hb3.block _ (by simp;omega)).trans N0.o);have M1:=hI ((hb3.block _ (by simp)).trans N1.o);have D2:=hI (E2.o w3 HB3.o);clear hb3 C1 E2 N0 N1 H2;cases g1;case false =>
  go_wp2
  go_ret;exact⟨rfl,HB3.o⟩
 case true =>
 obtain⟨k0,k1,k2,k3,k4,k5⟩:=qLI M0.o;obtain⟨j0,j1,j2,j3,j4,j5⟩:=qLI M1.o;have hl3:=qJ j0;simp only at hl3;go_wp2_with fail
 refine(D2.o).mono ?_;rintro e w4 ⟨rfl,hb4⟩;have HB4:=hI (HB3.o.trans (hb4.mono HB3.o.size));go_wp2
 go_ret;exact⟨rfl,HB4.o⟩
def AlFRel(ts us:List qQ2)(w:World)(i:Value)(wr:World):Prop :=
 ∃ k:Nat,k<=ts.length/\i=.int .i64 k/\wS (ts.drop k) (us.drop k)=wS ts us/\Below w.1.size w wr
theorem qLM(B:Nat)(ts us:List qQ2)(q q':Option Addr)(c c':Nat)(w:World)(hB:B<=w.1.size)(h1:qLB B w ts q)(h2:qLB B w us q')(hn1:ts.length<=maxLen)(hn2:us.length<=maxLen) :
 Calls prog 30 #[.slice q ts.length c, .slice q' us.length c', .func (.func 31) #[] #[]] w (xM (wS ts us) w):=by
 have H1:=hI h1;have H2:=hI h2;have hcf:∀ (args:Array Value) (w:World),(callFunc 31 args).run prog w=.ok (.enter 31 args) w:=fun _ _=>rfl
 unfold maxLen at hn1 hn2;clear h1 h2;unfold xM;by_cases hl:ts.length=us.length
 ·have hlb:(((ts.length:Nat):Int) != ((us.length:Nat):Int))=false:=by simp[hl]
  rw[<-hl];rw[<-hl]at hlb hn2;have HL:=hI hl;clear hl;go_enter func30,ntmps30
  go_wp2_with fail
  go_loopw [15] (fun i wr=>AlFRel ts us w i wr) (fun i _=>ts.length - (intOf i).toNat)
  case atStart=>exact⟨0,Nat.zero_le _,rfl,by simp,Below.refl _ _⟩
  case round =>
   obtain⟨k,hk,rfl,hs,hb⟩:=hrel;have HS:=hI hs;have HBB:=hI hb;clear hs hb;by_cases hlt:k < ts.length
   ·have hlt':k < us.length:=by have:=HL.o;omega
    obtain⟨g,rfl,hgB,hgr,hR1⟩:=(H1.o.keep (HBB.o.mono hB)).resolve_left (fun e=>by rw[e]at hlt;simp at hlt);obtain⟨g',rfl,hgB',hgr',hR2⟩:=(H2.o.keep (HBB.o.mono hB)).resolve_left (fun e=>by rw[e]at hlt';simp at hlt');have hbs:B<=wr.1.size:=by have:=HBB.o.size;omega
    obtain⟨q1,c1,q2,c2,C1,va,na,ba,ma⟩:=hR1 k hlt;obtain⟨p1,d1,p2,d2,C2,vb,nb,bb,mb⟩:=hR2 k hlt';have⟨k0,k1,k2,k3,k4,k5,_⟩:=C1.a;have⟨j0,j1,j2,j3,j4,j5,_⟩:=C2.a;have HC:=hI (fun(W:World) (h:Below wr.1.size wr W)=>qU3 B ts[k] us[k] q1 q2 p1 p2 c1 c2 d1 d2 W (Nat.le_trans hbs h.size) (va.keep (h.mono hbs)) (ba.keep (h.mono hbs)) (vb.keep (h.mono hbs)) (bb.keep (h.mono hbs)) na ma nb mb);have hstep:=qLF hlt hlt';have HST:=hI hstep;clear hstep;clear C1 C2 hR1 hR2 va na ba ma vb nb bb mb;generalize ts[k]=t at *;generalize us[k]=u at *;unfold fdV at HC;simp only at k4 k5 j4 j5;generalize hst:qYf t u=b at *;have hk63:(k:Int) < (ts.length:Nat):=by omega
    have hk0:(0:Int)<=(k:Int):=by omega
    go_wp2_with fail
    refine wRg (S:=fun w'=>Below wr.1.size wr w') 9 ?_;refine wTk 0 18 (.func (.func 31) #[] #[]) ?_ (bD wr) ?_
    ·intro _ y;go_simp
    refine wTk 1 19 (.slice (some ⟨g,0,none⟩) ts.length c) ?_ (bD wr) ?_
    ·intro _ y;go_simp
    refine wTk 2 20 (.int .i64 k) ?_ (bD wr) ?_
    ·intro _ y;go_simp
    refine wTk 3 21 (.pointer (some ⟨g,k * 6,none⟩)) ?_ (bD wr) ?_
    ·intro _ y;go_simp
    refine wTk 4 22 (.agg #[.string ⟨t.name.toArray⟩, .int .i64 t.t.1, .bool t.t.2, .int .i64 t.params, .slice q1 t.vars.length c1, .slice q2 t.body.length c2]) ?_ (bD wr) ?_
    ·intro _ y;obtain⟨k0,k1,k2,k3,k4,k5⟩:=kP6 y k0 k1 k2 k3 k4 k5;go_simp
    refine wTk 5 23 (.slice (some ⟨g',0,none⟩) ts.length c') ?_ (bD wr) ?_
    ·intro _ y;go_simp
    refine wTk 6 24 (.int .i64 k) ?_ (bD wr) ?_
    ·intro _ y;go_simp
    refine wTk 7 25 (.pointer (some ⟨g',k * 6,none⟩)) ?_ (bD wr) ?_
    ·intro _ y;go_simp
    refine wTk 8 26 (.agg #[.string ⟨u.name.toArray⟩, .int .i64 u.t.1, .bool u.t.2, .int .i64 u.params, .slice p1 u.vars.length d1, .slice p2 u.body.length d2]) ?_ (bD wr) ?_
    ·intro _ y;obtain⟨j0,j1,j2,j3,j4,j5⟩:=kP6 y j0 j1 j2 j3 j4 j5;go_simp
    refine wOn 9 fun K hK=>?_
    go_simp;refine(HC.o _ (Below.refl _ _).drew).mono ?_;rintro e w3 ⟨rfl,hb3⟩;have hb9:=zF hb3;have HB9:=hI hb9;clear hb3;refine kD hK ?_;clear hK K;refine wOn 10 fun K hK=>?_
    go_simp;refine kD hK ?_;clear hK K;refine wDn ?_ _;clear hb9;cases b
    ·go_wp2
     go_ret;refine⟨?_,HBB.o.trans (HB9.o.mono HBB.o.size)⟩;rw[<-HS.o,HST.o];rfl
    ·go_wp2
     go_roundw
     case rel=>exact⟨k+1,by omega,by go_num,by rw[<-HS.o,HST.o,bT],HBB.o.trans (HB9.o.mono HBB.o.size)⟩
     case measure=>simp[intOf];omega
   ·have hend:=qLu hlt HL.o;go_wp2
    go_ret;refine⟨?_,HBB.o⟩;rw[<-HS.o,hend];rfl
 ·have hlb:(((ts.length:Nat):Int) != ((us.length:Nat):Int))=true:=by simp;omega
  have hs:wS ts us=false:=by
   cases h:wS ts us
   ·rfl
   ·exact absurd (qYg ts us h) hl
  rw[hs];clear hl;go_enter func30,ntmps30
  go_wp2
  go_ret;exact⟨rfl,Below.refl _ _⟩
theorem qLp(B:Nat)(p p':PrD)(gq fq gq' fq':Option Addr)(gc fc gc' fc':Nat)(w:World)(hB:B<=w.1.size)(ha:qPb B p gq fq w)(hb:qPb B p' gq' fq' w) :
 Calls prog 13 #[prV p gq fq gc fc,prV p' gq' fq' gc' fc'] w (xM (qLv p p') w):=by
 have hmx:(64:Nat)<=maxLen:=by unfold maxLen;omega
 have h2:=(bal (Below.refl w.1.size w) (.cells #[.slice gq p.globals.length gc, .slice fq p.funcs.length fc, .int .i64 p.main] 30)).trans ((bal (Below.refl _ (w.alloc (.cells #[.slice gq p.globals.length gc, .slice fq p.funcs.length fc, .int .i64 p.main] 30))) (.cells #[.slice gq' p'.globals.length gc', .slice fq' p'.funcs.length fc', .int .i64 p'.main] 30)).mono (by simp));have N0:=hI ((bal (Below.refl _ (w.alloc (.cells #[.slice gq p.globals.length gc, .slice fq p.funcs.length fc, .int .i64 p.main] 30))) (.cells #[.slice gq' p'.globals.length gc', .slice fq' p'.funcs.length fc', .int .i64 p'.main] 30)).block w.1.size (by simp) |>.trans (vL w (.cells #[.slice gq p.globals.length gc, .slice fq p.funcs.length fc, .int .i64 p.main] 30)));have N1:=vL (w.alloc (.cells #[.slice gq p.globals.length gc, .slice fq p.funcs.length fc, .int .i64 p.main] 30)) (.cells #[.slice gq' p'.globals.length gc', .slice fq' p'.funcs.length fc', .int .i64 p'.main] 30);rw[World.size_alloc]at N1;have N1:=hI N1;have E1:=hI (fun(W:World) (h:Below w.1.size w W)=>qWF B p.globals p'.globals gq gq' gc gc' W (Nat.le_trans hB h.size) (ha.gs.keep (h.mono hB)) (hb.gs.keep (h.mono hB)) (Nat.le_trans ha.gl hmx) (Nat.le_trans hb.gl hmx));have E2:=hI (fun(W:World) (h:Below w.1.size w W)=>qLM B p.funcs p'.funcs fq fq' fc fc' W (Nat.le_trans hB h.size) (ha.fs.keep (h.mono hB)) (hb.fs.keep (h.mono hB)) (by have:=ha.fl;omega) (by have:=hb.fl;omega));have H2:=hI h2;have hst:qLv p p'=(p.main == p'.main && (kC p.globals p'.globals && wS p.funcs p'.funcs)):=rfl;rw[hst];clear h2 ha hb hst hmx;obtain⟨pg,pf,pm⟩:=p;obtain⟨pg',pf',pm'⟩:=p';unfold xM prV at *;simp only at *;generalize kC pg pg'=g1 at *;generalize wS pf pf'=g2 at *;cases e1:(pm == pm');case false =>
  go_enter func13,ntmps13
  go_wp2
  go_ret;exact⟨rfl,H2.o⟩
 case true =>
 have C1:=hI (E1.o _ H2.o);clear E1;go_enter func13,ntmps13
 go_wp2_with fail
 refine(C1.o).mono ?_;rintro e w3 ⟨rfl,hb3⟩;have HB3:=hI (H2.o.trans (hb3.mono H2.o.size));have M0:=hI ((hb3.block _ (by simp;omega)).trans N0.o);have M1:=hI ((hb3.block _ (by simp)).trans N1.o);have D2:=hI (E2.o w3 HB3.o);clear hb3 C1 E2 N0 N1 H2;cases g1;case false =>
  go_wp2
  go_ret;exact⟨rfl,HB3.o⟩
 case true =>
 obtain⟨k0,k1,k2⟩:=qUF M0.o;obtain⟨j0,j1,j2⟩:=qUF M1.o;have hl3:=qJ j0;simp only at hl3;go_wp2_with fail
 refine(D2.o).mono ?_;rintro e w4 ⟨rfl,hb4⟩;have HB4:=hI (HB3.o.trans (hb4.mono HB3.o.size));go_wp2
 go_ret;exact⟨rfl,HB4.o⟩
theorem rsame_prog(B:Nat)(p p':PrD)(gq fq gq' fq':Option Addr)(gc fc gc' fc':Nat)(w:World)(hB:B<=w.1.size)(ha:qPb B p gq fq w)(hb:qPb B p' gq' fq' w) :
 Calls prog 14 #[prV p gq fq gc fc,prV p' gq' fq' gc' fc'] w (xM (qLv p p') w):=by
 have hmx:(64:Nat)<=maxLen:=by unfold maxLen;omega
 have A1:=hI ha.gs;have A2:=hI hb.gs;have F1:=hI ha.fs;have F2:=hI hb.fs;have hg1:=ha.gl;have hg2:=hb.gl;have hf1:=ha.fl;have hf2:=hb.fl;clear ha hb;obtain⟨pg,pf,pm⟩:=p;obtain⟨pg',pf',pm'⟩:=p';simp only at A1 A2 F1 F2 hg1 hg2 hf1 hf2;have h2:=(bal (Below.refl w.1.size w) (.cells #[.slice gq pg.length gc, .slice fq pf.length fc, .int .i64 pm] 30)).trans ((bal (Below.refl _ (w.alloc (.cells #[.slice gq pg.length gc, .slice fq pf.length fc, .int .i64 pm] 30))) (.cells #[.slice gq' pg'.length gc', .slice fq' pf'.length fc', .int .i64 pm'] 30)).mono (by simp));have N0:=hI ((bal (Below.refl _ (w.alloc (.cells #[.slice gq pg.length gc, .slice fq pf.length fc, .int .i64 pm] 30))) (.cells #[.slice gq' pg'.length gc', .slice fq' pf'.length fc', .int .i64 pm'] 30)).block w.1.size (by simp) |>.trans (vL w (.cells #[.slice gq pg.length gc, .slice fq pf.length fc, .int .i64 pm] 30)));have N1:=vL (w.alloc (.cells #[.slice gq pg.length gc, .slice fq pf.length fc, .int .i64 pm] 30)) (.cells #[.slice gq' pg'.length gc', .slice fq' pf'.length fc', .int .i64 pm'] 30);rw[World.size_alloc]at N1;have N1:=hI N1;have HV:=hI (fun(W:World) (h:Below w.1.size w W)=>qLo B pg pg' gq gq' gc gc' W (Nat.le_trans hB h.size) (A1.o.keep (h.mono hB)) (A2.o.keep (h.mono hB)) (Nat.le_trans hg1 hmx) (Nat.le_trans hg2 hmx));have H2:=hI h2;have hs2:((w.alloc (.cells #[.slice gq pg.length gc, .slice fq pf.length fc, .int .i64 pm] 30)).alloc (.cells #[.slice gq' pg'.length gc', .slice fq' pf'.length fc', .int .i64 pm'] 30)).1.size=w.1.size+1+1:=by simp
 have hst:qLv ⟨pg,pf,pm⟩ ⟨pg',pf',pm'⟩=(pm == pm' && (kC pg pg' && wS pf pf')):=rfl;rw[hst];clear h2 hst;unfold xM prV at *;simp only at *;by_cases e1:pm=pm'
 case neg =>
  rw[show(pm == pm')=false by simpa using e1];go_enter func14,ntmps14
  go_wp2
  go_ret;exact⟨rfl,H2.o⟩
 case pos =>
 subst e1;rw[show(pm == pm)=true by simp];by_cases hl:pf.length=pf'.length
 case neg =>
  have hlb:(((pf.length:Nat):Int) != ((pf'.length:Nat):Int))=true:=by simp;omega
  have hs:wS pf pf'=false:=by
   cases h:wS pf pf'
   ·rfl
   ·exact absurd (qYg pf pf' h) hl
  rw[hs];clear hl;go_enter func14,ntmps14
  go_wp2
  go_ret;exact⟨by simp,H2.o⟩
 case pos =>
 have hlb:(((pf.length:Nat):Int) != ((pf.length:Nat):Int))=false:=by simp
 have HL:=hI hl;have C1:=hI (HV.o _ H2.o);rw[<-hl]at hf2 N1 N0 C1 H2 hs2 ⊢;clear HV hl;generalize kC pg pg'=g1 at *;go_enter func14,ntmps14
 go_wp2_with fail
 refine(C1.o).mono ?_;rintro e w3 ⟨rfl,hb3⟩;have HB3:=hI (H2.o.trans (hb3.mono H2.o.size));have M0:=hI ((hb3.block _ (by omega)).trans N0.o);have M1:=hI ((hb3.block _ (by omega)).trans N1.o);clear hb3 C1 N0 N1 H2;cases g1;case false =>
  go_wp2
  go_ret;exact⟨by simp,HB3.o⟩
 case true =>
 have hres:(true && (true && wS pf pf'))=wS pf pf':=by simp
 have hsz3:w.1.size+1 < w3.1.size:=by
  obtain⟨j0,_⟩:=qUF M1.o;exact qJ j0
 go_wp2_with fail
 go_loopw [5] (fun i wr=>AlFRel pf pf' w3 i wr) (fun i _=>pf.length - (intOf i).toNat)
 case atStart=>exact⟨0,Nat.zero_le _,rfl,by simp,Below.refl _ _⟩
 case round =>
  obtain⟨k,hk,rfl,hs,hb⟩:=hrel;have HS:=hI hs;have HBB:=hI (HB3.o.trans (hb.mono HB3.o.size));have HBC:=hI hb;obtain⟨m0,m1,m2⟩:=qUF ((hb.block _ (by omega)).trans M0.o);obtain⟨r0,r1,r2⟩:=qUF ((hb.block _ (by omega)).trans M1.o);have hszr:w.1.size+1 < wr.1.size:=by have:=hb.size;omega
  clear hs hb;by_cases hlt:k < pf.length
  ·have hlt':k < pf'.length:=by have:=HL.o;omega
   obtain⟨g,rfl,hgB,hgr,hR1⟩:=(F1.o.keep (HBB.o.mono hB)).resolve_left (fun e=>by rw[e]at hlt;simp at hlt);obtain⟨g',rfl,hgB',hgr',hR2⟩:=(F2.o.keep (HBB.o.mono hB)).resolve_left (fun e=>by rw[e]at hlt';simp at hlt');obtain⟨q1,c1,q2,c2,C1,va,na,ba,ma⟩:=hR1 k hlt;obtain⟨p1,d1,p2,d2,C2,vb,nb,bb,mb⟩:=hR2 k hlt';have⟨k0,k1,k2,k3,k4,k5,_⟩:=C1.a;have⟨j0,j1,j2,j3,j4,j5,_⟩:=C2.a;have hbs:B<=wr.1.size:=by have:=HBB.o.size;omega
   have E1:=hI (fun(W:World) (h:Below wr.1.size wr W)=>qLo B pf[k].vars pf'[k].vars q1 p1 c1 d1 W (Nat.le_trans hbs h.size) (va.keep (h.mono hbs)) (vb.keep (h.mono hbs)) (Nat.le_trans na hmx) (Nat.le_trans nb hmx));have E2:=hI (fun(W:World) (h:Below wr.1.size wr W)=>rsameS_any B _ pf[k].body (Nat.lt_succ_self _) pf'[k].body q2 p2 c2 d2 W (Nat.le_trans hbs h.size) (ba.keep (h.mono hbs)) (bb.keep (h.mono hbs)) ma mb);have hstep:=qLF hlt hlt';have HST:=hI hstep;clear hstep C1 C2 hR1 hR2 va vb na nb ba bb ma mb;generalize pf[k]=t at *;generalize pf'[k]=u at *;have hk63:(k:Int) < (pf.length:Nat):=by omega
   have hk0:(0:Int)<=(k:Int):=by omega
   have HBY:=hI (fun a b:Obj=>(((Below.refl wr.1.size wr).alloc (Nat.le_refl _) a).alloc (by simp) b).drew);have HBX:=hI (fun a b:Obj=>HBB.o.trans ((HBY.o a b).mono HBB.o.size));have HBZ:=hI (fun a b:Obj=>HBC.o.trans ((HBY.o a b).mono HBC.o.size));have HN0:=hI (fun a b:Obj=>(((Below.refl (wr.1.size+1) (wr.alloc a)).alloc (by simp) b).drew.block wr.1.size (by omega)).trans (vL wr a));have HN1:=hI (fun a b:Obj=>(show((wr.alloc a).alloc b).drew.1[wr.1.size+1]? = some b by have:=vL (wr.alloc a) b;rw[World.size_alloc]at this;exact this));obtain⟨nm,⟨t1,t2⟩,pa,vs,bd⟩:=t;obtain⟨nm',⟨t1',t2'⟩,pa',vs',bd'⟩:=u;have hsv:qYf ⟨nm,(t1,t2),pa,vs,bd⟩ ⟨nm',(t1',t2'),pa',vs',bd'⟩=(nm == nm' && ((t1 == t1' && t2 == t2') && (pa == pa' && (kC vs vs' && yA bd bd')))):=rfl;have HSV:=hI hsv;clear hsv;simp only at k0 k1 k2 k3 k4 k5 j0 j1 j2 j3 j4 j5 E1 E2;generalize kC vs vs'=g1 at *;generalize yA bd bd'=g2 at *;generalize hb1:w.1.size+1=b1 at r0 r1 r2 ⊢;generalize hb0:w.1.size=b0 at m0 m1 m2 ⊢;have hne1:¬b0=wr.1.size:=by omega
   have hne2:¬b1=wr.1.size:=by omega
   have hne3:¬b0=wr.1.size+1:=by omega
   have hne4:¬b1=wr.1.size+1:=by omega
   have hlt0:b0 < wr.1.size:=by omega
   have hlt1:b1 < wr.1.size:=by omega
   go_wp2_with fail
   go_region
   all_goals
    clear hne1 hne2 hne3 hne4 hlt0 hlt1 k0 k1 k2 k3 k4 k5 j0 j1 j2 j3 j4 j5 m0 m1 m2 r0 r1 r2;by_cases e0:nm=nm'
    case neg =>
     go_wp2
     go_ret;exact⟨by rw[hres,<-HS.o,HST.o,HSV.o];simp[e0],HBX.o _ _⟩
    case pos =>
    subst e0;by_cases e1:t1=t1'
    case neg =>
     go_wp2
     go_ret;exact⟨by rw[hres,<-HS.o,HST.o,HSV.o];simp[e1],HBX.o _ _⟩
    case pos =>
    subst e1;by_cases e2:t2=t2'
    case neg =>
     go_wp2
     go_ret;exact⟨by rw[hres,<-HS.o,HST.o,HSV.o];simp[e2],HBX.o _ _⟩
    case pos =>
    subst e2;by_cases e3:pa=pa'
    case neg =>
     go_wp2
     go_ret;exact⟨by rw[hres,<-HS.o,HST.o,HSV.o];simp[e3],HBX.o _ _⟩
    case pos =>
    subst e3;go_wp2_with fail
    refine(E1.o _ (HBY.o _ _)).mono ?_;rintro e w4 ⟨rfl,hb4⟩;have B4:=hI ((HBY.o _ _).trans (hb4.mono (HBY.o _ _).size));have M4:=hI ((hb4.block wr.1.size (by simp;omega)).trans (HN0.o _ _));have P4:=hI ((hb4.block (wr.1.size+1) (by simp)).trans (HN1.o _ _));clear hb4;cases g1;case false =>
     go_wp2
     go_ret;exact⟨by rw[hres,<-HS.o,HST.o,HSV.o];simp,HBB.o.trans (B4.o.mono HBB.o.size)⟩
    case true =>
    obtain⟨k0,k1,k2,k3,k4,k5⟩:=qLI M4.o;obtain⟨j0,j1,j2,j3,j4,j5⟩:=qLI P4.o;have hlj:=qJ j0;have hlk:=qJ k0;simp only at hlj hlk;go_wp2_with fail
    refine(E2.o _ B4.o).mono ?_;rintro e w5 ⟨rfl,hb5⟩;have B5:=hI (B4.o.trans (hb5.mono B4.o.size));clear hb5 k0 k1 k2 k3 k4 k5 j0 j1 j2 j3 j4 j5 hlj hlk M4 P4;cases g2
    ·go_wp2
     go_ret;exact⟨by rw[hres,<-HS.o,HST.o,HSV.o];simp,HBB.o.trans (B5.o.mono HBB.o.size)⟩
    ·go_wp2
     go_roundw
     case rel=>exact⟨k+1,by omega,by go_num,by rw[<-HS.o,HST.o,HSV.o];simp,HBC.o.trans (B5.o.mono HBC.o.size)⟩
     case measure=>simp[intOf];omega
  ·have hend:=qLu hlt HL.o;go_wp2
   go_ret;refine⟨?_,HBB.o⟩;rw[hres,<-HS.o,hend];rfl
def qJF(x:List UInt8)(i:Nat):List qQ2->Int
 | []=>-1
 | f :: r=>if f.name == x then(i:Int)else qJF x (i+1) r
theorem qLJ{x:List UInt8}{fs:List qQ2}{i:Nat}(h:i < fs.length):qJF x i (fs.drop i)=if fs[i].name == x then(i:Int)else qJF x (i+1) (fs.drop (i+1)):=by
 rw[List.drop_eq_getElem_cons h,qJF]
theorem qLC{x:List UInt8}{fs:List qQ2}{i:Nat}(h:¬i < fs.length):qJF x i (fs.drop i)=-1:=by
 rw[List.drop_eq_nil_of_le (by omega),qJF]
def FdRel(x:List UInt8)(fs:List qQ2)(w:World)(i:Value)(wr:World):Prop :=
 ∃ k:Nat,k<=fs.length/\i=.int .i64 k/\qJF x k (fs.drop k)=qJF x 0 fs/\Below w.1.size w wr
theorem qLD(B:Nat)(x:List UInt8)(p:PrD)(gq fq:Option Addr)(gc fc:Nat)(w:World)(hB:B<=w.1.size)(h:qPb B p gq fq w) :
 Calls prog 15 #[prV p gq fq gc fc, .string ⟨x.toArray⟩] w fun e w'=>e=.returned (.int .i64 (qJF x 0 p.funcs))/\Below w.1.size w w':=by
 have hb:=bal (Below.refl w.1.size w) (.cells #[.slice gq p.globals.length gc, .slice fq p.funcs.length fc, .int .i64 p.main] 30);have HF:=hI (h.fs.keep (hb.mono hB));have HL:=hI h.fl;have HB:=hI hb;have hs:(w.alloc (.cells #[.slice gq p.globals.length gc, .slice fq p.funcs.length fc, .int .i64 p.main] 30)).1.size=w.1.size+1:=by simp
 have hlen:=h.fl;clear h hb;unfold prV;obtain⟨pg,pf,pm⟩:=p;simp only at *;go_enter func15,ntmps15
 go_wp2_with fail
 go_loopw [10] (fun i wr=>FdRel x pf (w.alloc (.cells #[.slice gq pg.length gc, .slice fq pf.length fc, .int .i64 pm] 30)) i wr) (fun i _=>pf.length - (intOf i).toNat)
 case atStart=>exact⟨0,Nat.zero_le _,rfl,by simp,Below.refl _ _⟩
 case round =>
  obtain⟨k,hk,rfl,hs1,hb⟩:=hrel;have HS:=hI hs1;have HBB:=hI (HB.o.trans (hb.mono HB.o.size));have HBA:=hI hb;have hF:=HF.o.keep (hb.mono (by omega));clear hs1 hb;by_cases hlt:k < pf.length
  ·obtain⟨g,rfl,hgB,hgr,hR1⟩:=hF.resolve_left (fun e=>by rw[e]at hlt;simp at hlt);obtain⟨q1,c1,q2,c2,C1,_,_,_,_⟩:=hR1 k hlt;have⟨k0,k1,k2,k3,k4,k5,_⟩:=C1.a;have HST:=hI (qLJ (x:=x) hlt);clear C1 hR1;generalize pf[k]=f at *;have HA:=hI (bal (Below.refl wr.1.size wr) (.cells #[.string ⟨f.name.toArray⟩, .int .i64 f.t.1, .bool f.t.2, .int .i64 f.params, .slice q1 f.vars.length c1, .slice q2 f.body.length c2] 40));simp only at k4 k5;cases he:(f.name == x)
   ·go_wp2
    go_roundw
    case rel=>exact⟨k+1,by omega,by go_num,by rw[<-HS.o,HST.o,he];rfl,(HBA.o.trans (HA.o.mono HBA.o.size))⟩
    case measure=>simp[intOf];omega
   ·go_wp2
    go_ret;refine⟨?_,HBB.o.trans (HA.o.mono HBB.o.size)⟩;rw[<-HS.o,HST.o,he];rfl
  ·have hend:=qLC (x:=x) hlt;go_wp2
   go_ret;refine⟨?_,HBB.o⟩;rw[<-HS.o,hend];rfl
theorem cells4{w:World}{g T:Nat}{a0 a1 a2 a3:Value}(h:w.1[g]? = some (.cells #[a0,a1,a2,a3] T)) :
 w.cell? ⟨g,0,none⟩=some a0/\w.cell? ⟨g,1,none⟩=some a1/\w.cell? ⟨g,2,none⟩=some a2/\w.cell? ⟨g,3,none⟩=some a3:=by
 simp[World.cell?,h]
def qJy(acc:Int):List qI->Int
 | []=>acc
 | v :: r=>qJy (IntKind.i64.wrap (acc+IntKind.i64.wrap (v.t.1 * max v.size 1))) r
theorem qME{vs:List qI}{i:Nat}(h:i < vs.length)(acc:Int):qJy acc (vs.drop i)=qJy (IntKind.i64.wrap (acc+IntKind.i64.wrap (vs[i].t.1 * max vs[i].size 1))) (vs.drop (i+1)):=by
 rw[List.drop_eq_getElem_cons h,qJy]
theorem qMr{vs:List qI}{i:Nat}(h:¬i < vs.length)(acc:Int):qJy acc (vs.drop i)=acc:=by
 rw[List.drop_eq_nil_of_le (by omega),qJy]
def BtRel(vs:List qI)(w:World)(a i:Value)(wr:World):Prop :=
 ∃ (k:Nat) (acc:Int),k<=vs.length/\i=.int .i64 k/\a=.int .i64 acc/\qJy acc (vs.drop k)=qJy 0 vs/\Below w.1.size w wr
theorem qMs(B:Nat)(p:PrD)(gq fq:Option Addr)(gc fc:Nat)(w:World)(hB:B<=w.1.size)(h:qPb B p gq fq w) :
 Calls prog 12 #[prV p gq fq gc fc] w fun e w'=>e=.returned (.int .i64 (qJy 0 p.globals))/\Below w.1.size w w':=by
 have hb:=bal (Below.refl w.1.size w) (.cells #[.slice gq p.globals.length gc, .slice fq p.funcs.length fc, .int .i64 p.main] 30);have HF:=hI (h.gs.keep (hb.mono hB));have HB:=hI hb;have hs:(w.alloc (.cells #[.slice gq p.globals.length gc, .slice fq p.funcs.length fc, .int .i64 p.main] 30)).1.size=w.1.size+1:=by simp
 have hlen:=h.gl;clear h hb;unfold prV;obtain⟨pg,pf,pm⟩:=p;simp only at *;go_enter func12,ntmps12
 go_wp2_with fail
 go_loopw [3,9] (fun a i wr=>BtRel pg (w.alloc (.cells #[.slice gq pg.length gc, .slice fq pf.length fc, .int .i64 pm] 30)) a i wr) (fun _ i _=>pg.length - (intOf i).toNat)
 case atStart=>exact⟨0,0,Nat.zero_le _,rfl,rfl,by simp,Below.refl _ _⟩
 case round =>
  obtain⟨k,acc,hk,rfl,rfl,hs1,hb⟩:=hrel;have HS:=hI hs1;have HBB:=hI (HB.o.trans (hb.mono HB.o.size));have HBA:=hI hb;have hF:=HF.o.keep (hb.mono (by omega));clear hs1 hb;by_cases hlt:k < pg.length
  ·obtain⟨g,rfl,hgB,hgr,hR1⟩:=hF.resolve_left (fun e=>by rw[e]at hlt;simp at hlt);have C1:=hR1 k hlt;have⟨k0,k1,k2,k3,_⟩:=C1.a;have HST:=hI (qME hlt acc);clear C1 hR1;generalize pg[k]=v at *;have HA:=hI (bal (Below.refl wr.1.size wr) (.cells #[.string ⟨v.name.toArray⟩, .int .i64 v.t.1, .bool v.t.2, .int .i64 v.size] 42));have hk63:(k:Int) < (pg.length:Nat):=by omega
   have hc:=vL wr (.cells #[.string ⟨v.name.toArray⟩, .int .i64 v.t.1, .bool v.t.2, .int .i64 v.size] 42);obtain⟨v0,v1,v2,v3⟩:=cells4 hc;have hsz:(wr.alloc (.cells #[.string ⟨v.name.toArray⟩, .int .i64 v.t.1, .bool v.t.2, .int .i64 v.size] 42)).1.size=wr.1.size+1:=by simp
   clear hc;go_wp2_with fail
   generalize wr.alloc (.cells #[.string ⟨v.name.toArray⟩, .int .i64 v.t.1, .bool v.t.2, .int .i64 v.size] 42)=Z at *;refine wRg (S:=fun w'=>Below Z.1.size Z w') 7 ?_;refine wTk 0 13 (.int .i64 acc) ?_ (bD Z) ?_
   ·intro _ y;go_simp
   refine wTk 1 14 (.pointer (some ⟨wr.1.size,1,none⟩)) ?_ (bD Z) ?_
   ·intro _ y;go_simp
   refine wTk 2 15 (.pointer (some ⟨wr.1.size,1,none⟩)) ?_ (bD Z) ?_
   ·intro _ y;go_simp
   refine wTk 3 16 (.int .i64 v.t.1) ?_ (bD Z) ?_
   ·intro _ y;have v1:=kP y v1;go_simp
   refine wTk 4 17 (.agg #[.string ⟨v.name.toArray⟩, .int .i64 v.t.1, .bool v.t.2, .int .i64 v.size]) ?_ (bD Z) ?_
   ·intro _ y;obtain⟨v0,v1,v2,v3⟩:=kP4 y v0 v1 v2 v3;go_simp
   refine wOn 5 fun K hK=>?_
   go_simp;refine(qVy _ _ _ _ _).mono ?_;rintro e w3 ⟨rfl,hb3⟩;have hb9:=zF hb3;have HB9:=hI hb9;clear hb3;refine kK hK hb9 ?_;clear hK K;refine wOn 6 fun K hK=>?_
   go_simp;refine kK hK hb9 ?_;clear hK K;refine wOn 7 fun K hK=>?_
   go_simp;refine kD hK ?_;clear hK K;refine wOn 8 fun K hK=>?_
   go_simp;refine kD hK ?_;clear hK K;refine wDn ?_ _;have HBZ:=hI (HBA.o.trans ((HA.o.trans (hb9.mono (by omega))).mono HBA.o.size));clear hb9 v0 v1 v2 v3;go_wp2
   refine⟨⟨k+1,IntKind.i64.wrap (acc+IntKind.i64.wrap (v.t.1 * max v.size 1)),by omega,by go_num,rfl,by rw[<-HS.o,HST.o],HBZ.o⟩,?_⟩;simp[intOf];omega
  ·have hend:=qMr hlt acc;go_wp2
   go_ret;refine⟨?_,HBB.o⟩;rw[<-HS.o,hend];rfl
theorem rfind_prog(B:Nat)(x:List UInt8)(p:PrD)(gq fq:Option Addr)(gc fc:Nat)(w:World)(hB:B<=w.1.size)(h:qPb B p gq fq w) :
 Calls prog 16 #[prV p gq fq gc fc, .string ⟨x.toArray⟩] w fun e w'=>e=.returned (.int .i64 (qJF x 0 p.funcs))/\Below w.1.size w w':=by
 have hb:=bal (Below.refl w.1.size w) (.cells #[.slice gq p.globals.length gc, .slice fq p.funcs.length fc, .int .i64 p.main] 30);have HF:=hI (h.fs.keep (hb.mono hB));have HL:=hI h.fl;have HB:=hI hb;have hs:(w.alloc (.cells #[.slice gq p.globals.length gc, .slice fq p.funcs.length fc, .int .i64 p.main] 30)).1.size=w.1.size+1:=by simp
 have HN:=hI (vL w (.cells #[.slice gq p.globals.length gc, .slice fq p.funcs.length fc, .int .i64 p.main] 30));have hlen:=h.fl;clear h hb;unfold prV;obtain⟨pg,pf,pm⟩:=p;simp only at *;go_enter func16,ntmps16
 go_wp2_with fail
 go_loopw [5] (fun i wr=>FdRel x pf (w.alloc (.cells #[.slice gq pg.length gc, .slice fq pf.length fc, .int .i64 pm] 30)) i wr) (fun i _=>pf.length - (intOf i).toNat)
 case atStart=>exact⟨0,Nat.zero_le _,rfl,by simp,Below.refl _ _⟩
 case round =>
  obtain⟨k,hk,rfl,hs1,hb⟩:=hrel;have HS:=hI hs1;have HBB:=hI (HB.o.trans (hb.mono HB.o.size));have HBA:=hI hb;have hF:=HF.o.keep (hb.mono (by omega));have M:=(hb.block w.1.size (by omega)).trans HN.o;obtain⟨m0,m1,m2⟩:=qUF M;have hlm:=qJ m0;simp only at hlm;clear hs1 hb M;by_cases hlt:k < pf.length
  ·obtain⟨g,rfl,hgB,hgr,hR1⟩:=hF.resolve_left (fun e=>by rw[e]at hlt;simp at hlt);obtain⟨q1,c1,q2,c2,C1,_,_,_,_⟩:=hR1 k hlt;have k0:=C1.c0;have HST:=hI (qLJ (x:=x) hlt);have hk63:(k:Int) < (pf.length:Nat):=by omega
   clear C1 hR1;generalize pf[k]=f at *;cases he:(f.name == x)
   ·go_wp2
    go_roundw
    case rel=>exact⟨k+1,by omega,by go_num,by rw[<-HS.o,HST.o,he];rfl,HBA.o⟩
    case measure=>simp[intOf];omega
   ·go_wp2
    go_ret;refine⟨?_,HBB.o⟩;rw[<-HS.o,HST.o,he];rfl
  ·have hend:=qLC (x:=x) hlt;go_wp2
   go_ret;refine⟨?_,HBB.o⟩;rw[<-HS.o,hend];rfl
def exS1:ByteArray:=⟨#[117,56,32,120,59,32,118,111,105,100,32,109,97,105,110,40,41,32,123,32,120,32,61,32,120,32,43,32,51,48,48,59,32,125]⟩
def exS2:ByteArray:=⟨#[117,56,32,120,59,32,118,111,105,100,32,109,97,105,110,40,41,32,123,32,97,115,115,101,114,116,40,49,32,60,32,120,41,59,32,125]⟩
theorem ex_c1:qXN exS1.data.toList=.bad 1 29 41:=by kernel_rfl
def exOk(c:CR PrD):Bool:=match c with
 | .ok r=>r.globals.length == 1 && (r.funcs.length == 1 && ((match r.funcs with | f :: _=>f.body.length == 1 | []=>false) && (qJF qZf 0 r.funcs == 0 && qJy 0 r.globals == 8)))
 | _=>false
theorem ex_ok:exOk (qXN exS2.data.toList)=true:=by kernel_rfl
theorem ex_c2:∃ (r:PrD) (f:qQ2),qXN exS2.data.toList=.ok r/\r.globals.length=1/\r.funcs=[f]/\f.body.length=1/\qJF qZf 0 r.funcs=0/\qJy 0 r.globals=8:=by
 have h:=ex_ok;generalize qXN exS2.data.toList=c at h;cases c with
 | bad _ _ _=>cases h
 | ok r =>
  unfold exOk at h;simp only[bE,beq_iff_eq]at h;obtain⟨h1,h2,h3,h4,h5⟩:=h;obtain⟨g,fs,m⟩:=r;simp only at *;match fs,h2,h3 with
  | [f],_,h3=>exact⟨_,f,rfl,h1,rfl,by simpa using h3,h4,h5⟩
theorem qJ2(w:World)(hc:qYA w)(h4:qWB w):Calls prog 7 #[] w fun e w'=>e=.returned (.bool true)/\Below w.1.size w w':=by
 have H1:=hI (qKb exS1 w hc h4);have HC:=hI (fun(W:World) (h:Below w.1.size w W)=>qKb exS2 W (hc.below h) (h4.below h));clear hc h4;rw[ex_c1]at H1;obtain⟨r,f,hr,hg1,hf1,hb1,hfd,hbt⟩:=ex_c2;rw[hr]at HC;unfold exS1 at H1;unfold exS2 at HC;clear hr;go_enter func7,ntmps7
 go_wp2_with fail
 refine(H1.o).mono ?_;rintro e w1 ⟨rfl,hB1⟩;have hz:=bal (Below.refl w1.1.size w1) (.cells #[.slice none 0 0, .slice none 0 0, .int .i64 0] 30);have HB1:=hI (hB1.trans (hz.mono hB1.size));have H2:=hI (HC.o _ HB1.o);clear H1 HC hB1 hz;unfold qZX;go_wp2_with fail
 refine(H2.o).mono ?_;rintro e w2 ⟨v,rfl,hP,hB2⟩;obtain⟨gq,gc,fq,fc,rfl,hA⟩:=hP.at
 obtain⟨g,rfl,hgB,hgl,hR⟩:=hA.fs.resolve_left (fun e=>by rw[hf1]at e;cases e);obtain⟨qv,cv,qb,cb,C,-,-,-,-⟩:=hR 0 (by rw[hf1];simp);have hfl:r.funcs.length=1:=by rw[hf1];rfl
 have hbl:(r.funcs[0]'(by rw[hf1];simp)).body.length=1:=by simp only[hf1];exact hb1
 have k4:w2.cell? ⟨g,5,none⟩=some (.slice qb 1 cb):=by
  have:=C.c5;rw[hbl]at this;simpa using this
 have hb3:=bal (Below.refl w2.1.size w2) (.cells #[.slice gq r.globals.length gc, .slice (some ⟨g,0,none⟩) r.funcs.length fc, .int .i64 r.main] 30);have HB2:=hI (HB1.o.trans (hB2.mono HB1.o.size));have HB3:=hI (HB2.o.trans (hb3.mono HB2.o.size));have HF:=hI (qLD w2.1.size qZf r gq (some ⟨g,0,none⟩) gc fc _ hb3.size (hA.keep hb3));have HBT:=hI (fun(W:World) (h:Below w2.1.size w2 W)=>qMs w2.1.size r gq (some ⟨g,0,none⟩) gc fc W h.size (hA.keep h));have HSM:=hI (fun(W:World) (h:Below w2.1.size w2 W)=>qLp w2.1.size r r gq (some ⟨g,0,none⟩) gq (some ⟨g,0,none⟩) gc fc gc fc W h.size (hA.keep h) (hA.keep h));have HW:=hI hb3;have HN:=hI (vL w2 (.cells #[.slice gq r.globals.length gc, .slice (some ⟨g,0,none⟩) r.funcs.length fc, .int .i64 r.main] 30));have hfg:(r.funcs.length:Int)=1:=by omega
 have hgg:(r.globals.length:Int)=1:=by omega
 have k4':=kP hb3 k4;rw[hfd]at HF;rw[hbt]at HBT;rw[qLw]at HSM;clear hP hA hR C hb3 hB2 H2 hf1 hb1 hbl hfd hbt;unfold prV qZf at *;rw[hfl,hg1]at HF HBT HSM HW HN HB3;go_wp2_with fail
 refine(HF.o).mono ?_;rintro e w3 ⟨rfl,hb3⟩;have HB4:=hI (HB3.o.trans (hb3.mono HB3.o.size));have HW4:=hI (HW.o.trans (hb3.mono HW.o.size));have M4:=(hb3.block _ (by simp)).trans HN.o;have HM4:=hI M4;obtain⟨m0,m1,m2⟩:=qUF M4;have hlm:=qJ m0;simp only at hlm;have HB5:=hI (HBT.o w3 HW4.o);clear hb3 HF HB3 HW M4 HBT HN;go_wp2_with fail
 refine(HB5.o).mono ?_;rintro e w4 ⟨rfl,hb4⟩;have HB6:=hI (HB4.o.trans (hb4.mono HB4.o.size));have HW6:=hI (HW4.o.trans (hb4.mono HW4.o.size));have M6:=(hb4.block _ hlm).trans HM4.o;obtain⟨m0,m1,m2⟩:=qUF M6;have hlm:=qJ m0;simp only at hlm;have HS7:=hI (HSM.o w4 HW6.o);clear hb4 HB4 HW4 HB5 M6 HM4 HSM;go_wp2_with fail
 refine(HS7.o).mono ?_;rintro e w5 ⟨rfl,hb5⟩;have HB7:=hI (HB6.o.trans (hb5.mono HB6.o.size));go_wp2
 go_ret;exact⟨rfl,HB7.o⟩
def RC{α β:Type}(S:α->β->Prop):CR α->CR β->Prop
 | .ok a, .ok b=>S a b
 | .bad _ _ c, .bad _ _ c'=>c=c'/\c≠0
 | _,_=>False
def qU9{α β:Type}(_:α)(_:β):Prop:=True
section
variable {α β γ δ:Type}
theorem RC.bind{S:α->β->Prop}{T:γ->δ->Prop}{p:CR α}{q:CR β}{f:α->CR γ}{g:β->CR δ}(h:RC S p q)(hf:∀ a b,S a b->RC T (f a) (g b)):RC T (p.bind f) (q.bind g):=by
 cases p with
 | ok a=>cases q with
  | ok b=>exact hf a b h
  | bad _ _ _=>exact h.elim
 | bad _ _ _=>cases q with
  | ok b=>exact h.elim
  | bad _ _ _=>exact h
theorem RC.ite{S:α->β->Prop}{c:Prop}[Decidable c]{p p':CR α}{q q':CR β}(h1:RC S p q)(h2:RC S p' q'):RC S (if c then p else p') (if c then q else q'):=by
 by_cases h:c
 ·rw[if_pos h,if_pos h];exact h1
 ·rw[if_neg h,if_neg h];exact h2
theorem RC.need{b b':Bool}{t u:qQ}(code:Int)(h:b=b')(hc:code≠0:=by decide):RC qU9 (jQ b t code) (jQ b' u code):=by
 subst h;unfold jQ;cases b
 ·exact⟨rfl,hc⟩
 ·exact trivial
end
theorem qWt{k x:List UInt8}{m ln co:Int}{ks:List qQ}{u:qQ}(h:kO (.mk k x m ln co ks) u=true):∃ ln' co' ks',u=.mk k x m ln' co' ks'/\xC ks ks'=true:=by
 obtain⟨k',x',m',ln',co',ks'⟩:=u;obtain⟨h1,h2,h3,h4⟩:=jN h;simp only[qQ.kind,qQ.text,qQ.num,qQ.kids]at h1 h2 h3 h4;subst h1 h2 h3;exact⟨ln',co',ks',rfl,h4⟩
theorem xY{t:qQ}{r us:List qQ}(h:xC (t :: r) us=true):∃ u us',us=u :: us'/\kO t u=true/\xC r us'=true:=by
 cases us with
 | nil=>simp[xC]at h
 | cons u us=>simp only[xC,bE]at h;exact⟨u,us,rfl,h.1,h.2⟩
theorem xK{us:List qQ}(h:xC [] us=true):us=[]:=by
 cases us with
 | nil=>rfl
 | cons _ _=>simp[xC]at h
section
variable (E:Env)
theorem qWT{t u:qQ}(h:t.text=u.text):RC Eq (qZD E t) (qZD E u):=by
 unfold qZD;rw[h];cases qQj u.text 0 E.own with
 | some p=>exact rfl
 | none =>
  cases qQj u.text 0 E.gs with
  | some p=>exact rfl
  | none=>exact⟨rfl,by decide⟩
mutual
theorem sug_alike:∀ (t u:qQ),kO t u=true->RC Eq (qJu E t) (qJu E u)
 | .mk k x m ln co ks,u,h=>by
  obtain⟨ln',co',ks',rfl,hk⟩:=qWt h;rw[qJu,qJu];refine RC.ite rfl (RC.ite rfl (RC.ite ?_ (RC.ite rfl (RC.ite rfl (qJG ks ks' hk)))));refine(qWT E (t:=.mk k x m ln co ks) (u:=.mk k x m ln' co' ks') rfl).bind fun a b hab=>?_
  subst hab;exact rfl
theorem qJG:∀ (ts us:List qQ),xC ts us=true->RC Eq (qQu E ts) (qQu E us)
 | [],us,h=>by rw[xK h,qQu];exact rfl
 | t :: r,us,h=>by
  obtain⟨u,us',rfl,h1,h2⟩:=xY h;rw[qQu,qQu];refine(sug_alike t u h1).bind fun a b hab=>?_
  subst hab;exact RC.ite (qJG r us' h2) rfl
end
theorem qZq{ts us:List qQ}(h:xC ts us=true):RC Eq (yB E ts) (yB E us) :=
 (qJG E ts us h).bind fun a b hab=>by subst hab;exact rfl
def TyE(a b:Ex):Prop:=a.ty=b.ty
theorem qV8{t u:qQ}(h:kO t u=true):RC TyE (qQ1 E t) (qQ1 E u):=by
 have hp:=jN h;unfold qQ1;rw[hp.1];refine(qWT E hp.2.1).bind fun a b hab=>?_
 subst hab;exact(RC.need _ rfl).bind fun _ _ _=>rfl
theorem qW1(op:List UInt8){ts us:List qQ}(h:xC ts us=true)(T:Ty):RC Eq (qQr E op ts T) (qQr E op us T):=by
 unfold qQr;split
 ·exact rfl
 ·exact RC.ite rfl ((qZq E h).bind fun a b hab=>by subst hab;exact rfl)
 ·exact RC.ite rfl ((qZq E h).bind fun a b hab=>by subst hab;exact rfl)
 ·exact rfl
 ·exact rfl
theorem qV4{ts us:List qQ}(h:xC ts us=true)(t u:qQ)(htu:kO t u=true):kO (ts.headD t) (us.headD u)=true:=by
 cases ts with
 | nil=>rw[xK h];exact htu
 | cons a r=>obtain⟨b,us',rfl,h1,_⟩:=xY h;exact h1
theorem qWg(e:Ex)(ks:List Ex):(e.withKids ks).ty=e.ty:=by cases e;rfl
mutual
theorem qXd:∀ (t u:qQ) (T:Ty),kO t u=true->RC qU9 (qQT E t T) (qQT E u T)
 | .mk k x m ln co ks,u,T,h=>by
  obtain⟨ln',co',ks',rfl,hk⟩:=qWt h;have hl:=qX3 _ _ hk;rw[qQT,qQT];refine RC.ite ?_ (RC.ite ?_ (RC.ite ?_ (RC.ite ?_ ?_)))
  ·exact(RC.need _ rfl).bind fun _ _ _=>trivial
  ·exact(RC.need _ rfl).bind fun _ _ _=>trivial
  ·refine(qV8 E h).bind fun a b hab=>?_
   unfold TyE at hab;rw[hab];refine(RC.need _ rfl).bind fun _ _ _=>?_
   rw[hl];refine RC.ite trivial ((qZq E hk).bind fun c d hcd=>?_);subst hcd;exact(RC.need _ rfl).bind fun _ _ _=>(qZG ks ks' c hk).bind fun _ _ _=>trivial
  ·refine(RC.need _ rfl).bind fun _ _ _=>(qZq E hk).bind fun c d hcd=>?_
   subst hcd;exact(qZG ks ks' c hk).bind fun _ _ _=>trivial
  ·refine(qW1 E _ hk T).bind fun c d hcd=>?_
   subst hcd;exact(RC.need _ rfl).bind fun _ _ _=>(qZG ks ks' c.1 hk).bind fun _ _ _=>trivial
theorem qZG:∀ (ts us:List qQ) (T:Ty),xC ts us=true->RC qU9 (vD E ts T) (vD E us T)
 | [],us,T,h=>by rw[xK h,vD];exact trivial
 | t :: r,us,T,h=>by
  obtain⟨u,us',rfl,h1,h2⟩:=xY h;rw[vD,vD];exact(qXd t u T h1).bind fun _ _ _=>(qZG r us' T h2).bind fun _ _ _=>trivial
end
theorem qPK{ts us:List qQ}(h:xC ts us=true):RC qU9 (qQL E ts) (qQL E us):=by
 unfold qQL;rw[qX3 _ _ h];refine RC.ite trivial ((qZq E h).bind fun a b hab=>?_);subst hab;exact(RC.need _ rfl).bind fun _ _ _=>qZG E ts us a h
theorem qJk{t u:qQ}(h:kO t u=true):RC TyE (wJ E t) (wJ E u):=by
 unfold wJ;refine(qV8 E h).bind fun a b hab=>(qPK E (jN h).2.2.2).bind fun c d _=>?_
 show TyE _ _
 unfold TyE at *;rw[qWg,qWg,hab]
theorem qKA:∀ (ts us:List qQ) (vs:List qI),xC ts us=true->RC qU9 (wM E ts vs) (wM E us vs)
 | [],us,vs,h=>by rw[xK h,wM];exact trivial
 | t :: r,us,vs,h=>by
  obtain⟨u,us',rfl,h1,h2⟩:=xY h;rw[wM,wM];exact(qXd E t u _ h1).bind fun _ _ _=>(qKA r us' _ h2).bind fun _ _ _=>trivial
end
theorem qKZ(fs:List kI){t u:qQ}(h:kO t u=true):RC Eq (wI fs t) (wI fs u):=by
 have hp:=jN h;unfold wI;rw[hp.2.1];cases qQN u.text 0 fs with
 | none=>exact⟨rfl,by decide⟩
 | some p =>
  obtain⟨a,i⟩:=p;exact(RC.need _ (by rw[qX3 _ _ hp.2.2.2])).bind fun _ _ _=>rfl
theorem qJA{t u:qQ}(h:kO t u=true):qZr t=qZr u:=by
 have hp:=jN h;have h1:=qV4 hp.2.2.2 (.mk [] [] 0 0 0 []) (.mk [] [] 0 0 0 []) rfl;unfold qZr;rw[hp.2.1,(jN h1).2.1]
theorem qPO(own:List qI){t u:qQ}(h:kO t u=true):RC Eq (qJJ own t) (qJJ own u):=by
 unfold qJJ;rw[qJA h,(jN h).2.1];exact(RC.need _ rfl).bind fun _ _ _=>(RC.need _ rfl).bind fun _ _ _=>rfl
theorem qUe{ts us:List qQ}(h:xC ts us=true):∀ i,kO (kid ts i) (kid us i)=true:=by
 induction ts generalizing us with
 | nil=>rw[xK h];intro i;rfl
 | cons t r ih =>
  obtain⟨u,us',rfl,h1,h2⟩:=xY h;intro i;cases i with
  | zero=>exact h1
  | succ i=>exact ih h2 i
def OwnE(a b:Sx×List qI):Prop:=a.2=b.2
def OwnL(a b:List Sx×List qI):Prop:=a.2=b.2
section
variable (gs:List qI) (fs:List kI) (ret:Ty)
mutual
theorem st_alike:∀ (t u:qQ) (own:List qI),kO t u=true->RC OwnE (stC gs fs ret t own) (stC gs fs ret u own)
 | .mk k x m ln co ks,u,own,h=>by
  obtain⟨ln',co',ks',rfl,hk⟩:=qWt h;have hl:=qX3 _ _ hk;have h0:=qUe hk 0;have h1:=qUe hk 1;rw[stC.eq_def,stC.eq_def];simp only;refine RC.ite ?_ (RC.ite ?_ (RC.ite ?_ (RC.ite ?_ (RC.ite ?_ ?_))))
  ·refine(qJk _ h0).bind fun a b hab=>?_
   unfold TyE at hab;rw[hab];exact(qXd _ _ _ _ h1).bind fun _ _ _=>rfl
  ·exact(qJk _ h0).bind fun a b hab=>rfl
  ·refine(qKZ fs h).bind fun a b hab=>?_
   subst hab;exact(qKA _ ks ks' _ hk).bind fun _ _ _=>rfl
  ·refine(qJk _ h0).bind fun a b hab=>(qKZ fs h1).bind fun c d hcd=>?_
   subst hcd;unfold TyE at hab;rw[hab];exact(RC.need _ rfl).bind fun _ _ _=>(qKA _ _ _ _ (jN h1).2.2.2).bind fun _ _ _=>rfl
  ·exact(RC.need _ (by rw[hl])).bind fun _ _ _=>(qZG _ ks ks' ret hk).bind fun _ _ _=>rfl
  ·match ks,hk with
   | [],hk=>rw[xK hk];exact rfl
   | [a],hk =>
    obtain⟨a',us1,rfl,e1,hk⟩:=xY hk;rw[xK hk];exact(qXd _ a a' _ e1).bind fun _ _ _=>rfl
   | [a,b],hk =>
    obtain⟨a',us1,rfl,e1,hk⟩:=xY hk;obtain⟨b',us2,rfl,e2,hk⟩:=xY hk;rw[xK hk];exact(qXd _ a a' _ e1).bind fun _ _ _=>(qKX b b' own e2).bind fun _ _ h=>h
   | a :: b :: c :: r,hk =>
    obtain⟨a',us1,rfl,e1,hk⟩:=xY hk;obtain⟨b',us2,rfl,e2,hk⟩:=xY hk;obtain⟨c',us3,rfl,e3,hk⟩:=xY hk;refine(qXd _ a a' _ e1).bind fun _ _ _=>(qKX b b' own e2).bind fun p q h=>?_
    unfold OwnL at h;rw[h];exact(qKX c c' q.2 e3).bind fun _ _ h=>h
theorem qKX:∀ (t u:qQ) (own:List qI),kO t u=true->RC OwnL (blC gs fs ret t own) (blC gs fs ret u own)
 | .mk k x m ln co ks,u,own,h=>by
  obtain⟨ln',co',ks',rfl,hk⟩:=qWt h;rw[blC,blC];exact qVQ ks ks' own hk
theorem qVQ:∀ (ts us:List qQ) (own:List qI),xC ts us=true->RC OwnL (qXJ gs fs ret ts own) (qXJ gs fs ret us own)
 | [],us,own,h=>by rw[xK h,qXJ];exact rfl
 | t :: r,us,own,h=>by
  obtain⟨u,us',rfl,h1,h2⟩:=xY h;rw[qXJ,qXJ,(jN h1).1];refine RC.ite ((qPO own h1).bind fun a b hab=>?_) ((st_alike t u own h1).bind fun a b hab=>?_)
  ·subst hab;exact qVQ r us' a h2
  ·unfold OwnE at hab;rw[hab];exact(qVQ r us' b.2 h2).bind fun _ _ h=>h
end
end
theorem qV6:∀ {ts us:List qQ},xC ts us=true->kO (ts.getLastD (.mk [] [] 0 0 0 [])) (us.getLastD (.mk [] [] 0 0 0 []))=true:=by
 have key:∀ (ts us:List qQ) (t u:qQ),kO t u=true->xC ts us=true->kO (ts.getLastD t) (us.getLastD u)=true:=by
  intro ts;induction ts with
  | nil=>intro us t u h h';rw[xK h'];exact h
  | cons a r ih =>
   intro us t u h h';obtain⟨b,us',rfl,h1,h2⟩:=xY h';rw[List.getLastD_cons,List.getLastD_cons];exact ih us' a b h1 h2
 intro ts us h;exact key ts us _ _ rfl h
theorem qJE:∀ {ts us:List qQ},xC ts us=true->xC ts.dropLast us.dropLast=true
 | [],us,h=>by rw[xK h];rfl
 | [t],us,h=>by
  obtain⟨u,us',rfl,h1,h2⟩:=xY h;rw[xK h2];rfl
 | t :: s :: r,us,h=>by
  obtain⟨u,us',rfl,h1,h2⟩:=xY h;obtain⟨v,us2,rfl,h3,h4⟩:=xY h2;rw[List.dropLast_cons₂,List.dropLast_cons₂];simp only[xC,bE];exact⟨h1,qJE (ts:=s :: r) (us:=v :: us2) (by simp only[xC,bE];exact⟨h3,h4⟩)⟩
theorem qPw{ts us:List qQ}(h:xC ts us=true):xC (ts.drop 1) (us.drop 1)=true:=by
 cases ts with
 | nil=>rw[xK h];rfl
 | cons t r=>obtain⟨u,us',rfl,h1,h2⟩:=xY h;exact h2
theorem qKv(S:HdS){t u:qQ}(h:kO t u=true):RC qU9 (yF S t) (yF S u):=by
 unfold yF;rw[(jN h).2.1];exact RC.need _ rfl
theorem qUO(S:HdS){t u:qQ}(h:kO t u=true):RC Eq (qZ9 S t) (qZ9 S u):=by
 have hp:=jN h;have hl:=qV6 hp.2.2.2;unfold qZ9;generalize t.kids.getLastD (.mk [] [] 0 0 0 [])=a at *;generalize u.kids.getLastD (.mk [] [] 0 0 0 [])=b at *;have hq:=jN hl;simp only[qJA h,hq.1,hq.2.2.1];exact(RC.need _ rfl).bind fun _ _ _=>(qKv S h).bind fun _ _ _=>(RC.need _ rfl).bind fun _ _ _=>rfl
theorem qVg:∀ (ts us:List qQ) (acc:List qI),xC ts us=true->RC Eq (yH ts acc) (yH us acc)
 | [],us,acc,h=>by rw[xK h,yH];exact rfl
 | t :: r,us,acc,h=>by
  obtain⟨u,us',rfl,h1,h2⟩:=xY h;rw[yH,yH,(jN h1).2.1,qJA h1];exact(RC.need _ rfl).bind fun _ _ _=>(RC.need _ rfl).bind fun _ _ _=>qVg r us' _ h2
theorem qWV(S:HdS){t u:qQ}(h:kO t u=true):RC Eq (wF S t) (wF S u):=by
 have hp:=jN h;have h1:=qV4 hp.2.2.2 (.mk [] [] 0 0 0 []) (.mk [] [] 0 0 0 []) rfl;unfold wF;refine(RC.need _ rfl).bind fun _ _ _=>(qKv S h).bind fun _ _ _=>(qVg _ _ [] (qPw (qJE hp.2.2.2))).bind fun a b hab=>?_
 subst hab;rw[hp.2.1,(jN h1).2.1];exact rfl
theorem qV5:∀ (ts us:List qQ) (S:HdS),xC ts us=true->RC Eq (yS ts S) (yS us S)
 | [],us,S,h=>by rw[xK h,yS];exact rfl
 | t :: r,us,S,h=>by
  obtain⟨u,us',rfl,h1,h2⟩:=xY h;rw[yS,yS,(jN h1).1];refine RC.bind (S:=Eq) (RC.ite (qWV S h1) (qUO S h1)) fun a b hab=>?_
  subst hab;exact qV5 r us' a h2
theorem qX9(gs:List qI)(fs:List kI):∀ (ts us:List qQ) (hs:List kI),xC ts us=true->RC qU9 (vG gs fs ts hs) (vG gs fs us hs)
 | [],us,hs,h=>by rw[xK h,vG];exact trivial
 | t :: r,us,hs,h=>by
  obtain⟨u,us',rfl,h1,h2⟩:=xY h;rw[vG.eq_def,vG.eq_def];simp only;rw[(jN h1).1];refine RC.ite ?_ (qX9 gs fs r us' hs h2);cases hs with
  | nil=>exact trivial
  | cons a hs=>exact(qKX gs fs a.t _ _ a.params (qV6 (jN h1).2.2.2)).bind fun _ _ _=>(qX9 gs fs r us' hs h2).bind fun _ _ _=>trivial
theorem qPn{t u:qQ}(h:kO t u=true):RC qU9 (qZb t) (qZb u):=by
 have hk:=(jN h).2.2.2;unfold qZb;refine(qV5 _ _ _ hk).bind fun a b hab=>?_
 subst hab;refine(qX9 a.gs a.fs _ _ a.fs hk).bind fun _ _ _=>?_
 cases qQN qZf 0 a.fs with
 | none=>exact⟨rfl,by decide⟩
 | some p=>exact RC.ite trivial ⟨rfl,by decide⟩
def qPq{α:Type}:CR α->Int
 | .ok _=>0
 | .bad _ _ c=>c
theorem qLy:∀ t:qQ,kO t t=true
 | .mk k x m ln co ks=>zR rfl rfl rfl (qLA fun t ht=>qLy t)
theorem qLX{t:qQ}{a b c:Int}(h:qZb t=.bad a b c):c≠0:=by
 have:=qPn (qLy t);rw[h]at this;exact this.2
theorem qQ9.all{p:CR PrD}{w w':World}{e:Ending}(h:qQ9 p w e w') :
 ∃ gq gn gc fq fn fc m a b,e=.returned (.tuple #[.agg #[.slice gq gn gc, .slice fq fn fc, .int .i64 m], .int .i64 a, .int .i64 b, .int .i64 (qPq p)])/\Below w.1.size w w':=by
 rcases h.cases with⟨r,v,rfl,rfl,hr,hb⟩ | ⟨ln,co,code,rfl,rfl,hb⟩
 ·obtain⟨gq,gc,fq,fc,rfl⟩:=hr.shape;exact⟨gq,_,gc,fq,_,fc,_,0,0,rfl,hb⟩
 ·exact⟨none,0,0,none,0,0,0,ln,co,rfl,hb⟩
theorem qLr{s:List UInt8}{a b c:Int}(h:qXN s=.bad a b c):c≠0:=by
 unfold qXN at h;have ho:=qVG s;cases hr:qZ4 s with
 | out=>exact absurd hr ho
 | ok t l=>rw[hr]at h;exact qLX h
 | bad x y z =>
  rw[hr]at h;have:=qLq hr;injection h with e1 e2 e3;omega
theorem qYC.up{B B':Nat}{w:World}{vs:List qI}{q:Option Addr}(h:qYC B w vs q)(hb:B<=B'):qYC B' w vs q:=by
 rcases h with h | ⟨g,h1,h2,h3⟩
 ·exact .inl h
 ·exact .inr ⟨g,h1,Nat.lt_of_lt_of_le h2 hb,h3⟩
theorem qVt.up{B B':Nat}{w:World}{es:List Sx}{q:Option Addr}(h:qVt B w es q)(hb:B<=B'):qVt B' w es q:=by
 rcases h with h | ⟨g,h1,h2,h3,h4⟩
 ·exact .inl h
 ·exact .inr ⟨g,h1,Nat.lt_of_lt_of_le h2 hb,h3,fun i hi=>by obtain⟨v,a,b⟩:=h4 i hi;exact⟨v,wL.move (fun g _ hg=>⟨Nat.lt_of_lt_of_le hg hb,rfl⟩) _ _ a,b⟩⟩
theorem qLB.up{B B':Nat}{w:World}{fs:List qQ2}{q:Option Addr}(h:qLB B w fs q)(hb:B<=B'):qLB B' w fs q:=by
 rcases h with h | ⟨g,h1,h2,h3,h4⟩
 ·exact .inl h
 ·exact .inr ⟨g,h1,Nat.lt_of_lt_of_le h2 hb,h3,fun i hi=>by obtain⟨qv,cv,qb,cb,a,b,c,d,e⟩:=h4 i hi;exact⟨qv,cv,qb,cb,a,b.up hb,c,d.up hb,e⟩⟩
theorem qPb.up{B B':Nat}{p:PrD}{gq fq:Option Addr}{w:World}(h:qPb B p gq fq w)(hb:B<=B'):qPb B' p gq fq w:=⟨h.gs.up hb,h.fs.up hb,h.gl,h.fl,h.ma⟩
theorem again_law(s s2:ByteArray)(w:World)(hc:qYA w)(h4:qWB w):Calls prog 5 #[.string s, .string s2] w fun e w'=>e=.returned (.bool true)/\Below w.1.size w w':=by
 have HC:=hI hc;have H4:=hI h4;have HAW:=hI (fun(W:World) (h:Below w.1.size w W)=>qJ2 W (HC.o.below h) (H4.o.below h));by_cases hl:(s.size:Int)<=1000
 case neg =>
  have HA:=hI (qJ2 w hc h4);clear h4 hc HAW;go_enter func5,ntmps5
  go_wp2_with fail
  refine(HA.o).mono ?_;rintro e w1 ⟨rfl,hb⟩;go_wp2
  go_ret;exact⟨rfl,hb⟩
 case pos =>
 by_cases hl2:(s2.size:Int)<=1000
 case neg =>
  have HA:=hI (qJ2 w hc h4);clear h4 hc HAW;go_enter func5,ntmps5
  go_wp2_with fail
  refine(HA.o).mono ?_;rintro e w1 ⟨rfl,hb⟩;go_wp2
  go_ret;exact⟨rfl,hb⟩
 case pos =>
 have HR1:=hI (qKb s w hc h4);have HR2:=hI (fun(W:World) (h:Below w.1.size w W)=>qKb s2 W (HC.o.below h) (H4.o.below h));have hz1:=fun(a b c:Int) (h:qXN s.data.toList=.bad a b c)=>qLr h
 have hz2:=fun(a b c:Int) (h:qXN s2.data.toList=.bad a b c)=>qLr h
 clear hc h4;generalize qXN s.data.toList=P1 at *;generalize qXN s2.data.toList=P2 at *;by_cases c1:qPq P1=0
 case neg =>
  have hb1:(qPq P1 != 0)=true:=by simpa using c1
  clear hz1 hz2 c1;go_enter func5,ntmps5
  go_wp2_with fail
  refine(HR1.o).mono ?_;intro e w1 hq;obtain⟨gq,gn,gc,fq,fn,fc,m,pa1,pa2,rfl,hb1⟩:=hq.all;have HB1:=hI (bal hb1 (.cells #[.slice gq gn gc, .slice fq fn fc, .int .i64 m] 30));have H2:=hI (HR2.o _ HB1.o);clear hq hb1 HR1 HR2;go_wp2_with fail
  refine(H2.o).mono ?_;intro e w2 hq;obtain⟨gq',gn',gc',fq',fn',fc',m',pb1,pb2,rfl,hb2⟩:=hq.all;have HB2:=hI (bal (HB1.o.trans (hb2.mono HB1.o.size)) (.cells #[.slice gq' gn' gc', .slice fq' fn' fc', .int .i64 m'] 30));have HA:=hI (HAW.o _ HB2.o);clear hq hb2 H2 HB1;go_wp2_with fail
  refine(HA.o).mono ?_;rintro e w3 ⟨rfl,hb3⟩;have HB3:=hI (HB2.o.trans (hb3.mono HB2.o.size));have HA2:=hI (HAW.o w3 HB3.o);clear hb3 HA;go_wp2_with fail
  refine(HA2.o).mono ?_;rintro e w4 ⟨rfl,hb4⟩;go_wp2
  go_ret;exact⟨rfl,HB3.o.trans (hb4.mono HB3.o.size)⟩
 case pos =>
 by_cases c2:qPq P2=0
 case neg =>
  have hb2':(qPq P2 != 0)=true:=by simpa using c2
  clear hz1 hz2 c2;go_enter func5,ntmps5
  go_wp2_with fail
  refine(HR1.o).mono ?_;intro e w1 hq;obtain⟨gq,gn,gc,fq,fn,fc,m,pa1,pa2,rfl,hb1⟩:=hq.all;have HB1:=hI (bal hb1 (.cells #[.slice gq gn gc, .slice fq fn fc, .int .i64 m] 30));have H2:=hI (HR2.o _ HB1.o);clear hq hb1 HR1 HR2;go_wp2_with fail
  refine(H2.o).mono ?_;intro e w2 hq;obtain⟨gq',gn',gc',fq',fn',fc',m',pb1,pb2,rfl,hb2⟩:=hq.all;have HB2:=hI (bal (HB1.o.trans (hb2.mono HB1.o.size)) (.cells #[.slice gq' gn' gc', .slice fq' fn' fc', .int .i64 m'] 30));have HA:=hI (HAW.o _ HB2.o);clear hq hb2 H2 HB1;rw[c1]at *;go_wp2_with fail
  refine(HA.o).mono ?_;rintro e w3 ⟨rfl,hb3⟩;have HB3:=hI (HB2.o.trans (hb3.mono HB2.o.size));have HA2:=hI (HAW.o w3 HB3.o);clear hb3 HA;go_wp2_with fail
  refine(HA2.o).mono ?_;rintro e w4 ⟨rfl,hb4⟩;go_wp2
  go_ret;exact⟨rfl,HB3.o.trans (hb4.mono HB3.o.size)⟩
 case pos =>
 obtain⟨p,rfl⟩:∃ p,P1=.ok p:=by
  cases P1 with
  | ok p=>exact⟨p,rfl⟩
  | bad a b c=>exact absurd c1 (hz1 a b c rfl)
 obtain⟨p',rfl⟩:∃ p,P2=.ok p:=by
  cases P2 with
  | ok p=>exact⟨p,rfl⟩
  | bad a b c=>exact absurd c2 (hz2 a b c rfl)
 clear c1 c2 hz1 hz2;go_enter func5,ntmps5
 go_wp2_with fail
 refine(HR1.o).mono ?_;rintro e w1 ⟨v,rfl,hp,hb1⟩;obtain⟨gq,gc,fq,fc,rfl,hA⟩:=hp.at
 have ha1:=bal (Below.refl w1.1.size w1) (.cells #[.slice gq p.globals.length gc, .slice fq p.funcs.length fc, .int .i64 p.main] 30);have HB1:=hI (hb1.trans (ha1.mono hb1.size));have N1:=hI (vL w1 (.cells #[.slice gq p.globals.length gc, .slice fq p.funcs.length fc, .int .i64 p.main] 30));have HP:=hI (hA.keep ha1);have H2:=hI (HR2.o _ HB1.o);have hs1:(w1.alloc (.cells #[.slice gq p.globals.length gc, .slice fq p.funcs.length fc, .int .i64 p.main] 30)).1.size=w1.1.size+1:=by simp
 clear hp hb1 hA ha1 HR1 HR2;unfold prV;go_wp2_with fail
 refine(H2.o).mono ?_;rintro e w2 ⟨v,rfl,hp,hb2⟩;obtain⟨gq',gc',fq',fc',rfl,hA⟩:=hp.at
 have ha2:=bal (Below.refl w2.1.size w2) (.cells #[.slice gq' p'.globals.length gc', .slice fq' p'.funcs.length fc', .int .i64 p'.main] 30);have hb3:=hb2.trans (ha2.mono hb2.size);have HB2:=hI (HB1.o.trans (hb3.mono HB1.o.size));have M1:=hI ((hb3.block w1.1.size (by omega)).trans N1.o);have N2:=hI (vL w2 (.cells #[.slice gq' p'.globals.length gc', .slice fq' p'.funcs.length fc', .int .i64 p'.main] 30));have HP1:=hI (HP.o.keep (hb3.mono (by omega)));have HP2:=hI (hA.keep ha2);have HA:=hI (HAW.o _ HB2.o);have hs2:(w2.alloc (.cells #[.slice gq' p'.globals.length gc', .slice fq' p'.funcs.length fc', .int .i64 p'.main] 30)).1.size=w2.1.size+1:=by simp
 have hs12:=hb2.size;clear hp hb2 hA ha2 hb3 H2 N1 HP;unfold prV;go_wp2_with fail
 refine(HA.o).mono ?_;rintro e w3 ⟨rfl,hb3⟩;have HB3:=hI (HB2.o.trans (hb3.mono HB2.o.size));have K1:=hI ((hb3.block w1.1.size (by omega)).trans M1.o);have K2:=hI ((hb3.block w2.1.size (by omega)).trans N2.o);have HQ1:=HP1.o.keep (hb3.mono (by omega));have HQ2:=HP2.o.keep (hb3.mono (by omega));have hs3:=hb3.size;have hw1:w1.1.size<=w3.1.size:=by omega
 have hw2:w2.1.size<=w3.1.size:=by omega
 have HS1:=hI (fun(W:World) (h:Below w3.1.size w3 W)=>qLp w3.1.size p p' gq fq gq' fq' gc fc gc' fc' W h.size ((HQ1.keep (h.mono hw1)).up hw1) ((HQ2.keep (h.mono hw2)).up hw2));have HS2:=hI (fun(W:World) (h:Below w3.1.size w3 W)=>rsame_prog w3.1.size p p' gq fq gq' fq' gc fc gc' fc' W h.size ((HQ1.keep (h.mono hw1)).up hw1) ((HQ2.keep (h.mono hw2)).up hw2));have hS3:=fun(W:World) (h:Below w3.1.size w3 W)=>qLp w3.1.size p p gq fq gq fq gc fc gc fc W h.size ((HQ1.keep (h.mono hw1)).up hw1) ((HQ1.keep (h.mono hw1)).up hw1)
 rw[qLw]at hS3;have HS3:=hI hS3;have HF1:=hI (fun(W:World) (h:Below w3.1.size w3 W)=>qLD w3.1.size [102] p gq fq gc fc W h.size ((HQ1.keep (h.mono hw1)).up hw1));have HF2:=hI (fun(W:World) (h:Below w3.1.size w3 W)=>rfind_prog w3.1.size [102] p gq fq gc fc W h.size ((HQ1.keep (h.mono hw1)).up hw1));obtain⟨a0,a1,a2⟩:=qUF K1.o;obtain⟨b0,b1,b2⟩:=qUF K2.o;clear hb3 HA HP1 HP2 HQ1 HQ2 hS3 M1 N2 HB2;generalize qLv p p'=bb at *;generalize qJF [102] 0 p.funcs=ff at *;unfold prV xM at *;have hla:=qJ a0;have hlb:=qJ b0;simp only at hla hlb;go_wp2_with fail
 generalize w3=Z at *;refine wRg (S:=fun w'=>Below Z.1.size Z w') 19 ?_;refine wTk 0 47 (.agg #[.slice gq p.globals.length gc, .slice fq p.funcs.length fc, .int .i64 p.main]) ?_ (bD Z) ?_
 ·intro _ y;obtain⟨a0,a1,a2⟩:=kP3 y a0 a1 a2;go_simp
 refine wTk 1 48 (.agg #[.slice gq' p'.globals.length gc', .slice fq' p'.funcs.length fc', .int .i64 p'.main]) ?_ (bD Z) ?_
 ·intro _ y;obtain⟨b0,b1,b2⟩:=kP3 y b0 b1 b2;go_simp
 refine wTk 3 50 (.agg #[.slice gq p.globals.length gc, .slice fq p.funcs.length fc, .int .i64 p.main]) ?_ (bD Z) ?_
 ·intro _ y;obtain⟨a0,a1,a2⟩:=kP3 y a0 a1 a2;go_simp
 refine wTk 4 51 (.agg #[.slice gq' p'.globals.length gc', .slice fq' p'.funcs.length fc', .int .i64 p'.main]) ?_ (bD Z) ?_
 ·intro _ y;obtain⟨b0,b1,b2⟩:=kP3 y b0 b1 b2;go_simp
 refine wOn 2 fun K hK=>?_
 go_simp;refine(HS1.o _ (Below.refl _ _).drew).mono ?_;rintro e v1 ⟨rfl,hbx⟩;have hbx:=zF hbx;have HX:=hI hbx;refine kK hK hbx ?_;clear hK K;clear hbx;refine wOn 5 fun K hK=>?_
 go_simp;refine(HS2.o _ HX.o).mono ?_;rintro e v2 ⟨rfl,hbx⟩;have hbx:=HX.o.trans (hbx.mono HX.o.size);clear HX;have HX:=hI hbx;refine kK hK hbx ?_;clear hK K;clear hbx;refine wOn 6 fun K hK=>?_
 go_simp;refine kK hK HX.o ?_;clear hK K;refine wOn 7 fun K hK=>?_
 go_simp;refine kK hK HX.o ?_;clear hK K;refine wTk 8 55 (.agg #[.slice gq p.globals.length gc, .slice fq p.funcs.length fc, .int .i64 p.main]) ?_ HX.o ?_
 ·intro _ y;obtain⟨a0,a1,a2⟩:=kP3 y a0 a1 a2;go_simp
 refine wTk 9 56 (.agg #[.slice gq p.globals.length gc, .slice fq p.funcs.length fc, .int .i64 p.main]) ?_ HX.o ?_
 ·intro _ y;obtain⟨a0,a1,a2⟩:=kP3 y a0 a1 a2;go_simp
 refine wOn 10 fun K hK=>?_
 go_simp;refine(HS3.o _ HX.o).mono ?_;rintro e v3 ⟨rfl,hbx⟩;have hbx:=HX.o.trans (hbx.mono HX.o.size);clear HX;have HX:=hI hbx;refine kK hK hbx ?_;clear hK K;clear hbx;refine wOn 11 fun K hK=>?_
 go_simp;refine kK hK HX.o ?_;clear hK K;refine wOn 12 fun K hK=>?_
 go_simp;refine kK hK HX.o ?_;clear hK K;refine wTk 13 60 (.agg #[.slice gq p.globals.length gc, .slice fq p.funcs.length fc, .int .i64 p.main]) ?_ HX.o ?_
 ·intro _ y;obtain⟨a0,a1,a2⟩:=kP3 y a0 a1 a2;go_simp
 refine wTk 15 62 (.agg #[.slice gq p.globals.length gc, .slice fq p.funcs.length fc, .int .i64 p.main]) ?_ HX.o ?_
 ·intro _ y;obtain⟨a0,a1,a2⟩:=kP3 y a0 a1 a2;go_simp
 refine wOn 14 fun K hK=>?_
 go_simp;refine(HF1.o _ HX.o).mono ?_;rintro e v4 ⟨rfl,hbx⟩;have hbx:=HX.o.trans (hbx.mono HX.o.size);clear HX;have HX:=hI hbx;refine kK hK hbx ?_;clear hK K;clear hbx;refine wOn 16 fun K hK=>?_
 go_simp;refine(HF2.o _ HX.o).mono ?_;rintro e v5 ⟨rfl,hbx⟩;have hbx:=HX.o.trans (hbx.mono HX.o.size);clear HX;have HX:=hI hbx;refine kK hK hbx ?_;clear hK K;clear hbx;refine wOn 17 fun K hK=>?_
 go_simp;refine kK hK HX.o ?_;clear hK K;refine wOn 18 fun K hK=>?_
 go_simp;refine kK hK HX.o ?_;clear hK K;refine wOn 19 fun K hK=>?_
 go_simp;refine kD hK ?_;clear hK K;refine wDn ?_ _;go_wp2
 go_ret;exact⟨by simp,HB3.o.trans (HX.o.mono HB3.o.size)⟩
end Go.Proofs.YtiajhekdhhhghaaGreatDoor
