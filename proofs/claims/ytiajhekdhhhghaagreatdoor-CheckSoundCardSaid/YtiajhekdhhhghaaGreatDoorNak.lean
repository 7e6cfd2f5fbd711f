/- Walks. -/
import Derived.Laws.EntriesVeiled
import Derived.Test.YtiajhekdhhhghaaGreatDoorRows
import Derived.ProofKit
import Derived.LaidMore
import Derived.OpenShut
import Derived.Stop.Joined
import Derived.Deep.Slices
import Derived.Lib.SmallJoins
import Derived.Test.YtiajhekdhhhghaaGreatDoorNaj
set_option linter.all false
set_option maxHeartbeats 8000000
set_option maxRecDepth 100000
namespace Go.Proofs.YtiajhekdhhhghaaGreatDoor
open Tryz Go.Proofs.Tryz
open Go Go.RowKit
structure qZj(N:Nat)(x:List UInt8)(T:Ty)(n:Int)(vv bv:Value)(w:World):Prop where
 c0:w.cell? ⟨N,0,none⟩=some (.string ⟨x.toArray⟩)
 c1:w.cell? ⟨N,1,none⟩=some (.int .i64 T.1)
 c2:w.cell? ⟨N,2,none⟩=some (.bool T.2)
 c3:w.cell? ⟨N,3,none⟩=some (.int .i64 n)
 c4:w.cell? ⟨N,4,none⟩=some vv
 c5:w.cell? ⟨N,5,none⟩=some bv
 f:∀ k,k < 6->w.frozen? ⟨N,k,none⟩=false
theorem qZj.a{N:Nat}{x:List UInt8}{T:Ty}{n:Int}{vv bv:Value}{w:World}(h:qZj N x T n vv bv w):w.cell? ⟨N,0,none⟩=some (.string ⟨x.toArray⟩)/\w.cell? ⟨N,1,none⟩=some (.int .i64 T.1)/\w.cell? ⟨N,2,none⟩=some (.bool T.2)/\w.cell? ⟨N,3,none⟩=some (.int .i64 n)/\w.cell? ⟨N,4,none⟩=some vv/\w.cell? ⟨N,5,none⟩=some bv/\True:=⟨h.c0,h.c1,h.c2,h.c3,h.c4,h.c5,trivial⟩
theorem qZj.b{N:Nat}{x:List UInt8}{T:Ty}{n:Int}{vv bv:Value}{w:World}(h:qZj N x T n vv bv w):w.frozen? ⟨N,0,none⟩=false/\w.frozen? ⟨N,1,none⟩=false/\w.frozen? ⟨N,2,none⟩=false/\w.frozen? ⟨N,3,none⟩=false/\w.frozen? ⟨N,4,none⟩=false/\w.frozen? ⟨N,5,none⟩=false/\True:=⟨h.f 0 (by decide),h.f 1 (by decide),h.f 2 (by decide),h.f 3 (by decide),h.f 4 (by decide),h.f 5 (by decide),trivial⟩
theorem qZj.lt{N:Nat}{x:List UInt8}{T:Ty}{n:Int}{vv bv:Value}{w:World}(h:qZj N x T n vv bv w):N < w.1.size:=qJ h.c0
theorem qZj.turn{N:Nat}{x:List UInt8}{T:Ty}{n:Int}{vv bv:Value}{w w':World}(h:qZj N x T n vv bv w)(hb:w'.1[N]? = w.1[N]?):qZj N x T n vv bv w' :=
 have e:=fun {o:Nat} {u:Value} (e:w.cell? ⟨N,o,none⟩=some u)=>(cB (w:=w) (w':=w') (a:=⟨N,o,none⟩) hb).trans e
 ⟨e h.c0,e h.c1,e h.c2,e h.c3,e h.c4,e h.c5,fun j hj=>(World.frozen?_of_block hb).trans (h.f j hj)⟩
theorem qZj.below{N:Nat}{x:List UInt8}{T:Ty}{n:Int}{vv bv:Value}{w w':World}(h:qZj N x T n vv bv w)(hb:Below w.1.size w w'):qZj N x T n vv bv w':=h.turn (hb.block _ h.lt)
theorem qZj.new(w:World):qZj w.1.size [] (0,false) 0 (.slice none 0 0) (.slice none 0 0) (w.alloc (.cells #[.string ⟨#[]⟩, .int .i64 0, .bool false, .int .i64 0, .slice none 0 0, .slice none 0 0] 40)):=by
 constructor
 case f=>intro k j;match k,j with | 0,_=>simp[go_sem] | 1,_=>simp[go_sem] | 2,_=>simp[go_sem] | 3,_=>simp[go_sem] | 4,_=>simp[go_sem] | 5,_=>simp[go_sem]
 all_goals simp[go_sem]
theorem qZj.six{N:Nat}{x:List UInt8}{T:Ty}{n:Int}{vv bv:Value}{w:World}(h:qZj N x T n vv bv w)(s:List UInt8)(T':Ty)(n':Int)(vv' o:Value) :
 qZj N s T' n' vv' o ((((((w.setCell ⟨N,0,none⟩ (.string ⟨s.toArray⟩)).setCell ⟨N,1,none⟩ (.int .i64 T'.1)).setCell ⟨N,2,none⟩ (.bool T'.2)).setCell ⟨N,3,none⟩ (.int .i64 n')).setCell ⟨N,4,none⟩ vv').setCell ⟨N,5,none⟩ o):=by
 have⟨A,z,h2,h3,h4,C,_⟩:=h.a;have hf:=h.f;constructor
 case f=>intro j y;have:=hf j y;simp[go_sem, *]
 all_goals simp[go_sem, *]
theorem qZj.setV{N:Nat}{x:List UInt8}{T:Ty}{n:Int}{vv bv:Value}{w:World}(h:qZj N x T n vv bv w)(vv':Value):qZj N x T n vv' bv (w.setCell ⟨N,4,none⟩ vv'):=by
 have⟨y,s,h2,h3,h4,z,_⟩:=h.a;have hf:=h.f;constructor
 case f=>intro j o;have:=hf j o;simp[go_sem, *]
 all_goals simp[go_sem, *]
theorem qPW{ps:List qQ}{k:Nat}{acc:List qI}(h:k < ps.length):yH (ps.drop k) acc=(jQ (decide (acc.length < 64)) ps[k] 45).bind fun _=>(jQ (qQj ps[k].text 0 acc).isNone ps[k] 40).bind fun _=>yH (ps.drop (k+1)) (acc++[qZr ps[k]]):=by
 rw[List.drop_eq_getElem_cons h,yH]
theorem qYB.snoc{l:List qI}{d:qI}(h:qYB l)(o:qZc d.name 0 (l.map (·.name))=none)(hd:d.name.length<=1000000):qYB (l++[d]):=by
 intro k j;rw[lL]at j;simp only[lO,lZ]at j;by_cases hl:k < l.length
 ·rw[List.getElem_append_left hl,List.take_append_of_le_length (by omega)];exact h k hl
 ·have e:k=l.length:=by omega
  subst e;rw[List.getElem_append_right (Nat.le_refl _),List.take_append_of_le_length (by omega),List.take_of_length_le (Nat.le_refl _)];simpa using⟨o,hd⟩
structure FIn(Nf Mn:Nat)(t:qQ)(v:Value)(x:List UInt8)(T:Ty)(ps:List qQ)(k:Nat)(acc:List qI)(vv:Value)(nms:List (List UInt8))(w wr:World):Prop where
 hb:Below w.1.size w wr
 nd:Bx w.1.size t v wr
 fb:qZj Nf x T ps.length vv (.slice none 0 0) wr
 nm:wY wr Mn nms
 vr:qQI wr (Mn+1) acc vv
 di:qYB acc
 hp:yH ps []=yH (ps.drop k) acc
 hl:acc.length=k
 lo:w.1.size < Nf/\Nf < Mn
 k64:k<=64
section
variable {Nf Mn:Nat} {t:qQ} {v:Value} {x:List UInt8} {T:Ty} {ps:List qQ} {k:Nat} {acc:List qI} {vv:Value} {nms:List (List UInt8)} {w wr wr':World}
theorem FIn.below(h:FIn Nf Mn t v x T ps k acc vv nms w wr)(hb:Below wr.1.size wr wr'):FIn Nf Mn t v x T ps k acc vv nms w wr' :=
 ⟨h.hb.trans (hb.mono h.hb.size),h.nd.below hb,h.fb.below hb,h.nm.below hb,zU h.vr (fun g hg=>hb.block g (h.vr.lt g hg).2),h.di,h.hp,h.hl,h.lo,h.k64⟩
theorem FIn.store(h:FIn Nf Mn t v x T ps k acc vv nms w wr){j:List (List UInt8)}(hg:wr.grownBy wr' (some Mn))(hm:wY wr' Mn j):FIn Nf Mn t v x T ps k acc vv j w wr' :=
 have hlo:=h.lo;have o:∀ b,b < wr.1.size->b≠Mn->wr'.1[b]? = wr.1[b]?:=fun b hb hne=>hg.block b hb (fun e=>hne (by injection e))
 have s:=h.hb.size
 ⟨⟨hg.os.trans h.hb.os,hg.tape.trans h.hb.tape,hg.output.trans h.hb.output,Nat.le_trans s hg.size,fun b hb=>(o b (by omega) (by omega)).trans (h.hb.block b hb)⟩,(o _ h.nd.lt (by omega)).trans h.nd,h.fb.turn (o _ h.fb.lt (by omega)),hm,zU h.vr (fun g hg'=>o g (h.vr.lt g hg').2 (by have:=(h.vr.lt g hg').1;omega)),h.di,h.hp,h.hl,h.lo,h.k64⟩
theorem FIn.more(h:FIn Nf Mn t v x T ps k acc vv nms w wr){d:qI}{vv':Value}(hs:wr.1.size<=wr'.1.size)(ho:wr'.os=wr.os)(ht:wr'.tape=wr.tape)(I:wr'.output=wr.output)
 (C:∀ b,b < wr.1.size->some b≠vv.ownBlock->wr'.1[b]? = wr.1[b]?) (j:wr'.ownsRow (Mn+1) 42 4 vv' (k+1) (xD qQe acc++qQe d))
 (G:nms=(acc++[d]).map (·.name)) (hd:qYB (acc++[d])) (hp:yH ps []=yH (ps.drop (k+1)) (acc++[d])) (A:k < 64) :
 FIn Nf Mn t v x T ps (k+1) (acc++[d]) vv' ((acc++[d]).map (·.name)) w (wr'.setCell ⟨Nf,4,none⟩ vv'):=by
 have hlo:=h.lo;have hl:=h.hl;have J:=h.hb.size;have s:∀ b,b < wr.1.size->b<=Mn->wr'.1[b]? = wr.1[b]?:=fun b hb hle=>C b hb (fun e=>by have:=(h.vr.lt b e.symm).1;omega)
 have o:∀ b,b≠Nf->(wr'.setCell ⟨Nf,4,none⟩ vv').1[b]? = wr'.1[b]?:=fun b hb=>hS _ _ _ _ hb
 have z:=h.nm;have y:=h.nm.lt;subst G;refine⟨⟨ho.trans h.hb.os,ht.trans h.hb.tape,I.trans h.hb.output,by simp;omega,fun b hb=>(o b (by omega)).trans ((s b (by omega) (by omega)).trans (h.hb.block b hb))⟩,(o _ (by omega)).trans ((s _ h.nd.lt (by omega)).trans h.nd),(h.fb.turn (s _ h.fb.lt (by omega))).setV vv',z.kept ((o _ (by omega)).trans (s _ y (by omega))),?_,hd,hp,by simp[hl],h.lo,by omega⟩;unfold qQI;rw[lL,qZt,hl];simp only[lO,lZ,xD,lA];exact zU j (fun g hg=>o g (by have:=(j.lt g hg).1;omega))
end
def FcRel(Nf Mn:Nat)(t:qQ)(v:Value)(x:List UInt8)(T:Ty)(ps:List qQ)(w:World)(i:Value)(wr:World):Prop :=
 ∃ (k:Nat) (acc:List qI) (vv:Value),k<=ps.length/\i=.int .i64 k/\FIn Nf Mn t v x T ps k acc vv (acc.map (·.name)) w wr
theorem info40:(prog.info? 40).map (fun i=>(i.zero,i.size,i.bytes))=some (some (.agg #[.string ⟨#[]⟩, .int .i64 0, .bool false, .int .i64 0, .slice none 0 0, .slice none 0 0]),6,88):=by kernel_rfl
theorem fnC_one(f:FnM)(o:f.vv.oneCell'=true)(h2:f.bv.oneCell'=true):∀ u∈fnC f,u.oneCell'=true:=by
 intro u j;simp[fnC]at j;rcases j with rfl | rfl | rfl | rfl | rfl | rfl;all_goals first | rfl | assumption
theorem qUM(S:HdS)(t u z:qQ)(ps:List qQ)(h:t.kids=u :: (ps++[z])):wF S t=(jQ (decide (S.fs.length < 16)) t 45).bind fun _=>(yF S t).bind fun _=>(yH ps []).bind fun l=>.ok ⟨S.gs,S.fs++[⟨t.text,tyL u.text,l⟩]⟩:=by
 unfold wF;rw[h];have e:((u :: (ps++[z])).dropLast.drop 1)=ps:=by
  rw[show u :: (ps++[z])=(u :: ps)++[z]from rfl,List.dropLast_concat];rfl
 rw[e];rfl
theorem qWA.mid{B:Nat}{w:World}{u z:qQ}{ps:List qQ}{g j:Nat}(h:qWA B w (u :: (ps++[z])) g j):qWA B w ps g (j+6):=by
 refine⟨h.1,fun i hi=>?_⟩;obtain⟨q,n,c,o,h2⟩:=h.2 (i+1) (by simp;omega);have e:(u :: (ps++[z]))[i+1]'(by simp;omega)=ps[i]:=by
  rw[List.getElem_cons_succ,List.getElem_append_left hi]
 rw[e]at o h2;exact⟨q,n,c,o,by rw[show j+6+i * 6=j+(i+1) * 6 by omega];exact h2⟩
def FMade(x:List UInt8)(T:Ty)(n:Nat)(W:World)(N:Nat)(w':World):Prop:=Below W.1.size W w'/\qZj N x T n (.slice none 0 0) (.slice none 0 0) w'/\W.1.size<=N
theorem qUN(B L:Nat)(gs:List qI)(fs:List FnM)(gv fv:Value)(Mg Mf Mr:Nat)(cl:vE)(t u z:qQ)(ps:List qQ)(v:Value)(w:World)(h:HIn B L gs fs gv fv Mg Mf Mr cl (yV gs) w)
 (hL:L<=w.1.size) (n7:t.kids=u :: (ps++[z])) (hl:xZ w (· < L) t v) (hx:t.text.length<=1000000) (M8:t.kids.length<=1000000) (D5:∀ a∈ps,a.text.length<=1000000/\a.kids≠[]) :
 Calls prog 85 #[.pointer (some ⟨B,0,none⟩),qZ t v] w (wP B L Mg Mf Mr cl (wF ⟨gs,fs.map (fun f=>f.h)⟩ t) w):=by
 obtain⟨q,c,rfl,s4,hc2,s⟩:=hl.kids;have g6:=hI (bal (Below.refl w.1.size w) (qB t (.slice q t.kids.length c)));have HN:=hI (Bx.new t (.slice q t.kids.length c) w);have HW:=hI (h.below g6.o);have N9:(w.alloc (qB t (.slice q t.kids.length c))).1.size=w.1.size+1:=by simp
 have D0:=hI (qUM ⟨gs,fs.map (fun f=>f.h)⟩ t u z ps n7);have F8:=hI (fun b cd w'=>qQk b t (.slice q t.kids.length c) cd w');have D3:=hI (fun w' (h':HIn B L gs fs gv fv Mg Mf Mr cl (yV gs) w')=>qWf B L gs fs gv fv Mg Mf Mr cl (yV gs) t (.slice q t.kids.length c) w' h' hx ⟨_,_,rfl⟩);have HX:=hI hx;have H0:=hI h;have T0:=hI D5;obtain⟨g2,O,rfl,m6⟩:=s.resolve_left (by rw[n7];simp);have d7:t.kids.length=ps.length+1+1:=by rw[n7];simp
 rw[n7]at m6;have N1:=hI m6.mid;obtain⟨uq,un,r4,G2,d2⟩:=m6.2 0 (by simp);simp only[List.getElem_cons_zero,Nat.zero_mul,Nat.add_zero]at G2 d2;have hg2:=m6.1;have F0:B < w.1.size:=qJ h.c0;have p6:=hI (fun w' (hb:Below w.1.size w w')=>qKd u (.slice uq un r4) w' (h.wtab.below hb));have d2:=d2.move (g6.o.block g2 (by omega));have s4:=Nat.le_trans (Nat.le_of_eq d7.symm) s4;obtain⟨J,s9⟩:∃ n,ps.length=n:=⟨_,rfl⟩;have hpb:J < 1000000:=by omega
 have n6:=hI s9;rw[s9]at d7 s4;generalize hU:tyL u.text=U at *;obtain⟨U0,U1⟩:=U;clear h hl s n7 m6 hx D5 G2 hU M8 s9;obtain⟨k,x,m,ln,co,ks⟩:=t;obtain⟨uk,ux,um,ul,uc,uks⟩:=u;obtain⟨fq,fc,M4⟩:∃ q c,fv=.slice q fs.length c:=by
  rcases H0.o.frow.2 with⟨h1,h0⟩ | ⟨g,G8,G4,h1,_⟩
  ·exact⟨none,0,by rw[h0];exact h1⟩
  ·exact⟨_,_,h1⟩
 obtain⟨fl,p9⟩:∃ fl:Nat,fl=fs.length:=⟨_,rfl⟩;have D1:=H0.o.fl;have m7:=hI (show fv=.slice fq fl fc by rw[M4,p9]);have d8:=hI p9;rw[<-p9]at D1;clear p9;simp only[qZ,qB,qS,tyV,qQ.kind,qQ.text,qQ.num,qQ.line,qQ.col,qQ.kids]at *;rw[d7]at g6 HN HW N9 F8 D3 d2;rw[d7];clear d7;have hci:(J:Int)+1+1<=(c:Nat):=by omega
 go_enter func85,ntmps85
 go_wp2
 generalize (w.alloc _)=W at *;have D8:w.1.size<=W.1.size:=by omega
 obtain⟨n0,n1,n2,n3,n4,n5⟩:=HN.o.cells;try simp only[qQ.kind,qQ.text,qQ.num,qQ.line,qQ.col,qQ.kids]at n0 n1 n2 n3 n4 n5
 have c1:=HW.o.c1;rw[m7.o]at c1;clear M4;refine wRg (S:=fun w'=>Below W.1.size W w') 8 ?_;refine wTk 0 11 (.pointer (some ⟨B,0,none⟩)) ?_ (bD W) ?_
 ·intro _ y;go_simp
 refine wTk 1 12 (.pointer (some ⟨B,0,none⟩)) ?_ (bD W) ?_
 ·intro _ y;go_simp
 refine wTk 2 13 (.pointer (some ⟨B,0,none⟩)) ?_ (bD W) ?_
 ·intro _ y;go_simp
 refine wTk 3 14 (.pointer (some ⟨B,1,none⟩)) ?_ (bD W) ?_
 ·intro _ y;go_simp
 refine wTk 4 15 (.slice fq fl fc) ?_ (bD W) ?_
 ·intro _ y;have c1:=kP y c1;go_simp
 refine wTk 5 16 (.int .i64 fl) ?_ (bD W) ?_
 ·intro _ y;go_simp
 refine wTk 6 17 (.bool (decide ((fl:Int) < 16))) ?_ (bD W) ?_
 ·intro _ y;go_simp
 refine wTk 7 18 (.agg #[.string ⟨k.toArray⟩, .string ⟨x.toArray⟩, .int .u64 m, .int .i64 ln, .int .i64 co, .slice (some ⟨g2,O,none⟩) (J+1+1) c]) ?_ (bD W) ?_
 ·intro _ y;obtain⟨n0,n1,n2,n3,n4,n5⟩:=kP6 y n0 n1 n2 n3 n4 n5;go_simp
 refine wOn 8 fun K s=>?_
 go_simp;refine(F8.o _ 45 _).mono ?_;rintro e w4 (⟨hbt,rfl,hb4⟩ | ⟨hbt,rfl,hb4⟩);rotate_left
 ·exact⟨rfl,wP.badI (ln:=ln) (co:=co) (code:=45) (by rw[D0.o,show decide ((fs.map (fun f=>f.h)).length < 16)=false by rw[List.length_map,<-d8.o];have:=of_decide_eq_false hbt;exact decide_eq_false (by omega)];rfl) (jW.of_below (g6.o.trans ((zF hb4).mono D8)))⟩
 have hb4:=zF hb4;have M0:fl < 16:=by have:=of_decide_eq_true hbt;omega
 have s0:=hI (D0.o.trans (by rw[show decide ((fs.map (fun f=>f.h)).length < 16)=true by rw[List.length_map,<-d8.o];exact decide_eq_true M0];rfl:_=(yF ⟨gs,fs.map (fun f=>f.h)⟩ (.mk k x m ln co ks)).bind fun _=>(yH ps []).bind fun l=>.ok ⟨gs,fs.map (fun f=>f.h)++[⟨x,(U0,U1),l⟩]⟩));have t2:=hI (HW.o.below hb4);have d9:=hI (g6.o.trans (hb4.mono D8));have g0:=hI (HN.o.below hb4);have T9:=hb4.size;have d2:=d2.move (hb4.block g2 (by omega));refine kD s ?_;clear s K hb4 n0 n1 n2 n3 n4 n5 c1 HW HN g6 D0 hbt;try simp only[Act.put,pZa,pZb,pZc]
 refine wDn ?_ _;obtain⟨n0,n1,n2,n3,n4,n5⟩:=g0.o.cells;try simp only[qQ.kind,qQ.text,qQ.num,qQ.line,qQ.col,qQ.kids]at n0 n1 n2 n3 n4 n5
 go_wp2_with fail
 refine(D3.o _ t2.o).mono ?_;rintro e W2 hX;rcases hX.cases with⟨a,u',hp,rfl,rfl,f6⟩ | ⟨l',c',code,hp,rfl,f6⟩;rotate_left
 ·exact⟨rfl,wP.badI (by rw[s0.o,hp];rfl) (jW.of_below (d9.o.trans (f6.mono d9.o.size)))⟩
 have M2:=hI (qKQ hp);have s7:=hI (s0.o.trans (by rw[hp];rfl:_=(yH ps []).bind fun l=>.ok ⟨gs,fs.map (fun f=>f.h)++[⟨x,(U0,U1),l⟩]⟩));have D9:=hI (t2.o.below f6);have n9:=hI (d9.o.trans (f6.mono d9.o.size));have D2:=hI (g0.o.below f6);have hs7:=f6.size;have d2:=d2.move (f6.block g2 (by omega));clear n0 n1 n2 n3 n4 n5 hX hp f6 t2 g0 s0 D3;obtain⟨n0,n1,n2,n3,n4,n5⟩:=D2.o.cells;have⟨k0,k1,k2,k3,k4,k5,_⟩:=d2.a;try simp only[qQ.kind,qQ.text,qQ.num,qQ.line,qQ.col,qQ.kids]at n0 n1 n2 n3 n4 n5 k0 k1 k2 k3 k4 k5
 have r9:IntKind.i64.wrap (((J+1+1:Nat):Int) - 1)=(J+1:Nat):=by rw[IntWalk.i64_in _ (by omega)];omega
 have p8:IntKind.i64.wrap ((J:Int)+1+1 - 1)=(J:Int)+1:=by rw[IntWalk.i64_in _ (by omega)];omega
 have hw3:IntKind.i64.wrap ((J:Int)+1)=(J:Int)+1:=IntWalk.i64_in _ (by omega);have g5:w.1.size<=W2.1.size:=by omega
 go_wp2
 refine qXG (fun a0 r=>((((((((((((a0.put (some 30) (.pointer (some ⟨w.1.size,1,none⟩))).put (some 31) (.string ⟨x.toArray⟩)).put (some 33) (.pointer (some ⟨w.1.size,5,none⟩))).put (some 34) (.slice (some ⟨g2,O,none⟩) (J+1+1) c)).put (some 35) (.pointer (some ⟨g2,O,none⟩))).put (some 36) (.agg #[.string ⟨uk.toArray⟩, .string ⟨ux.toArray⟩, .int .u64 um, .int .i64 ul, .int .i64 uc, .slice uq un r4])).put (some 38) (.slice (some ⟨g2,O+6,none⟩) J (c - 1))).put (some 39) (.int .i64 J)).put (some 32) (.string ⟨x.toArray⟩)).put (some 37) (.agg #[.int .i64 U0, .bool U1])).put (some 40) (.agg #[.string ⟨x.toArray⟩, .int .i64 U0, .bool U1, .int .i64 J, .slice none 0 0, .slice none 0 0])).put (some 5) (.pointer (some ⟨r,0,none⟩)))) (FMade x (U0,U1) J W2) ?_ ?_
 ·refine wRg (S:=fun w'=>Below W2.1.size W2 w') 99 ?_;refine wTk 0 30 (.pointer (some ⟨w.1.size,1,none⟩)) ?_ (bD W2) ?_
  ·intro _ y;go_simp
  refine wTk 1 31 (.string ⟨x.toArray⟩) ?_ (bD W2) ?_
  ·intro _ y;have n1:=kP y n1;go_simp
  refine wTk 3 33 (.pointer (some ⟨w.1.size,5,none⟩)) ?_ (bD W2) ?_
  ·intro _ y;go_simp
  refine wTk 4 34 (.slice (some ⟨g2,O,none⟩) (J+1+1) c) ?_ (bD W2) ?_
  ·intro _ y;have n5:=kP y n5;go_simp
  refine wTk 5 35 (.pointer (some ⟨g2,O,none⟩)) ?_ (bD W2) ?_
  ·intro _ y;go_simp;intro h;omega
  refine wTk 6 36 (.agg #[.string ⟨uk.toArray⟩, .string ⟨ux.toArray⟩, .int .u64 um, .int .i64 ul, .int .i64 uc, .slice uq un r4]) ?_ (bD W2) ?_
  ·intro _ y;obtain⟨k0,k1,k2,k3,k4,k5⟩:=kP6 y k0 k1 k2 k3 k4 k5;go_simp
  refine wTk 8 38 (.slice (some ⟨g2,O+6,none⟩) J (c - 1)) ?_ (bD W2) ?_
  ·intro _ y;go_simp
  refine wTk 9 39 (.int .i64 J) ?_ (bD W2) ?_
  ·intro _ y;go_simp
  have g9:=hI ((Below.refl W2.1.size W2).drew);clear n0 n1 n2 n3 n4 n5 k0 k1 k2 k3 k4 k5;generalize World.drew W2=C0 at *;refine jA (i:=2) (j:=11) rfl rfl (by kernel_rfl) (by rfl) (by rfl) (fun K s=>?_) (fun K s=>?_)
  ·go_simp;refine(yP ⟨x.toArray⟩ _ (by have:=HX.o;simpa[ByteArray.size]using this)).mono ?_;rintro e C1 ⟨rfl,hb⟩;have hw0:=g9.o.size;have R:=hI (g9.o.trans (hb.mono g9.o.size));have T4:=hb.size;refine kK s R.o ?_;clear s K hb;try simp only[Act.put,pZa,pZb,pZc]
   refine jA (i:=7) (j:=11) rfl rfl (by kernel_rfl) (by rfl) (by rfl) (fun K s=>?_) (fun K s=>?_)
   ·go_simp;refine(p6.o C1 (n9.o.trans (R.o.mono g5))).mono ?_;rintro e C2 ⟨rfl,hb⟩;have r9:=R.o.size;have G:=hI (R.o.trans (hb.mono R.o.size));have hs2:=hb.size;refine kK s G.o ?_;clear s K hb;try simp only[Act.put,pZa,pZb,pZc]
    refine jA (i:=10) (j:=11) rfl rfl (by kernel_rfl) (by rfl) (by rfl) (fun K s=>?_) (fun K s=>?_)
    ·go_simp;refine kK s G.o ?_;clear s K;have C:=G;refine wOn 11 fun K s=>?_
     go_simp;refine kK s (bal G.o _) ?_;clear s K;have C:=hI (bal G.o (.cells #[.string ⟨#[]⟩, .int .i64 0, .bool false, .int .i64 0, .slice none 0 0, .slice none 0 0] 40));have hs3:C2.1.size < (C2.alloc (.cells #[.string ⟨#[]⟩, .int .i64 0, .bool false, .int .i64 0, .slice none 0 0, .slice none 0 0] 40)).1.size:=by simp
     have p8:=G.o.size;have A:=hI (show qZj C2.1.size [] (0,false) 0 (.slice none 0 0) (.slice none 0 0) (C2.alloc (.cells #[.string ⟨#[]⟩, .int .i64 0, .bool false, .int .i64 0, .slice none 0 0, .slice none 0 0] 40))from qZj.new C2);generalize (C2.alloc (.cells #[.string ⟨#[]⟩, .int .i64 0, .bool false, .int .i64 0, .slice none 0 0, .slice none 0 0] 40))=C3 at *;refine wOn 12 fun K s=>?_
     have x0:=A.o.c0;have s5:=A.o.f 0 nL;have x1:=A.o.c1;have r8:=A.o.f 1 nL;have x2:=A.o.c2;have t5:=A.o.f 2 nL;have x3:=A.o.c3;have r7:=A.o.f 3 nL;have x4:=A.o.c4;have t4:=A.o.f 4 nL;have x5:=A.o.c5;have D4:=A.o.f 5 nL;simp only at x0 x1 x2 x3 x4 x5;go_simp;refine kK s (vN C.o (by omega) _ _ _ _ _ _) ?_;clear s K;refine wDn ?_ _;exact⟨C2.1.size,by simp only[Act.put,pZa,pZb,pZc],vN C.o (by omega) _ _ _ _ _ _,A.o.six x (U0,U1) J (.slice none 0 0) (.slice none 0 0),by show W2.1.size<=C2.1.size;omega⟩
    ·go_simp;refine kK s (bal G.o _) ?_;clear s K;have C:=hI (bal G.o (.cells #[.string ⟨#[]⟩, .int .i64 0, .bool false, .int .i64 0, .slice none 0 0, .slice none 0 0] 40));have hs3:C2.1.size < (C2.alloc (.cells #[.string ⟨#[]⟩, .int .i64 0, .bool false, .int .i64 0, .slice none 0 0, .slice none 0 0] 40)).1.size:=by simp
     have p8:=G.o.size;have A:=hI (show qZj C2.1.size [] (0,false) 0 (.slice none 0 0) (.slice none 0 0) (C2.alloc (.cells #[.string ⟨#[]⟩, .int .i64 0, .bool false, .int .i64 0, .slice none 0 0, .slice none 0 0] 40))from qZj.new C2);generalize (C2.alloc (.cells #[.string ⟨#[]⟩, .int .i64 0, .bool false, .int .i64 0, .slice none 0 0, .slice none 0 0] 40))=C3 at *;refine wOn 10 fun K s=>?_
     go_simp;refine kK s C.o ?_;clear s K;have d9:=C;refine wOn 12 fun K s=>?_
     have x0:=A.o.c0;have s5:=A.o.f 0 nL;have x1:=A.o.c1;have r8:=A.o.f 1 nL;have x2:=A.o.c2;have t5:=A.o.f 2 nL;have x3:=A.o.c3;have r7:=A.o.f 3 nL;have x4:=A.o.c4;have t4:=A.o.f 4 nL;have x5:=A.o.c5;have D4:=A.o.f 5 nL;simp only at x0 x1 x2 x3 x4 x5;go_simp;refine kK s (vN C.o (by omega) _ _ _ _ _ _) ?_;clear s K;refine wDn ?_ _;exact⟨C2.1.size,by simp only[Act.put,pZa,pZb,pZc],vN C.o (by omega) _ _ _ _ _ _,A.o.six x (U0,U1) J (.slice none 0 0) (.slice none 0 0),by show W2.1.size<=C2.1.size;omega⟩
   ·go_simp;refine kK s (bal R.o _) ?_;clear s K;have G:=hI (bal R.o (.cells #[.string ⟨#[]⟩, .int .i64 0, .bool false, .int .i64 0, .slice none 0 0, .slice none 0 0] 40));have hs2:C1.1.size < (C1.alloc (.cells #[.string ⟨#[]⟩, .int .i64 0, .bool false, .int .i64 0, .slice none 0 0, .slice none 0 0] 40)).1.size:=by simp
    have r9:=R.o.size;have A:=hI (show qZj C1.1.size [] (0,false) 0 (.slice none 0 0) (.slice none 0 0) (C1.alloc (.cells #[.string ⟨#[]⟩, .int .i64 0, .bool false, .int .i64 0, .slice none 0 0, .slice none 0 0] 40))from qZj.new C1);generalize (C1.alloc (.cells #[.string ⟨#[]⟩, .int .i64 0, .bool false, .int .i64 0, .slice none 0 0, .slice none 0 0] 40))=C2 at *;refine wOn 7 fun K s=>?_
    go_simp;refine(p6.o C2 (n9.o.trans (G.o.mono g5))).mono ?_;rintro e C3 ⟨rfl,hb⟩;have p8:=G.o.size;have C:=hI (G.o.trans (hb.mono G.o.size));have hs3:=hb.size;have A:=hI (A.o.below hb);refine kK s C.o ?_;clear s K hb;try simp only[Act.put,pZa,pZb,pZc]
    refine wOn 10 fun K s=>?_
    go_simp;refine kK s C.o ?_;clear s K;have d9:=C;refine wOn 12 fun K s=>?_
    have x0:=A.o.c0;have s5:=A.o.f 0 nL;have x1:=A.o.c1;have r8:=A.o.f 1 nL;have x2:=A.o.c2;have t5:=A.o.f 2 nL;have x3:=A.o.c3;have r7:=A.o.f 3 nL;have x4:=A.o.c4;have t4:=A.o.f 4 nL;have x5:=A.o.c5;have D4:=A.o.f 5 nL;simp only at x0 x1 x2 x3 x4 x5;go_simp;refine kK s (vN C.o (by omega) _ _ _ _ _ _) ?_;clear s K;refine wDn ?_ _;exact⟨C1.1.size,by simp only[Act.put,pZa,pZb,pZc],vN C.o (by omega) _ _ _ _ _ _,A.o.six x (U0,U1) J (.slice none 0 0) (.slice none 0 0),by show W2.1.size<=C1.1.size;omega⟩
  ·go_simp;refine kK s (bal g9.o _) ?_;clear s K;have R:=hI (bal g9.o (.cells #[.string ⟨#[]⟩, .int .i64 0, .bool false, .int .i64 0, .slice none 0 0, .slice none 0 0] 40));have T4:C0.1.size < (C0.alloc (.cells #[.string ⟨#[]⟩, .int .i64 0, .bool false, .int .i64 0, .slice none 0 0, .slice none 0 0] 40)).1.size:=by simp
   have hw0:=g9.o.size;have A:=hI (show qZj C0.1.size [] (0,false) 0 (.slice none 0 0) (.slice none 0 0) (C0.alloc (.cells #[.string ⟨#[]⟩, .int .i64 0, .bool false, .int .i64 0, .slice none 0 0, .slice none 0 0] 40))from qZj.new C0);generalize (C0.alloc (.cells #[.string ⟨#[]⟩, .int .i64 0, .bool false, .int .i64 0, .slice none 0 0, .slice none 0 0] 40))=C1 at *;refine wOn 2 fun K s=>?_
   go_simp;refine(yP ⟨x.toArray⟩ _ (by have:=HX.o;simpa[ByteArray.size]using this)).mono ?_;rintro e C2 ⟨rfl,hb⟩;have r9:=R.o.size;have G:=hI (R.o.trans (hb.mono R.o.size));have hs2:=hb.size;have A:=hI (A.o.below hb);refine kK s G.o ?_;clear s K hb;try simp only[Act.put,pZa,pZb,pZc]
   refine wOn 7 fun K s=>?_
   go_simp;refine(p6.o C2 (n9.o.trans (G.o.mono g5))).mono ?_;rintro e C3 ⟨rfl,hb⟩;have p8:=G.o.size;have C:=hI (G.o.trans (hb.mono G.o.size));have hs3:=hb.size;have A:=hI (A.o.below hb);refine kK s C.o ?_;clear s K hb;try simp only[Act.put,pZa,pZb,pZc]
   refine wOn 10 fun K s=>?_
   go_simp;refine kK s C.o ?_;clear s K;have d9:=C;refine wOn 12 fun K s=>?_
   have x0:=A.o.c0;have s5:=A.o.f 0 nL;have x1:=A.o.c1;have r8:=A.o.f 1 nL;have x2:=A.o.c2;have t5:=A.o.f 2 nL;have x3:=A.o.c3;have r7:=A.o.f 3 nL;have x4:=A.o.c4;have t4:=A.o.f 4 nL;have x5:=A.o.c5;have D4:=A.o.f 5 nL;simp only at x0 x1 x2 x3 x4 x5;go_simp;refine kK s (vN C.o (by omega) _ _ _ _ _ _) ?_;clear s K;refine wDn ?_ _;exact⟨C0.1.size,by simp only[Act.put,pZa,pZb,pZc],vN C.o (by omega) _ _ _ _ _ _,A.o.six x (U0,U1) J (.slice none 0 0) (.slice none 0 0),by show W2.1.size<=C0.1.size;omega⟩
 ·rintro Nf W3 ⟨hb3,hF,hNf⟩;have hN3:=hF.lt;have hs3:=hb3.size;have C:=hI (n9.o.trans (hb3.mono g5));have N7:=hI (D9.o.below hb3);have F2:=hI (D2.o.below hb3);have F4:=hI hF;have p4:=bal (Below.refl W3.1.size W3) (.map #[] 0);have M6:=hI (show FIn Nf W3.1.size (.mk k x m ln co ks) (.slice (some ⟨g2,O,none⟩) (J+1+1) c) x (U0,U1) ps 0 [] (.slice none 0 0) [] w (W3.alloc (.map #[] 0))from
   ⟨C.o.trans (p4.mono C.o.size),F2.o.below p4,by rw[n6.o];exact F4.o.below p4,wY.made W3,⟨rfl, .inl ⟨rfl,rfl⟩⟩,fun k hk=>by simp at hk,rfl,rfl,by omega,by omega⟩)
  clear n0 n1 n2 n3 n4 n5 k0 k1 k2 k3 k4 k5 hb3 hF p4 C N7 F2 F4 n9 D9 D2 d2 d9 p6;try simp only[Act.put,pZa,pZb,pZc]
  have T2:=@run_makeMap prog;go_wp2
  clear T2;go_loopw [44] (fun i wr=>FcRel Nf W3.1.size (.mk k x m ln co ks) (.slice (some ⟨g2,O,none⟩) (J+1+1) c) x (U0,U1) ps w i wr) (fun i _=>ps.length - (intOf i).toNat)
  case atStart=>exact⟨0,[],_,Nat.zero_le _,rfl,M6.o⟩
  case round =>
   obtain⟨j,acc,vv,hj,rfl,f8⟩:=hrel;have V:=hI f8;have hsr:=f8.hb.size;have hMr:=f8.nm.lt;have h64:=f8.k64;obtain⟨vq,vc,F1⟩:=qZL f8.vr;rw[f8.hl]at F1;subst F1;clear f8;by_cases t6:j < ps.length
   ·skip
    obtain⟨qa,na,ca,s1,r0⟩:=N1.o.2 j t6;have r0:=r0.move (V.o.hb.block g2 (by omega));have r6:=hI (qPW (acc:=acc) t6);have G3:=hI (T0.o ps[j] (List.getElem_mem t6));generalize ps[j]=a at *;obtain⟨qa',ca',e,_,_,_⟩:=s1.kids;injection e with e1 e2 e3;subst e2 e1 e3;obtain⟨t0,G6⟩:=G3.o;obtain⟨au,ar,F9⟩:∃ u r,a.kids=u :: r:=by
     cases hk:a.kids with
     | nil=>exact absurd hk G6
     | cons u r=>exact⟨u,r,rfl⟩
    have T5:=hI (fun w' (hb:Below w.1.size w w')=>qJc L a au ar (.slice qa a.kids.length ca) w' F9 (H0.o.wtab.below hb) (by have:=hb.size;omega) (xZ.move (fun g hg hok=>⟨hok,hb.block g (by omega)⟩) a _ s1) t0);have t9:=hI t0;have D7:=hI (fun b cd w'=>qQk b a (.slice qa a.kids.length ca) cd w');have G9:=hI (Bx.new a (.slice qa a.kids.length ca) wr);have F6:=bal (Below.refl wr.1.size wr) (qB a (.slice qa a.kids.length ca));have g8:=hI (V.o.below F6);have hszZ:(wr.alloc (qB a (.slice qa a.kids.length ca))).1.size=wr.1.size+1:=by simp
    have t1:=hI (show(qZr a).name=a.text from rfl);clear s1 G3 F9 G6 t0 F6;generalize hD:qZr a=D at *;clear hD;obtain⟨ak,ax,am,al,ac,r1⟩:=a;have⟨k0,k1,k2,k3,k4,k5,_⟩:=r0.a;try simp only[qZ,qB,qS,qQ.kind,qQ.text,qQ.num,qQ.line,qQ.col,qQ.kids]at *
    have N4:(j:Int) < (J:Nat):=by have:=n6.o;omega
    clear r0;go_wp2_with fail
    clear k0 k1 k2 k3 k4 k5;generalize (wr.alloc _)=Z at *;refine(D7.o _ 45 _).mono ?_;rintro e w4 (⟨hbt,rfl,hb4⟩ | ⟨hbt,rfl,hb4⟩);rotate_left
    ·exact⟨rfl,wP.badI (ln:=al) (co:=ac) (code:=45) (by rw[s7.o,g8.o.hp,r6.o,g8.o.hl,show decide (j < 64)=false by have:=of_decide_eq_false hbt;exact decide_eq_false (by omega)];rfl) (jW.of_below ((g8.o.below hb4).hb))⟩
    have r3:j < 64:=by have:=of_decide_eq_true hbt;omega
    have n8:=hI (r6.o.trans (by rw[g8.o.hl,show decide (j < 64)=true from decide_eq_true r3];rfl:_=(jQ (qQj ax 0 acc).isNone (.mk ak ax am al ac r1) 40).bind fun _=>yH (ps.drop (j+1)) (acc++[D])));have g4:=hI (g8.o.below hb4);have g0:=hI (G9.o.below hb4);have T9:=hb4.size;clear hb4 hbt g8 G9 r6;obtain⟨b0,b1,b2,b3,b4,b5⟩:=g0.o.cells;try simp only[qQ.kind,qQ.text,qQ.num,qQ.line,qQ.col,qQ.kids]at b0 b1 b2 b3 b4 b5
    have F5:=g4.o.nm.look ax (by have:=t9.o;unfold maxLen;omega);have p5:∃ b i,(qQj ax 0 acc).isNone=!b/\qVh ax (acc.map (·.name))=b/\qVi ax (acc.map (·.name))=i:=by
     cases hl:qQj ax 0 acc with
     | none=>obtain⟨e1,e2⟩:=qXq hl;exact⟨false,_,rfl,e1,rfl⟩
     | some p=>obtain⟨p1,p2⟩:=p;obtain⟨e1,e2,_⟩:=qJL hl;exact⟨true,_,rfl,e1,rfl⟩
    obtain⟨bb,bi,D6,eb,ei⟩:=p5;rw[eb,ei]at F5;have m2:=hI D6;clear eb ei D6;go_wp2_with fail
    clear F5;refine(D7.o _ 40 _).mono ?_;rintro e w5 (⟨hbt,rfl,hb5⟩ | ⟨hbt,rfl,hb5⟩);rotate_left
    ·exact⟨rfl,wP.badI (ln:=al) (co:=ac) (code:=40) (by rw[s7.o,g4.o.hp,n8.o,m2.o,hbt];rfl) (jW.of_below ((g4.o.below hb5).hb))⟩
    have G1:=hI (n8.o.trans (by rw[m2.o,hbt];rfl:_=yH (ps.drop (j+1)) (acc++[D])));have F7:=hI (show qZc ax 0 (acc.map (·.name))=none from qZI.1.1 (Option.isNone_iff_eq_none.1 (by rw[m2.o,hbt])));have t8:=hI (g4.o.below hb5);have s3:=hI (g0.o.below hb5);have M7:=hb5.size;have t3:=g4.o.hl;have T7:=hI t3;have hlo:=g4.o.lo;obtain⟨Y,f7,m5,d5⟩:=t8.o.nm.store ax (by have:=t9.o;unfold maxLen;omega) F7.o (by rw[List.length_map];omega);rw[show((acc.map (·.name)).length:Int)=(j:Nat) by rw[List.length_map,t3]]at f7;clear hb5 hbt g4 g0 n8 b0 b1 b2 b3 b4 b5 t3;obtain⟨b0,b1,b2,b3,b4,b5⟩:=s3.o.cells;try simp only[qQ.kind,qQ.text,qQ.num,qQ.line,qQ.col,qQ.kids]at b0 b1 b2 b3 b4 b5
    have hMl:=t8.o.nm.lt;have N5:wr.1.size≠W3.1.size:=by omega
    have T3:=hI (show Bx wr.1.size (.mk ak ax am al ac r1) (.slice qa r1.length ca) Y from(d5.block wr.1.size s3.o.lt (fun e=>N5 (by injection e))).trans s3.o);have d6:=hI (t8.o.store d5 m5);have T1:w5.1.size<=Y.1.size:=d5.size;clear d5 m5;go_wp2
    clear f7 b0 b1 b2 b3 b4 b5;obtain⟨b0,b1,b2,b3,b4,b5⟩:=T3.o.cells;try simp only[qQ.kind,qQ.text,qQ.num,qQ.line,qQ.col,qQ.kids]at b0 b1 b2 b3 b4 b5
    have f4:=d6.o.fb.c4;have f9:Y.ownsRow (W3.1.size+1) 42 4 (.slice vq j vc) j (xD qQe acc):=by
     have h:=d6.o.vr;unfold qQI at h;rw[T7.o]at h;exact h
    have I:some Nf≠(Value.slice vq j vc).ownBlock:=fun e=>by have:=(f9.lt _ e.symm).1;omega
    have d4:some wr.1.size≠(Value.slice vq j vc).ownBlock:=fun e=>by have:=(V.o.vr.lt _ e.symm).2;omega
    refine wRg (S:=fun w'=>∀ b,b < Y.1.size->some b≠(Value.slice vq j vc).ownBlock->w'.1[b]? = Y.1[b]?) 7 ?_;refine wTk 0 68 (.pointer (some ⟨Nf,4,none⟩)) ?_ ((fun _ _ _=>rfl)) ?_
    ·intro _ y;go_simp
    refine wTk 1 69 (.slice vq j vc) ?_ ((fun _ _ _=>rfl)) ?_
    ·intro _ y;have f4:=(cB (y _ (qJ f4) I)).trans f4;go_simp
    refine wTk 2 70 (.agg #[.string ⟨ak.toArray⟩, .string ⟨ax.toArray⟩, .int .u64 am, .int .i64 al, .int .i64 ac, .slice qa r1.length ca]) ?_ ((fun _ _ _=>rfl)) ?_
    ·intro _ y;have b0:=(cB (y _ (qJ b0) d4)).trans b0;have b1:=(cB (y _ (qJ b1) d4)).trans b1;have b2:=(cB (y _ (qJ b2) d4)).trans b2;have b3:=(cB (y _ (qJ b3) d4)).trans b3;have b4:=(cB (y _ (qJ b4) d4)).trans b4;have b5:=(cB (y _ (qJ b5) d4)).trans b5;go_simp
    refine wOn 3 fun K s=>?_
    go_simp;refine(T5.o _ d6.o.hb.drew).mono ?_;rintro e w5 ⟨rfl,hb5⟩;have hb5:=zF hb5;have S5:∀ b,b < Y.1.size->some b≠(Value.slice vq j vc).ownBlock->w5.1[b]? = Y.1[b]?:=fun b hb _=>hb5.block b hb
    have M7:=hb5.size;have m9:=hI (show w5.ownsRow (W3.1.size+1) 42 4 (.slice vq j vc) j (xD qQe acc)from zU f9 (fun g hg=>hb5.block g (f9.lt g hg).2));have N6:=hI hb5;unfold qXK;refine kK s S5 ?_;clear s K;refine wOn 4 fun K s=>?_
    go_simp;refine kK s (fun b hb hne=>(Below.heap_alloc w5 _ b (by omega)).trans (S5 b hb hne)) ?_;clear s K;refine wOn 5 fun K s=>?_
    refine qQJ (lo:=W3.1.size+1) (dd:=73) (news:=qQe D) underlying27 info42 (by decide) rfl (by decide) _ _ rfl rfl m9.o (by omega) rfl rfl rfl rfl (qVo _) (by omega) (fun v9 w9 ho9 hg9 hbk9=>?_);obtain⟨q9,c9,rfl⟩:∃ q c,v9=.slice q (j+1) c:=by
     rcases ho9.2 with⟨_,h0⟩ | ⟨g,G8,G4,rfl,_⟩
     ·omega
     ·exact⟨_,_,rfl⟩
    have S9:∀ b,b < Y.1.size->some b≠(Value.slice vq j vc).ownBlock->w9.1[b]? = Y.1[b]?:=fun b hb hne=>(hg9.block b (by simp;omega) hne).trans ((Below.heap_alloc w5 _ b (by omega)).trans (S5 b hb hne))
    refine kK s S9 ?_;clear s K;refine wOn 6 fun K s=>?_
    go_simp;refine kK s S9 ?_;clear s K;have M5:=(cB (S9 Nf d6.o.fb.lt I)).trans f4;have N2:w9.frozen? ⟨Nf,4,none⟩=false:=(World.frozen?_of_block (S9 Nf d6.o.fb.lt I)).trans (d6.o.fb.f 4 nL);have N0:w5.1.size+1<=w9.1.size:=by have:=hg9.size;simpa using this
    refine wOn 7 fun K s=>?_
    go_simp;refine kD s ?_;clear s K;refine wDn ?_ _;have r5:=hI ho9;have g1:=hI hg9;have p7:=hI S9;have s8:=N6.o;clear f4 M5 N2 b0 b1 b2 b3 b4 b5 ho9 hg9 S9 S5 hb5;go_wp2
    have hjw:IntKind.i64.wrap ((j:Int)+1)=((j+1:Nat):Int):=by rw[IntWalk.i64_in _ (by omega)];omega
    try rw[hjw]
    refine⟨⟨j+1,acc++[D], .slice q9 (j+1) c9,by omega,rfl,d6.o.more (by omega) (g1.o.os.trans s8.os) (g1.o.tape.trans s8.tape) (g1.o.output.trans s8.output) p7.o r5.o (by rw[List.map_append];show _=_++[D.name];rw[t1.o]) (d6.o.di.snoc (by rw[t1.o];exact F7.o) (by rw[t1.o];exact t9.o)) (d6.o.hp.trans G1.o) r3⟩,?_⟩;simp only[intOf];omega
   ·skip
    have s2:j=ps.length:=by omega
    have G0:yH ps []=.ok acc:=V.o.hp.trans (by rw[s2,List.drop_length,yH]);have N8:=hI (s7.o.trans (by rw[G0];show CR.ok _=CR.ok _;rw[List.map_append];rfl:_=.ok ⟨gs,(fs++[(⟨⟨x,(U0,U1),acc⟩,acc, .slice vq j vc, .slice none 0 0⟩:FnM)]).map (fun f=>f.h)⟩));have N4:(J:Int)<=(j:Nat):=by have:=n6.o;omega
    have X:=hI (H0.o.below V.o.hb);have c1:=X.o.c1;rw[m7.o]at c1;have c4:=X.o.c4;have f0:=V.o.fb.c0;have T8:=hI (show acc.length=J by rw[V.o.hl,s2,n6.o]);have r2:=hI (show fnC (⟨⟨x,(U0,U1),acc⟩,acc, .slice vq j vc, .slice none 0 0⟩:FnM)=[.string ⟨x.toArray⟩, .int .i64 U0, .bool U1, .int .i64 J, .slice vq j vc, .slice none 0 0] by unfold fnC;rw[show(⟨⟨x,(U0,U1),acc⟩,acc, .slice vq j vc, .slice none 0 0⟩:FnM).h.params.length=J from T8.o]);have hlo:=H0.o.lo;have hlo2:=V.o.lo;obtain⟨Y,f7,m5,d5⟩:=(X.o.fm.below (Below.refl _ _).drew).store x (by have:=HX.o;unfold maxLen;omega) M2.o.2 (by simp only[List.length_map];rw[<-d8.o];omega);rw[show(((fs.map (fun f=>f.h)).map (·.name)).length:Int)=(fl:Nat) by rw[List.length_map,List.length_map,d8.o]]at f7;clear s2 G0;go_wp2
    refine wRg (S:=fun w'=>Below wr.1.size wr w') 12 ?_;refine wTk 0 76 (.pointer (some ⟨B,0,none⟩)) ?_ (bD wr) ?_
    ·intro _ y;go_simp
    refine wTk 1 77 (.pointer (some ⟨B,0,none⟩)) ?_ (bD wr) ?_
    ·intro _ y;go_simp
    refine wTk 2 78 (.pointer (some ⟨B,4,none⟩)) ?_ (bD wr) ?_
    ·intro _ y;go_simp
    refine wTk 3 79 (.map (some Mf)) ?_ (bD wr) ?_
    ·intro _ y;have c4:=kP y c4;have f0:=kP y f0;go_simp
    refine wTk 4 80 (.pointer (some ⟨Nf,0,none⟩)) ?_ (bD wr) ?_
    ·intro _ y;go_simp
    refine wTk 5 81 (.string ⟨x.toArray⟩) ?_ (bD wr) ?_
    ·intro _ y;have f0:=kP y f0;go_simp
    refine wTk 6 82 (.pointer (some ⟨B,0,none⟩)) ?_ (bD wr) ?_
    ·intro _ y;go_simp
    refine wTk 7 83 (.pointer (some ⟨B,0,none⟩)) ?_ (bD wr) ?_
    ·intro _ y;go_simp
    refine wTk 8 84 (.pointer (some ⟨B,0,none⟩)) ?_ (bD wr) ?_
    ·intro _ y;go_simp
    refine wTk 9 85 (.pointer (some ⟨B,1,none⟩)) ?_ (bD wr) ?_
    ·intro _ y;go_simp
    refine wTk 10 86 (.slice fq fl fc) ?_ (bD wr) ?_
    ·intro _ y;have c1:=kP y c1;go_simp
    refine wTk 11 87 (.int .i64 fl) ?_ (bD wr) ?_
    ·intro _ y;go_simp
    refine wOn 12 fun K s=>?_
    go_simp;refine kD s ?_;clear s K;refine wDn ?_ _;have hM:=X.o.fm.isMap;have p3:=hI (show ∀ b,b < wr.1.size->b≠Mf->Y.1[b]? = wr.1[b]? from fun b hb hne=>d5.block b hb (fun e=>hne (by injection e)));have hMfl:=H0.o.fm.lt;have m0:B≠Mf:=(vU hM X.o.kb).symm;have g7:Nf≠Mf:=by omega
    have kc:∀ {b o u},b < wr.1.size->b≠Mf->wr.cell? ⟨b,o,none⟩=some u->Y.cell? ⟨b,o,none⟩=some u:=fun hb hne hc=>(cB (p3.o _ hb hne)).trans hc
    have p0:B < wr.1.size:=qJ X.o.c1;have m1:=V.o.fb.lt;have c1:=kc p0 m0 c1;have f0:=kc m1 g7 V.o.fb.c0;have f1:=kc m1 g7 V.o.fb.c1;have f2:=kc m1 g7 V.o.fb.c2;have f3:=kc m1 g7 V.o.fb.c3;have f4:=kc m1 g7 V.o.fb.c4;have f5:=kc m1 g7 V.o.fb.c5;rw[n6.o]at f3;try simp only at f1 f2
    have F3:w.ownsRow L 40 6 (.slice fq fl fc) fl (xD fnC fs):=by
     have hr:=H0.o.frow;rw[m7.o,<-d8.o]at hr;exact hr
    have s6:wr.ownsRow L 40 6 (.slice fq fl fc) fl (xD fnC fs):=by
     have hr:=X.o.frow;rw[m7.o,<-d8.o]at hr;exact hr
    have g3:∀ g,(Value.slice fq fl fc).ownBlock=some g->jX wr g 40/\g < w.1.size:=fun g hg=>⟨zE s6 hg,(F3.lt g hg).2⟩
    have d3:some B≠(Value.slice fq fl fc).ownBlock:=fun e=>(X.o.kb.ne (g3 B e.symm).1 (by decide)) rfl
    have I:some Nf≠(Value.slice fq fl fc).ownBlock:=fun e=>by have:=(g3 _ e.symm).2;omega
    have m9:=hI (show Y.ownsRow L 40 6 (.slice fq fl fc) fl (xD fnC fs)from zU s6 (fun g hg=>p3.o g (by have:=(g3 g hg).2;omega) (vU hM (g3 g hg).1).symm));have T1:wr.1.size<=Y.1.size:=d5.size;have t7:=hI d5;have M9:=hI m5;clear d5 m5 kc f7 c4 F3 s6;go_wp2
    refine wRg (S:=fun w'=>∀ b,b < Y.1.size->some b≠(Value.slice fq fl fc).ownBlock->w'.1[b]? = Y.1[b]?) 12 ?_;refine wTk 0 88 (.pointer (some ⟨B,0,none⟩)) ?_ ((fun _ _ _=>rfl)) ?_
    ·intro _ y;go_simp
    refine wTk 1 89 (.pointer (some ⟨B,0,none⟩)) ?_ ((fun _ _ _=>rfl)) ?_
    ·intro _ y;go_simp
    refine wTk 2 90 (.pointer (some ⟨B,0,none⟩)) ?_ ((fun _ _ _=>rfl)) ?_
    ·intro _ y;go_simp
    refine wTk 3 91 (.pointer (some ⟨B,0,none⟩)) ?_ ((fun _ _ _=>rfl)) ?_
    ·intro _ y;go_simp
    refine wTk 4 92 (.pointer (some ⟨B,1,none⟩)) ?_ ((fun _ _ _=>rfl)) ?_
    ·intro _ y;go_simp
    refine wTk 5 93 (.slice fq fl fc) ?_ ((fun _ _ _=>rfl)) ?_
    ·intro _ y;have c1:=(cB (y _ (qJ c1) d3)).trans c1;go_simp
    refine wTk 6 94 (.agg #[.string ⟨x.toArray⟩, .int .i64 U0, .bool U1, .int .i64 J, .slice vq j vc, .slice none 0 0]) ?_ ((fun _ _ _=>rfl)) ?_
    ·intro _ y;have f0:=(cB (y _ (qJ f0) I)).trans f0;have f1:=(cB (y _ (qJ f1) I)).trans f1;have f2:=(cB (y _ (qJ f2) I)).trans f2;have f3:=(cB (y _ (qJ f3) I)).trans f3;have f4:=(cB (y _ (qJ f4) I)).trans f4;have f5:=(cB (y _ (qJ f5) I)).trans f5;go_simp
    refine wOn 7 fun K s=>?_
    go_simp;refine kK s (fun b hb _=>Below.heap_alloc Y.drew _ b hb) ?_;clear s K;refine wOn 8 fun K s=>?_
    refine qQJ (lo:=L) (dd:=96) (news:=[.string ⟨x.toArray⟩, .int .i64 U0, .bool U1, .int .i64 J, .slice vq j vc, .slice none 0 0]) underlying28 info40 (by decide) rfl (by decide) _ _ rfl rfl m9.o.drew (by simp;omega) rfl rfl rfl rfl (by rw[<-r2.o];exact fnC_one _ rfl rfl) (by omega) (fun v9 w9 ho9 hg9 hbk9=>?_);obtain⟨q9,c9,rfl⟩:∃ q c,v9=.slice q (fl+1) c:=by
     rcases ho9.2 with⟨_,h0⟩ | ⟨g,G8,G4,rfl,_⟩
     ·omega
     ·exact⟨_,_,rfl⟩
    have S9:∀ b,b < Y.1.size->some b≠(Value.slice fq fl fc).ownBlock->w9.1[b]? = Y.1[b]?:=fun b hb hne=>(hg9.block b (by simp;omega) hne).trans (Below.heap_alloc Y.drew _ b hb)
    refine kK s S9 ?_;clear s K;refine wOn 9 fun K s=>?_
    go_simp;refine kK s S9 ?_;clear s K;refine wOn 10 fun K s=>?_
    go_simp;refine kK s S9 ?_;clear s K;refine wOn 11 fun K s=>?_
    go_simp;refine kK s S9 ?_;clear s K;have G7:B < Y.1.size:=qJ c1;have G5:=(cB (S9 B G7 d3)).trans c1;have T6:w9.frozen? ⟨B,1,none⟩=false:=(World.frozen?_of_block (S9 B G7 d3)).trans ((World.frozen?_of_block (p3.o B p0 m0)).trans (X.o.bf 1 (by omega)));have N0:Y.1.size+1<=w9.1.size:=by have:=hg9.size;simpa using this
    refine wOn 12 fun K s=>?_
    go_simp;refine kD s ?_;clear s K;refine wDn ?_ _;have r5:=hI ho9;have g1:=hI hg9;have M1:=hI hbk9;have p7:=hI S9;have HC9:=hI G5;clear c1 f0 f1 f2 f3 f4 f5 G5 T6 ho9 hg9 hbk9 S9;go_wp2
    go_end0;have m4:∀ b,b < wr.1.size->b≠Mf->some b≠(Value.slice fq fl fc).ownBlock->w9.1[b]? = wr.1[b]?:=fun b hb h2 h3=>(p7.o b (by omega) h3).trans (p3.o b hb h2)
    have base:∀ b,b < w.1.size->b≠B->b≠Mf->some b≠fv.ownBlock->(w9.setCell ⟨B,1,none⟩ (.slice q9 (fl+1) c9)).1[b]? = w.1[b]?:=fun b hb h1 h2 h3=>by
     rw[hS _ _ _ _ h1];refine(m4 b (by omega) h2 ?_).trans (V.o.hb.block b hb);rw[<-m7.o];exact h3
    have m3:=V.o.hb;have hT:jW L w (w9.setCell ⟨B,1,none⟩ (.slice q9 (fl+1) c9)):=⟨(rfl:(w9.setCell ⟨B,1,none⟩ (.slice q9 (fl+1) c9)).os=w9.os).trans (g1.o.os.trans (t7.o.os.trans m3.os)),by simpa using g1.o.tape.trans (t7.o.tape.trans m3.tape),(rfl:(w9.setCell ⟨B,1,none⟩ (.slice q9 (fl+1) c9)).output=w9.output).trans (g1.o.output.trans (t7.o.output.trans m3.output)),by simp;omega,fun b hb hbL=>base b hb (by omega) (by omega) (fun e=>by have:=(H0.o.frow.lt b e.symm).1;omega)⟩;refine wP.okI (gv:=gv) (fv:=.slice q9 (fl+1) c9) N8.o ?_ hT;have M3:(w9.setCell ⟨B,1,none⟩ (.slice q9 (fl+1) c9)).1.size=w9.1.size:=by simp
    have N3:∀ g,(Value.slice vq j vc).ownBlock=some g->g≠B:=fun g hg=>by have:=(V.o.vr.lt g hg).1;omega
    refine H0.o.func (fv':=.slice q9 (fl+1) c9) (f:=⟨⟨x,(U0,U1),acc⟩,acc, .slice vq j vc, .slice none 0 0⟩) (by rw[M3];omega) base (World.cell?_setCell_same _ _ _ HC9.o) ?_ ?_ ?_ ?_ ?_ ?_ ?_ ⟨rfl,V.o.di,by show acc.length<=64;rw[V.o.hl];exact V.o.k64⟩ (by rw[<-d8.o];exact M0)
    ·intro o ho;exact((World.cell?_setCell_other _ _ _ _ (by simpa using Ne.symm ho)).trans (cB (m4 B p0 m0 d3))).trans (cB (m3.block B F0))
    ·intro o;exact((World.frozen?_setCell _ _ _ _).trans (World.frozen?_of_block (m4 B p0 m0 d3))).trans (World.frozen?_of_block (m3.block B F0))
    ·exact(X.o.kb.turn (m4 B p0 m0 d3)).set _ _ _
    ·refine wY.kept M9.o ?_;rw[hS _ _ _ _ m0.symm];exact p7.o Mf (by omega) (fun e=>vU hM (g3 Mf e.symm).1 rfl)
    ·rw[<-d8.o,r2.o];refine zU r5.o (fun g hg=>hS _ _ _ _ ?_);rcases M1.o with h1 | h1
     ·rw[h1]at hg;exact(X.o.kb.ne (g3 g hg).1 (by decide)).symm
     ·rw[h1]at hg;injection hg with hg;simp at hg;show g≠B
      omega
    ·refine qX2 (zU V.o.vr (fun g hg=>?_)) (by omega);have h1:=V.o.vr.lt g hg;exact(hS _ _ _ _ (N3 g hg)).trans (m4 g h1.2 (by omega) (fun e=>by have:=(g3 g e.symm).2;omega))
    ·intro g hg;have:=(V.o.vr.lt g hg).1;omega
def HdOk(t:qQ):Prop:=t.text.length<=1000000/\t.kids.length<=1000000/\((t.kind == qC)=true->∃ u ps z,t.kids=u :: (ps++[z])/\∀ a∈ps,a.text.length<=1000000/\a.kids≠[]) /\
 ((t.kind == qC)=false->(∃ u r,t.kids=u :: r)/\(((yE t).kind == zD)=false->(yE t).num=0)/\0<=(yE t).num/\(yE t).num < 18446744073709551616)
theorem wP.cases{B L Mg Mf Mr:Nat}{cl:vE}{p:CR HdS}{w w':World}{e:Ending}(h:wP B L Mg Mf Mr cl p w e w') :
 (∃ gs fs gv fv,p=.ok ⟨gs,fs.map (fun f=>f.h)⟩/\e=.returned (.tuple #[])/\HIn B L gs fs gv fv Mg Mf Mr cl (yV gs) w'/\jW L w w')\/∃ ln co code,p=.bad ln co code/\e=.panicked [{ v:=xO ln co code,recovered:=false }]/\jW L w w':=by
 cases p with
 | ok S=>obtain⟨j,fs,gv,fv,h2,h3,h4⟩:=h;obtain⟨gs,hs⟩:=S;exact .inl ⟨gs,fs,gv,fv,by rw[show hs=_ from h2],j,h3,h4⟩
 | bad ln co code=>exact .inr ⟨ln,co,code,rfl,h.1,h.2⟩
theorem qPI{ts:List qQ}{k:Nat}{S:HdS}(h:k < ts.length):yS (ts.drop k) S=(if ts[k].kind == qC then wF S ts[k]else qZ9 S ts[k]).bind fun S'=>yS (ts.drop (k+1)) S':=by
 rw[List.drop_eq_getElem_cons h,yS]
def HdRel(B L Mg Mf Mr:Nat)(cl:vE)(ts:List qQ)(S0:HdS)(W:World)(i:Value)(wr:World):Prop :=
 ∃ (k:Nat) (gs:List qI) (fs:List FnM) (gv fv:Value),k<=ts.length/\i=.int .i64 k/\HIn B L gs fs gv fv Mg Mf Mr cl (yV gs) wr/\jW L W wr/\yS ts S0=yS (ts.drop k) ⟨gs,fs.map (fun f=>f.h)⟩
theorem heads_any(B L:Nat)(V:List qI)(Z:List FnM)(f5 f3:Value)(Mg Mf Mr:Nat)(cl:vE)(ts:List qQ)(q:Option Addr)(c:Nat)(W:World)(h:HIn B L V Z f5 f3 Mg Mf Mr cl (yV V) W)(hL:L<=W.1.size)(hK:yD L W ts q)(g1:ts.length<=1000000)
 (d5:∀ t∈ts,HdOk t) :
 Calls prog 65 #[.pointer (some ⟨B,0,none⟩), .slice q ts.length c] W (wP B L Mg Mf Mr cl (yS ts ⟨V,Z.map (fun f=>f.h)⟩) W):=by
 have H0:=hI h;have HK:=hI hK;have f9:=hI d5;have g4:B < W.1.size:=qJ h.c0;clear h hK d5;go_enter func65,ntmps65
 go_wp2
 go_loopw [8] (fun i wr=>HdRel B L Mg Mf Mr cl ts ⟨V,Z.map (fun f=>f.h)⟩ W i wr) (fun i _=>ts.length - (intOf i).toNat)
 case atStart=>exact⟨0,V,Z,f5,f3,Nat.zero_le _,rfl,H0.o,jW.refl _ _,rfl⟩
 case round =>
  obtain⟨k,gs,fs,gv,fv,hk,rfl,hH,hT,hP⟩:=hrel;have HH:=hI hH;have HT:=hI hT;have HP:=hI hP;have g5:=hT.size;clear hH hT hP;by_cases R:k < ts.length
  ·obtain⟨g,g2,rfl,f6⟩:=(HK.o.low hL HT.o.block).resolve_left (fun e=>by rw[e]at R;simp at R);obtain⟨qa,na,ca,f7,f8⟩:=f6.2 k R;have⟨k0,k1,k2,k3,k4,k5,_⟩:=f8.a;have f4:=hI (Bx.new ts[k] (.slice qa na ca) wr);have J:=hI (bal (Below.refl wr.1.size wr) (qB ts[k] (.slice qa na ca)));have d7:(wr.alloc (qB ts[k] (.slice qa na ca))).1.size=wr.1.size+1:=by simp
   have d3:=hI (show xZ (wr.alloc (qB ts[k] (.slice qa na ca))) (· < L) ts[k] (.slice qa na ca)from xZ.move (fun g hg d5=>⟨d5,J.o.block g hg⟩) _ _ f7);have d4:=hI (HH.o.below J.o);have s:=hI (qPI (S:=⟨gs,fs.map (fun f=>f.h)⟩) R);have HO:=hI (f9.o ts[k] (List.getElem_mem R));have g3:(k:Int) < (ts.length:Nat):=by omega
   clear f8 f7 f6;generalize hu:ts[k]=u at *;clear hu;have A:=hI (HT.o.trans (jW.of_below (L:=L) J.o));have d2:L<=(wr.alloc (qB u (.slice qa na ca))).1.size:=by omega
   have I:=hI (fun(j:(u.kind == qC)=true)=>by
    obtain⟨h1,h2,h3,_⟩:=HO.o;obtain⟨a,ps,z,e1,e2⟩:=h3 j;exact qUN B L gs fs gv fv Mg Mf Mr cl u a z ps (.slice qa na ca) _ d4.o d2 e1 d3.o h1 h2 e2)
   have C:=hI (fun(j:(u.kind == qC)=false)=>by
    obtain⟨h1,h2,_,h3⟩:=HO.o;obtain⟨⟨a,r,e1⟩,e2,e3⟩:=h3 j;exact qL8 B L gs fs gv fv Mg Mf Mr cl u a r (.slice qa na ca) _ d4.o d2 e1 d3.o h1 h2 e2 e3)
   obtain⟨uk,ux,um,ul,uc,d6⟩:=u;cases j:(uk == qC);case true =>
    have I:=hI (I.o j);have s:=hI (s.o.trans (by rw[show((qQ.mk uk ux um ul uc d6).kind == qC)=true from j];rfl:_=(wF ⟨gs,fs.map (fun f=>f.h)⟩ (.mk uk ux um ul uc d6)).bind fun S'=>yS (ts.drop (k+1)) S'));unfold qC at j;clear C HO d3;simp only[qS,qZ,qB,qQ.kind,qQ.text,qQ.num,qQ.line,qQ.col,qQ.kids]at *;go_wp2_with fail
    refine(I.o).mono ?_;rintro e w7 hX;rcases hX.cases with⟨U,Y,gv',fv',hp,rfl,O,y⟩ | ⟨l',c',code,hp,rfl,y⟩;rotate_left
    ·exact⟨rfl,wP.badI (by rw[HP.o,s.o,hp];rfl) (A.o.trans y)⟩
    have G:=HP.o.trans (s.o.trans (by rw[hp];rfl:_=yS (ts.drop (k+1)) ⟨U,Y.map (fun f=>f.h)⟩));have X:=hI G;have d9:=hI (A.o.trans y);have d8:=hI O;clear hX hp O y G I s A d4 f4 J d2 d7 k0 k1 k2 k3 k4 k5;go_wp2
    refine⟨⟨k+1,U,Y,gv',fv',by omega,rfl,d8.o,d9.o,X.o⟩,?_⟩;simp only[intOf];omega
   case false =>
    have C:=hI (C.o j);have s:=hI (s.o.trans (by rw[show((qQ.mk uk ux um ul uc d6).kind == qC)=false from j];rfl:_=(qZ9 ⟨gs,fs.map (fun f=>f.h)⟩ (.mk uk ux um ul uc d6)).bind fun S'=>yS (ts.drop (k+1)) S'));unfold qC at j;clear I HO d3;simp only[qS,qZ,qB,qQ.kind,qQ.text,qQ.num,qQ.line,qQ.col,qQ.kids]at *;go_wp2_with fail
    refine(C.o).mono ?_;rintro e w7 hX;rcases hX.cases with⟨U,Y,gv',fv',hp,rfl,O,y⟩ | ⟨l',c',code,hp,rfl,y⟩;rotate_left
    ·exact⟨rfl,wP.badI (by rw[HP.o,s.o,hp];rfl) (A.o.trans y)⟩
    have G:=HP.o.trans (s.o.trans (by rw[hp];rfl:_=yS (ts.drop (k+1)) ⟨U,Y.map (fun f=>f.h)⟩));have X:=hI G;have d9:=hI (A.o.trans y);have d8:=hI O;clear hX hp O y G C s A d4 f4 J d2 d7 k0 k1 k2 k3 k4 k5;go_wp2
    refine⟨⟨k+1,U,Y,gv',fv',by omega,rfl,d8.o,d9.o,X.o⟩,?_⟩;simp only[intOf];omega
  ·have g0:k=ts.length:=by omega
   subst g0;have X:=hI (HP.o.trans (by rw[List.drop_length,yS]:_=.ok ⟨gs,fs.map (fun f=>f.h)⟩));go_wp2
   go_end0;exact wP.okI X.o HH.o HT.o
open Go Go.RowKit Go.Maps Go.WideMaps
def qQG(w:World)(b:Nat)(R:List (List UInt8×Nat))(c:vE):Prop :=
 ∃ D:DataW Value,w.ownsMap prog 9 qWY b R.length D/\IsMap D/\∀ x r,kE x R=some r->∀ z,D.atKey (.string x) z=.held (qKr c r)
theorem qQG.lt{w:World}{b:Nat}{R:List (List UInt8×Nat)}{c:vE}(h:qQG w b R c):b < w.1.size:=by
 obtain⟨D,j,_⟩:=h;exact j.lt
theorem qQG.kept{w w':World}{b:Nat}{R:List (List UInt8×Nat)}{c:vE}(h:qQG w b R c)(hb:w'.1[b]? = w.1[b]?):qQG w' b R c:=by
 obtain⟨D,⟨j,k,o,h2⟩,h3⟩:=h;exact⟨D,⟨j,k,hb.trans o,h2⟩,h3⟩
theorem qQG.isMap{w:World}{b:Nat}{R:List (List UInt8×Nat)}{c:vE}(h:qQG w b R c):∃ j k,w.1[b]? = some (Obj.map j k):=by
 obtain⟨D,⟨j,k,o,_⟩,_⟩:=h;exact⟨j,k,o⟩
theorem qQG.made(w:World)(c:vE):qQG (w.alloc (.map #[] 0)) w.1.size [] c :=
 ⟨.map [],World.ownsMap_made w _ _ _,isMap_empty,fun x r h=>by simp[kE]at h⟩
theorem qQG.full{w:World}{b:Nat}{c:vE}(h:qQG w b qQP c):qJs w b c:=by
 obtain⟨D,j,_,h3⟩:=h;exact⟨_,D,j,by decide,h3⟩
theorem qKq{x y:List UInt8}{r:Nat}:∀ {R:List (List UInt8×Nat)},kE y (R++[(x,r)])=match kE y R with | some q=>some q | none=>if x == y then some r else none
 | []=>by simp[kE]
 | (z,q) :: R=>by
  rw[lC,kE,kE];by_cases h:(z == y)=true
  ·rw[if_pos h,if_pos h]
  ·rw[if_neg h,if_neg h,qKq]
theorem qQG.put{w:World}{b:Nat}{R:List (List UInt8×Nat)}{c:vE}(h:qQG w b R c)(x:List UInt8)(r:Nat)(I:x.length<=maxLen)(J:kE x R=none)(hl:R.length < 1000) :
 ∃ w',(Instr.mapUpdate 118 (.map (some b)) (.string ⟨x.toArray⟩) (qKr c r)).run prog w=.ok () w'/\qQG w' b (R++[(x,r)]) c/\w.grownBy w' (some b):=by
 obtain⟨D,G,h2,h3⟩:=h;have A:keyOf prog 9 (.string ⟨x.toArray⟩)=some (.string x):=keyOf_string_mk underlying9 (by simpa[ByteArray.size]using I);obtain⟨w',o,s,hg⟩:=G.update Tryz.strKey underlying118 (by unfold maxLen;omega) A (d:=.held (qKr c r)) (ps:=[]) (val:=qKr c r) rfl;refine⟨w',o,⟨_,by simpa using s,h2.put _ _,fun y q hy=>?_⟩,hg⟩;rw[qKq]at hy;by_cases j:x=y
 ·subst j;rw[J]at hy;simp only[beq_self_eq_true,if_true,Option.some.injEq]at hy;subst hy;intro z;rw[atKey_put_same (k:=.string x) h2 trivial]
 ·have C:(Lit.string y)≠.string x:=fun e=>j (Lit.string.inj e).symm
  intro z;rw[atKey_put_other C];refine h3 y q ?_ z;cases hf:kE y R with
  | some q'=>rw[hf]at hy;exact hy
  | none=>rw[hf]at hy;simp[j]at hy
def PutRel(Mr:Nat)(c:vE)(R:List (List UInt8×Nat))(xs:List (List UInt8))(r:Nat)(W:World)(i:Value)(wr:World):Prop :=
 ∃ j:Nat,j<=xs.length/\i=.int .i64 j/\qQG wr Mr (R++(xs.take j).map fun x=>(x,r)) c/\W.grownBy wr (some Mr)
theorem cput_any(c:vE)(r f:Nat)(s:Array Value)(xs:List (List UInt8))(g X Mr:Nat)(R:List (List UInt8×Nat))(w:World)(hf:qUZ c r=.func (.func f) #[] s)(Y:w.cell? ⟨X,0,none⟩=some (.map (some Mr)))(z:qQG w Mr R c)
 (A:∀ i (h:i < xs.length),w.cell? ⟨g,i,none⟩=some (.string ⟨xs[i].toArray⟩)) (hl:∀ x∈xs,x.length<=1000) (hn:∀ i (h:i < xs.length),kE xs[i] (R++(xs.take i).map fun x=>(x,r))=none) (f6:R.length+xs.length<=900) :
 Calls prog 84 #[.agg #[.bool (decide (r<=2)), .func (.func f) #[] s], .slice (some ⟨g,0,none⟩) xs.length xs.length, .pointer (some ⟨X,0,none⟩)] w fun e w'=>e=.returned (.tuple #[])/\qQG w' Mr (R++xs.map fun x=>(x,r)) c/\w.grownBy w' (some Mr):=by
 have hV:qKr c r=.agg #[.bool (decide (r<=2)), .func (.func f) #[] s]:=by unfold qKr;rw[hf]
 have HV:=hI hV;generalize decide (r<=2)=bb at *;have HB:=hI (bal (Below.refl w.1.size w) (.cells #[.bool bb, .func (.func f) #[] s] 140));have r0:(w.alloc (.cells #[.bool bb, .func (.func f) #[] s] 140)).cell? ⟨w.1.size,0,none⟩=some (.bool bb):=by simp[go_sem]
 have r1:(w.alloc (.cells #[.bool bb, .func (.func f) #[] s] 140)).cell? ⟨w.1.size,1,none⟩=some (.func (.func f) #[] s):=by simp[go_sem]
 have HR:=hI (z.kept (HB.o.block Mr z.lt));have d8:X≠Mr:=fun e=>by
  subst e;obtain⟨es,k,Z⟩:=z.isMap;simp[World.cell?,Z]at Y
 have f9:=z.lt;have f7:(w.alloc (.cells #[.bool bb, .func (.func f) #[] s] 140)).1.size=w.1.size+1:=by simp
 have m8:=(HB.o.cell (p:=⟨X,0,none⟩) (qJ Y)).trans Y;have f5:=hI (fun i h=>(HB.o.cell (p:=⟨g,i,none⟩) (qJ (A i h))).trans (A i h));have d5:0 < xs.length->g≠Mr:=fun h0 e=>by
  have:=A 0 h0;subst e;obtain⟨es,k,Z⟩:=z.isMap;simp[World.cell?,Z]at this
 have HL:=hI hl;have HN:=hI hn;have g0:xs.length<=900:=by omega
 have HG:=hI (World.grownBy_alloc w (.cells #[.bool bb, .func (.func f) #[] s] 140) (some Mr));clear hV hf Y z A hl hn;go_enter func84,ntmps84
 go_wp2
 generalize (w.alloc _)=W at *;go_loopw [9] (fun i wr=>PutRel Mr c R xs r W i wr) (fun i _=>xs.length - (intOf i).toNat)
 case atStart=>exact⟨0,Nat.zero_le _,rfl,by simpa using HR.o,jS _ _⟩
 case round =>
  obtain⟨j,hj,rfl,z,hg⟩:=hrel;have V:=hI z;have G:=hI hg;have f8:=hg.size;clear z hg;by_cases C:j < xs.length
  ·have f3:(j:Int) < (xs.length:Nat):=by omega
   have kc:∀ {b o:Nat} {u:Value},b≠Mr->W.cell? ⟨b,o,none⟩=some u->wr.cell? ⟨b,o,none⟩=some u:=fun hne hc=>(cB (G.o.block _ (qJ hc) (fun e=>hne (by injection e)))).trans hc
   have m8:=kc d8 m8;have r0:=kc (by omega) r0;have r1:=kc (by omega) r1;have xj:=kc (d5 (by omega)) (f5.o j C);have f4:=hI (HN.o j C);have d2:=hI (HL.o xs[j] (List.getElem_mem C));have d4:=hI (show(xs.take (j+1)).map (fun x=>(x,r))=(xs.take j).map (fun x=>(x,r))++[(xs[j],r)] by rw[List.take_succ_eq_append_getElem C,List.map_append];rfl);generalize xs[j]=y at *;obtain⟨w6,O,U,I⟩:=V.o.put y r (by have:=d2.o;unfold maxLen;omega) f4.o (by simp;omega);rw[HV.o]at O;have d6:=hI U;have d3:=hI (qR G.o I);clear U I kc;go_wp2
   have d7:IntKind.i64.wrap ((j:Int)+1)=((j+1:Nat):Int):=by rw[IntWalk.i64_in _ (by omega)];omega
   try rw[d7]
   refine⟨⟨j+1,by omega,rfl,by rw[d4.o,<-List.append_assoc];exact d6.o,d3.o⟩,?_⟩;simp only[intOf];omega
  ·have J:j=xs.length:=by omega
   have f3:(xs.length:Int)<=(j:Nat):=by omega
   have d9:=hI (show qQG wr Mr (R++xs.map fun x=>(x,r)) c by have:=V.o;rw[J,List.take_length]at this;exact this);clear J;go_wp2
   go_end0;exact⟨rfl,d9.o,qR HG.o G.o⟩
theorem qYp(xs:List (List UInt8))(w:World)(T:TypeId)(i:Nat)(h:i < xs.length):(w.alloc (.cells (xs.map fun x=>Value.string ⟨x.toArray⟩).toArray T)).cell? ⟨w.1.size,i,none⟩=some (.string ⟨xs[i].toArray⟩):=by
 have hb:(w.alloc (.cells (xs.map fun x=>Value.string ⟨x.toArray⟩).toArray T)).1[w.1.size]? = some (.cells (xs.map fun x=>Value.string ⟨x.toArray⟩).toArray T (0,0)):=by
  unfold World.alloc;simp
 unfold World.cell?;rw[hb];simp[h]
theorem hp_new(w:World)(o:Obj):(w.alloc o).1[w.1.size]? = some o:=by
 unfold World.alloc;simp
theorem jX.new(w:World)(j:Array Value)(T:TypeId):jX (w.alloc (.cells j T)) w.1.size T:=⟨j,(0,0),hp_new w _⟩
def qUX(r:Nat):List (List UInt8×Nat)->List (List UInt8)->Bool
 | _,[]=>true
 | R,x :: t=>(kE x R).isNone && qUX r (R++[(x,r)]) t
theorem qXg{r:Nat}:∀ {xs:List (List UInt8)} {R:List (List UInt8×Nat)},qUX r R xs=true->∀ i (h:i < xs.length),kE xs[i] (R++(xs.take i).map fun x=>(x,r))=none
 | x :: t,R,h,0,_=>by
  rw[qUX,bE]at h;simpa using Option.isNone_iff_eq_none.1 h.1
 | x :: t,R,h,i+1,hi=>by
  rw[qUX,bE]at h;have:=qXg h.2 i (by simpa using hi);simpa using this
theorem qJz(c:vE)(r f n:Nat)(j:Array Value)(bb:Bool)(xs:List (List UInt8))(g z Mr:Nat)(R:List (List UInt8×Nat))(w:World)(hf:qUZ c r=.func (.func f) #[] j)(hb:decide (r<=2)=bb)(o:xs.length=n)(G:w.cell? ⟨z,0,none⟩=some (.map (some Mr)))(A:qQG w Mr R c)
 (y:∀ i (h:i < xs.length),w.cell? ⟨g,i,none⟩=some (.string ⟨xs[i].toArray⟩)) (hl:∀ x∈xs,x.length<=1000) (C:∀ i (h:i < xs.length),kE xs[i] (R++(xs.take i).map fun x=>(x,r))=none) (s:R.length+xs.length<=900) :
 Calls prog 84 #[.agg #[.bool bb, .func (.func f) #[] j], .slice (some ⟨g,0,none⟩) n n, .pointer (some ⟨z,0,none⟩)] w fun e w'=>e=.returned (.tuple #[])/\qQG w' Mr (R++xs.map fun x=>(x,r)) c/\w.grownBy w' (some Mr):=by
 subst hb o;exact cput_any c r f j xs g z Mr R w hf G A y hl C s
theorem qJw{xs:List (List UInt8)}(h:xs.all (fun x=>decide (x.length<=1000))=true):∀ x∈xs,x.length<=1000:=fun x hx=>of_decide_eq_true (List.all_eq_true.1 h x hx)
structure OIn(B N1 N6 N8 Mr:Nat)(R:List (List UInt8×Nat))(w W:World):Prop where
 bl:Below w.1.size w W
 cc:W.cell? ⟨N1,0,none⟩=some (.pointer (some ⟨B,0,none⟩))
 ce:W.cell? ⟨N6,0,none⟩=some (.func (.func 81) #[] #[.pointer (some ⟨N1,0,none⟩)])
 m8:W.cell? ⟨N8,0,none⟩=some (.map (some Mr))
 rp:qQG W Mr R ⟨N1,N6⟩
 k1:jX W N1 135
 k6:jX W N6 136
 lo:w.1.size<=N1/\w.1.size<=N6/\w.1.size<=N8/\w.1.size<=Mr
 ne:N1≠Mr/\N6≠Mr/\N8≠Mr
theorem OIn.below{B j s y Mr:Nat}{R:List (List UInt8×Nat)}{w W o:World}(h:OIn B j s y Mr R w W)(hb:Below W.1.size W o):OIn B j s y Mr R w o :=
 ⟨h.bl.trans (hb.mono h.bl.size),kP hb h.cc,kP hb h.ce,kP hb h.m8,h.rp.kept (hb.block _ h.rp.lt),h.k1.turn (hb.block _ h.k1.lt),h.k6.turn (hb.block _ h.k6.lt),h.lo,h.ne⟩
theorem OIn.put{B z y A Mr:Nat}{R R':List (List UInt8×Nat)}{w W j:World}(h:OIn B z y A Mr R w W)(hg:W.grownBy j (some Mr))(hr:qQG j Mr R' ⟨z,y⟩):OIn B z y A Mr R' w j:=by
 have s:∀ b,b < W.1.size->b≠Mr->j.1[b]? = W.1[b]?:=fun b hb hne=>hg.block b hb (fun e=>hne (by injection e))
 have hlo:=h.lo;have C:=h.bl.size;have kc:∀ {b o:Nat} {u:Value},b≠Mr->W.cell? ⟨b,o,none⟩=some u->j.cell? ⟨b,o,none⟩=some u:=fun hne hc=>(cB (s _ (qJ hc) hne)).trans hc
 exact⟨⟨hg.os.trans h.bl.os,hg.tape.trans h.bl.tape,hg.output.trans h.bl.output,Nat.le_trans C hg.size,fun b hb=>(s b (by omega) (by omega)).trans (h.bl.block b hb)⟩,kc h.ne.1 h.cc,kc h.ne.2.1 h.ce,kc h.ne.2.2 h.m8,hr,h.k1.turn (s _ h.k1.lt h.ne.1),h.k6.turn (s _ h.k6.lt h.ne.2.1),h.lo,h.ne⟩
theorem qYJ(B:Nat)(w:World) :
 Calls prog 64 #[.pointer (some ⟨B,0,none⟩)] w fun e w'=>∃ cl Mr,e=.returned (.map (some Mr))/\Below w.1.size w w'/\w'.cell? ⟨cl.c,0,none⟩=some (.pointer (some ⟨B,0,none⟩))/\w'.cell? ⟨cl.eq,0,none⟩=some (.func (.func 81) #[] #[.pointer (some ⟨cl.c,0,none⟩)])/\qJs w' Mr cl/\jX w' cl.c 135/\jX w' cl.eq 136/\w.1.size<=Mr:=by
 have G:=@run_makeMap prog;go_enter func64,ntmps64
 have I:OIn B w.1.size (w.1.size+1) (w.1.size+1+1+1) (w.1.size+1+1) [] w ((((w.alloc (.cells #[.pointer (some ⟨B,0,none⟩)] 135)).alloc (.cells #[.func (.func 81) #[] #[.pointer (some ⟨w.1.size,0,none⟩)]] 136)).alloc (.map #[] 0)).alloc (.cells #[.map (some (w.1.size+1+1))] 118)):=by
  have h2:=qQG.made ((w.alloc (.cells #[.pointer (some ⟨B,0,none⟩)] 135)).alloc (.cells #[.func (.func 81) #[] #[.pointer (some ⟨w.1.size,0,none⟩)]] 136)) ⟨w.1.size,w.1.size+1⟩;rw[show((w.alloc (.cells #[.pointer (some ⟨B,0,none⟩)] 135)).alloc (.cells #[.func (.func 81) #[] #[.pointer (some ⟨w.1.size,0,none⟩)]] 136)).1.size=w.1.size+1+1 by simp]at h2;have k1:=(((jX.new w #[.pointer (some ⟨B,0,none⟩)] 135).turn (Below.heap_alloc _ (.cells #[.func (.func 81) #[] #[.pointer (some ⟨w.1.size,0,none⟩)]] 136) _ (by simp))).turn (Below.heap_alloc _ (.map #[] 0) _ (by simp;omega))).turn (Below.heap_alloc _ (.cells #[.map (some (w.1.size+1+1))] 118) _ (by simp;omega));have k6:=((jX.new (w.alloc (.cells #[.pointer (some ⟨B,0,none⟩)] 135)) #[.func (.func 81) #[] #[.pointer (some ⟨w.1.size,0,none⟩)]] 136).turn (Below.heap_alloc _ (.map #[] 0) _ (by simp))).turn (Below.heap_alloc _ (.cells #[.map (some (w.1.size+1+1))] 118) _ (by simp));rw[show(w.alloc (.cells #[.pointer (some ⟨B,0,none⟩)] 135)).1.size=w.1.size+1 by simp]at k6;exact⟨bal (bal (bal (bal (Below.refl _ _) _) _) _) _,by simp[go_sem],by simp[go_sem],by simp[go_sem],h2.kept (Below.heap_alloc _ _ _ (by simp)),k1,k6,by omega,by omega⟩
 have j:=hI I;clear I;have C:((((w.alloc (.cells #[.pointer (some ⟨B,0,none⟩)] 135)).alloc (.cells #[.func (.func 81) #[] #[.pointer (some ⟨w.1.size,0,none⟩)]] 136)).alloc (.map #[] 0)).alloc (.cells #[.map (some (w.1.size+1+1))] 118)).1.size=w.1.size+1+1+1+1:=by simp
 go_wp2_with fail
 clear G;generalize ((((w.alloc _).alloc _).alloc _).alloc _)=W0 at *;have y:=hI (show Below W0.1.size W0 (W0.alloc (.cells #[.string ⟨#[117,33]⟩, .string ⟨#[38,38]⟩, .string ⟨#[124,124]⟩] 9))from bal (Below.refl _ _) _);have j:=hI (j.o.below y.o);have s:=hI (show ∀ i (h:i < ([[117,33],[38,38],[124,124]]:List (List UInt8)).length),(W0.alloc (.cells #[.string ⟨#[117,33]⟩, .string ⟨#[38,38]⟩, .string ⟨#[124,124]⟩] 9)).cell? ⟨W0.1.size,i,none⟩=some (.string ⟨(([[117,33],[38,38],[124,124]]:List (List UInt8))[i]).toArray⟩) by
  rw[show(.cells #[.string ⟨#[117,33]⟩, .string ⟨#[38,38]⟩, .string ⟨#[124,124]⟩] 9:Obj)=.cells (([[117,33],[38,38],[124,124]]:List (List UInt8)).map fun x=>Value.string ⟨x.toArray⟩).toArray 9 from rfl];exact qYp [[117,33],[38,38],[124,124]] W0 9)
 rw[C]at s;refine(qJz ⟨w.1.size,w.1.size+1⟩ 0 78 3 #[] true [[117,33],[38,38],[124,124]] (w.1.size+1+1+1+1) (w.1.size+1+1+1) (w.1.size+1+1) (qQP.take 0) _ rfl rfl rfl j.o.m8 j.o.rp s.o (qJw (by kernel_rfl)) (qXg (by kernel_rfl)) (by simp only[qQP,List.take,List.length];omega)).mono ?_;rintro e W1 ⟨rfl,hr,hg⟩;have j:=hI (j.o.put (R':=qQP.take 3) hg hr);clear hr hg y s;have ce:=j.o.ce;have m8:=j.o.m8;go_wp2_with fail
 clear ce m8;have y:=hI (show Below W1.1.size W1 (W1.alloc (.cells #[.string ⟨#[61,61]⟩, .string ⟨#[33,61]⟩] 9))from bal (Below.refl _ _) _);have j:=hI (j.o.below y.o);have s:=hI (show ∀ i (h:i < ([[61,61],[33,61]]:List (List UInt8)).length),(W1.alloc (.cells #[.string ⟨#[61,61]⟩, .string ⟨#[33,61]⟩] 9)).cell? ⟨W1.1.size,i,none⟩=some (.string ⟨(([[61,61],[33,61]]:List (List UInt8))[i]).toArray⟩) by
  rw[show(.cells #[.string ⟨#[61,61]⟩, .string ⟨#[33,61]⟩] 9:Obj)=.cells (([[61,61],[33,61]]:List (List UInt8)).map fun x=>Value.string ⟨x.toArray⟩).toArray 9 from rfl];exact qYp [[61,61],[33,61]] W1 9)
 refine(qJz ⟨w.1.size,w.1.size+1⟩ 1 81 2 #[.pointer (some ⟨w.1.size,0,none⟩)] true [[61,61],[33,61]] W1.1.size (w.1.size+1+1+1) (w.1.size+1+1) (qQP.take 3) _ rfl rfl rfl j.o.m8 j.o.rp s.o (qJw (by kernel_rfl)) (qXg (by kernel_rfl)) (by simp only[qQP,List.take,List.length];omega)).mono ?_;rintro e W2 ⟨rfl,hr,hg⟩;have j:=hI (j.o.put (R':=qQP.take 5) hg hr);clear hr hg y s;have ce:=j.o.ce;have m8:=j.o.m8;go_wp2_with fail
 clear ce m8;have y:=hI (show Below W2.1.size W2 (W2.alloc (.cells #[.string ⟨#[60]⟩, .string ⟨#[60,61]⟩, .string ⟨#[62]⟩, .string ⟨#[62,61]⟩] 9))from bal (Below.refl _ _) _);have j:=hI (j.o.below y.o);have s:=hI (show ∀ i (h:i < ([[60],[60,61],[62],[62,61]]:List (List UInt8)).length),(W2.alloc (.cells #[.string ⟨#[60]⟩, .string ⟨#[60,61]⟩, .string ⟨#[62]⟩, .string ⟨#[62,61]⟩] 9)).cell? ⟨W2.1.size,i,none⟩=some (.string ⟨(([[60],[60,61],[62],[62,61]]:List (List UInt8))[i]).toArray⟩) by
  rw[show(.cells #[.string ⟨#[60]⟩, .string ⟨#[60,61]⟩, .string ⟨#[62]⟩, .string ⟨#[62,61]⟩] 9:Obj)=.cells (([[60],[60,61],[62],[62,61]]:List (List UInt8)).map fun x=>Value.string ⟨x.toArray⟩).toArray 9 from rfl];exact qYp [[60],[60,61],[62],[62,61]] W2 9)
 refine(qJz ⟨w.1.size,w.1.size+1⟩ 2 83 4 #[.pointer (some ⟨w.1.size+1,0,none⟩)] true [[60],[60,61],[62],[62,61]] W2.1.size (w.1.size+1+1+1) (w.1.size+1+1) (qQP.take 5) _ rfl rfl rfl j.o.m8 j.o.rp s.o (qJw (by kernel_rfl)) (qXg (by kernel_rfl)) (by simp only[qQP,List.take,List.length];omega)).mono ?_;rintro e z ⟨rfl,hr,hg⟩;have j:=hI (j.o.put (R':=qQP.take 9) hg hr);clear hr hg y s;have ce:=j.o.ce;have m8:=j.o.m8;go_wp2_with fail
 clear ce m8;have y:=hI (show Below z.1.size z (z.alloc (.cells #[.string ⟨#[117,45]⟩, .string ⟨#[117,126]⟩, .string ⟨#[43]⟩, .string ⟨#[45]⟩, .string ⟨#[42]⟩, .string ⟨#[47]⟩, .string ⟨#[37]⟩, .string ⟨#[60,60]⟩, .string ⟨#[62,62]⟩] 9))from bal (Below.refl _ _) _);have j:=hI (j.o.below y.o);have s:=hI (show ∀ i (h:i < ([[117,45],[117,126],[43],[45],[42],[47],[37],[60,60],[62,62]]:List (List UInt8)).length),(z.alloc (.cells #[.string ⟨#[117,45]⟩, .string ⟨#[117,126]⟩, .string ⟨#[43]⟩, .string ⟨#[45]⟩, .string ⟨#[42]⟩, .string ⟨#[47]⟩, .string ⟨#[37]⟩, .string ⟨#[60,60]⟩, .string ⟨#[62,62]⟩] 9)).cell? ⟨z.1.size,i,none⟩=some (.string ⟨(([[117,45],[117,126],[43],[45],[42],[47],[37],[60,60],[62,62]]:List (List UInt8))[i]).toArray⟩) by
  rw[show(.cells #[.string ⟨#[117,45]⟩, .string ⟨#[117,126]⟩, .string ⟨#[43]⟩, .string ⟨#[45]⟩, .string ⟨#[42]⟩, .string ⟨#[47]⟩, .string ⟨#[37]⟩, .string ⟨#[60,60]⟩, .string ⟨#[62,62]⟩] 9:Obj)=.cells (([[117,45],[117,126],[43],[45],[42],[47],[37],[60,60],[62,62]]:List (List UInt8)).map fun x=>Value.string ⟨x.toArray⟩).toArray 9 from rfl];exact qYp [[117,45],[117,126],[43],[45],[42],[47],[37],[60,60],[62,62]] z 9)
 refine(qJz ⟨w.1.size,w.1.size+1⟩ 3 79 9 #[] false [[117,45],[117,126],[43],[45],[42],[47],[37],[60,60],[62,62]] z.1.size (w.1.size+1+1+1) (w.1.size+1+1) (qQP.take 9) _ rfl rfl rfl j.o.m8 j.o.rp s.o (qJw (by kernel_rfl)) (qXg (by kernel_rfl)) (by simp only[qQP,List.take,List.length];omega)).mono ?_;rintro e A ⟨rfl,hr,hg⟩;have j:=hI (j.o.put (R':=qQP.take 18) hg hr);clear hr hg y s;have ce:=j.o.ce;have m8:=j.o.m8;go_wp2_with fail
 clear ce m8;have y:=hI (show Below A.1.size A (A.alloc (.cells #[.string ⟨#[38]⟩, .string ⟨#[124]⟩, .string ⟨#[94]⟩] 9))from bal (Below.refl _ _) _);have j:=hI (j.o.below y.o);have s:=hI (show ∀ i (h:i < ([[38],[124],[94]]:List (List UInt8)).length),(A.alloc (.cells #[.string ⟨#[38]⟩, .string ⟨#[124]⟩, .string ⟨#[94]⟩] 9)).cell? ⟨A.1.size,i,none⟩=some (.string ⟨(([[38],[124],[94]]:List (List UInt8))[i]).toArray⟩) by
  rw[show(.cells #[.string ⟨#[38]⟩, .string ⟨#[124]⟩, .string ⟨#[94]⟩] 9:Obj)=.cells (([[38],[124],[94]]:List (List UInt8)).map fun x=>Value.string ⟨x.toArray⟩).toArray 9 from rfl];exact qYp [[38],[124],[94]] A 9)
 refine(qJz ⟨w.1.size,w.1.size+1⟩ 4 80 3 #[] false [[38],[124],[94]] A.1.size (w.1.size+1+1+1) (w.1.size+1+1) (qQP.take 18) _ rfl rfl rfl j.o.m8 j.o.rp s.o (qJw (by kernel_rfl)) (qXg (by kernel_rfl)) (by simp only[qQP,List.take,List.length];omega)).mono ?_;rintro e W5 ⟨rfl,hr,hg⟩;have j:=hI (j.o.put (R':=qQP.take 21) hg hr);clear hr hg y s;have m8:=j.o.m8;go_wp2
 go_ret;exact⟨⟨w.1.size,w.1.size+1⟩,w.1.size+1+1,rfl,j.o.bl,j.o.cc,j.o.ce,j.o.rp.full,j.o.k1,j.o.k6,by omega⟩
def qVd(fs:List kI):CR Int :=
 match qQN qZf 0 fs with
 | some (h,i)=>if h.params.length=0 then .ok i else .bad 0 0 44
 | none=>.bad 0 0 44
def qXP(B:Nat)(p:CR Int)(w:World)(e:Ending)(w':World):Prop :=
 match p with
 | .ok i=>e=.returned (.tuple #[])/\∃ w4,Below w.1.size w w4/\w'=w4.setCell ⟨B,2,none⟩ (.int .i64 i)
 | .bad ln co code=>e=.panicked [{ v:=xO ln co code,recovered:=false }]/\Below w.1.size w w'
theorem qXP.okI{B:Nat}{p:CR Int}{w j:World}{i:Int}(hp:p=.ok i)(hb:Below w.1.size w j):qXP B p w (.returned (.tuple #[])) (j.setCell ⟨B,2,none⟩ (.int .i64 i)):=by
 rw[hp];exact⟨rfl,j,hb,rfl⟩
theorem qXP.badI{B:Nat}{p:CR Int}{w w':World}{ln co code:Int}(hp:p=.bad ln co code)(hb:Below w.1.size w w'):qXP B p w (.panicked [{ v:=xO ln co code,recovered:=false }]) w':=by
 rw[hp];exact⟨rfl,hb⟩
theorem start_any(B L:Nat)(gs:List qI)(fs:List FnM)(FC Mf:Nat)(gv:Value)(Mg Mr F:Nat)(cl:vE)(w:World)(h:BIn B L gs fs FC Mf gv Mg Mr F cl w) :
 Calls prog 67 #[.pointer (some ⟨B,0,none⟩)] w (qXP B (qVd (fs.map (fun f=>f.h))) w):=by
 have U:=hI h;have c1:=h.c1;have c4:=h.c4;have Z:=h.fl;have y:=hI (fun b w'=>qQk b (.mk [] [] 0 0 0 []) (.slice none 0 0) 44 w');simp only[qZ,qQ.kind,qQ.text,qQ.num,qQ.line,qQ.col,qQ.kids]at y;have C:=hI (show qVd (fs.map (fun f=>f.h))=match qQN qZf 0 (fs.map (fun f=>f.h))with
  | some (h,i)=>if h.params.length=0 then .ok (i:Int)else .bad 0 0 44
  | none=>.bad 0 0 44 from rfl)
 have j:=h.fm.look qZf (by unfold qZf maxLen;simp);cases hl:qQN qZf 0 (fs.map (fun f=>f.h))with
 | none =>
  obtain⟨A,e2⟩:=qKJ hl;have s:=hI (C.o.trans (by rw[hl]:_=.bad 0 0 44));have hm:((fs.map (·.h)).map (·.name))=((fs.map (fun f=>f.h)).map (·.name)):=rfl;rw[hm,A,e2]at j;unfold qZf at j;clear h hl A e2 C hm;go_enter func67,ntmps67
  go_wp2_with fail
  refine(y.o _ _).mono ?_;rintro e w4 (⟨hbt,rfl,hb4⟩ | ⟨hbt,rfl,hb4⟩)
  ·cases hbt
  ·exact⟨rfl,qXP.badI s.o hb4⟩
 | some p =>
  obtain⟨O,G⟩:=p;obtain⟨A,e2,hi,e3⟩:=qJK hl;have s:=hI (C.o.trans (by rw[hl]:_=if O.params.length=0 then .ok (G:Int)else .bad 0 0 44));have hm:((fs.map (·.h)).map (·.name))=((fs.map (fun f=>f.h)).map (·.name)):=rfl;rw[hm,A,e2]at j;rw[List.length_map]at hi;obtain⟨f0,f1,f2,X,f4,f5⟩:=qZv h.frow hi;rw[List.getElem_map]at e3;rw[e3]at X;have Y:(G:Int) < (fs.length:Nat):=by omega
  unfold qZf at j;clear h hl A e2 C hm f0 f1 f2 f4 f5;obtain⟨d2,c2⟩:=U.o.c2;have V:=U.o.bf 2 (by omega);have I:B < w.1.size:=qJ c2;go_enter func67,ntmps67
  go_wp2_with fail
  refine(y.o _ _).mono ?_;rintro e w4 (⟨hbt,rfl,hb4⟩ | ⟨hbt,rfl,hb4⟩)
  ·have z:O.params.length=0:=by
    have:=of_decide_eq_true hbt;omega
   have R:=hI (s.o.trans (by rw[if_pos z]:_=.ok (G:Int)));have J:=hI hb4;have c2:=kP hb4 c2;have V:=(hb4.frozen (p:=⟨B,2,none⟩) I).trans V;clear hbt hb4 X c1 c4 j;go_wp2
   go_end0;exact qXP.okI R.o J.o
  ·have z:¬O.params.length=0:=by
    intro e;have:=of_decide_eq_false hbt;omega
   exact⟨rfl,qXP.badI (s.o.trans (if_neg z)) hb4⟩
theorem qPm(p q:Addr)(w:World) :
 CallsD prog 63 #[.pointer (some p), .pointer (some q)] .returning w fun e u' w'=>e=.returned (.tuple #[])/\u'=.returning/\w'=w:=by
 refine callsD_of_wpS func63 rfl fun j cs hu=>?_
 apply wpS_seq;apply wpS_region;simp[wpOpsS,go_sem,recoverD,hu,ntmps63,Exit.thenS];refine wpS_of_wp ?_;change Code.wp _ _ _ { tmps:=#[.pointer (some p), .pointer (some q), .nilIface, .nilIface,undef,undef,undef,undef,undef],defers:=[] } w;generalize o:(fun e a' w'=>bodyPostS prog f63 j cs (fun e u' w'=>e=Ending.returned (.tuple #[])/\u'=FrameMode.returning/\w'=w) e a' (j :: cs) w')=Q;go_wp2
 rw[<-o];refine⟨rfl, .returning,?_, .tuple #[],by simp[results,results63],rfl,rfl,rfl⟩;cases j;simp_all
theorem qYG(v:Value)(w:World):(Instr.typeAssert (.iface 97 v) 20 97 false).run prog w=.ok v w:=by kernel_rfl
structure qKx(b:Nat)(gv fv:Value)(n:Int)(w:World):Prop where
 c0:w.cell? ⟨b,0,none⟩=some gv
 c1:w.cell? ⟨b,1,none⟩=some fv
 c2:w.cell? ⟨b,2,none⟩=some (.int .i64 n)
 f:∀ k,k < 3->w.frozen? ⟨b,k,none⟩=false
theorem qKx.a{b:Nat}{gv fv:Value}{n:Int}{w:World}(h:qKx b gv fv n w):w.cell? ⟨b,0,none⟩=some gv/\w.cell? ⟨b,1,none⟩=some fv/\w.cell? ⟨b,2,none⟩=some (.int .i64 n)/\True:=⟨h.c0,h.c1,h.c2,trivial⟩
theorem qKx.b{b:Nat}{gv fv:Value}{n:Int}{w:World}(h:qKx b gv fv n w):w.frozen? ⟨b,0,none⟩=false/\w.frozen? ⟨b,1,none⟩=false/\w.frozen? ⟨b,2,none⟩=false/\True:=⟨h.f 0 (by decide),h.f 1 (by decide),h.f 2 (by decide),trivial⟩
theorem qKx.turn{b:Nat}{gv fv:Value}{n:Int}{w w':World}(h:qKx b gv fv n w)(hb:w'.1[b]? = w.1[b]?):qKx b gv fv n w' :=
 have e:=fun {o:Nat} {u:Value} (e:w.cell? ⟨b,o,none⟩=some u)=>(cB (w:=w) (w':=w') (a:=⟨b,o,none⟩) hb).trans e
 ⟨e h.c0,e h.c1,e h.c2,fun j hj=>(World.frozen?_of_block hb).trans (h.f j hj)⟩
theorem qQE.turn{b:Nat}{x y z:Int}{w w':World}(h:qQE b x y z w)(hb:w'.1[b]? = w.1[b]?):qQE b x y z w' :=
 have e:=fun {o:Nat} {u:Value} (e:w.cell? ⟨b,o,none⟩=some u)=>(cB (w:=w) (w':=w') (a:=⟨b,o,none⟩) hb).trans e
 ⟨e h.c0,e h.c1,e h.c2,fun j hj=>(World.frozen?_of_block hb).trans (h.f j hj)⟩
theorem qQS(b c:Nat)(ln co code x y z:Int)(gv fv:Value)(n:Int)(w:World)(hb:qKx b gv fv n w)(hc:qQE c x y z w)(j:¬b=c)(hg1:∃ q m k,gv=.slice q m k)(o:∃ q m k,fv=.slice q m k) :
 CallsD prog 63 #[.pointer (some ⟨b,0,none⟩), .pointer (some ⟨c,0,none⟩)] (.panicking [{ v:=xO ln co code,recovered:=false }]) w fun e u' w' =>
  e=.returned (.tuple #[])/\u'=.panicking [{ v:=xO ln co code,recovered:=true }]/\qKx b (.slice none 0 0) (.slice none 0 0) 0 w'/\qQE c ln co code w'/\∀ w0:World,Below w0.1.size w0 w->w0.1.size<=b->w0.1.size<=c->Below w0.1.size w0 w':=by
 unfold xO;obtain⟨U,gm,gk,rfl⟩:=hg1;obtain⟨Z,fm,fk,rfl⟩:=o;refine callsD_of_wpS func63 rfl fun c₀ cs hu=>?_
 apply wpS_seq;apply wpS_region;simp[wpOpsS,go_sem,recoverD,hu,ntmps63,Exit.thenS];refine wpS_of_wp ?_;change Code.wp _ _ _ { tmps:=#[.pointer (some ⟨b,0,none⟩), .pointer (some ⟨c,0,none⟩), .iface 97 (.agg #[.int .i64 ln, .int .i64 co, .int .i64 code]), .iface 97 (.agg #[.int .i64 ln, .int .i64 co, .int .i64 code]),undef,undef,undef,undef,undef],defers:=[] } w;have⟨O,J,G,_⟩:=hb.a;have⟨Y,g1,g2,_⟩:=hb.b;have⟨I,X,s2,_⟩:=hc.a;have⟨V,k1,R,_⟩:=hc.b;have A:¬c=b:=fun e=>j e.symm
 have C:=qYG;go_wp2
 go_region
 refine⟨rfl, .panicking [{ v:=.iface 97 (.agg #[.int .i64 ln, .int .i64 co, .int .i64 code]),recovered:=true }],rfl, .tuple #[],by simp[results,results63],rfl,rfl,⟨?_,?_,?_,?_⟩,⟨?_,?_,?_,?_⟩,fun w0 h h1 h2=>?_⟩;case refine_4=>intro k s;have:=hb.f k s;simp[go_sem, *]
 case refine_8=>intro k s;have:=hc.f k s;simp[go_sem, *]
 case refine_9=>exact(jR (jR (jR (jR (jR (jR h h1 _) h1 _) h1 _) h2 _) h2 _) h2 _).drew
 all_goals simp[go_sem, *]
theorem qMt(t:qQ):qZb t=(yS t.kids ⟨[],[]⟩).bind fun S=>(vG S.gs S.fs t.kids S.fs).bind fun l=>(qVd S.fs).bind fun i=>.ok ⟨S.gs,l,i⟩:=by
 unfold qZb;congr 1
 funext S
 congr 1
 funext l
 unfold qVd;cases qQN qZf 0 S.fs with
 | none=>rfl
 | some p =>
  obtain⟨h,i⟩:=p;simp only;split <;> rfl
theorem qXc{α β:Type}{p:CR α}{f:α->CR β}{b:β}(h:p.bind f=.ok b):∃ a,p=.ok a/\f a=.ok b:=by
 cases p with
 | ok a=>exact⟨a,rfl,h⟩
 | bad x y z=>cases h
theorem qKH:∀ {ts:List qQ} {S S':HdS},yS ts S=.ok S'->S'.fs.length=S.fs.length+qXI ts
 | [],S,S',h=>by rw[yS]at h;injection h with h;subst h;simp[qXI]
 | t :: r,S,S',h=>by
  rw[yS]at h;cases j:(t.kind == qC)with
  | true =>
   rw[j]at h;simp only[if_true]at h;cases hp:wF S t with
   | bad a b c=>rw[hp]at h;cases h
   | ok S1 =>
    rw[hp]at h;have:=qKH (show yS r S1=.ok S' from h);have o:S1.fs.length=S.fs.length+1:=by
     unfold wF at hp;obtain⟨_,_,hp⟩:=qXc hp;obtain⟨_,_,hp⟩:=qXc hp;obtain⟨_,_,hp⟩:=qXc hp;injection hp with hp;subst hp;simp
    have h2:qXI (t :: r)=qXI r+1:=by simp[qXI,List.filter_cons,j]
    omega
  | false =>
   rw[j]at h;simp only[bF,if_false]at h;cases hp:qZ9 S t with
   | bad a b c=>rw[hp]at h;cases h
   | ok S1 =>
    rw[hp]at h;have:=qKH (show yS r S1=.ok S' from h);have o:S1.fs.length=S.fs.length:=by
     rw[qWW]at hp;obtain⟨_,_,hp⟩:=qXc hp;obtain⟨_,_,hp⟩:=qXc hp;obtain⟨_,_,hp⟩:=qXc hp;injection hp with hp;subst hp;rfl
    have h2:qXI (t :: r)=qXI r:=by simp[qXI,List.filter_cons,j]
    omega
structure qYA(w:World):Prop where
 b0:w.cell? ⟨1,0,none⟩=some (.int .i64 1)
 b1:w.cell? ⟨1,1,none⟩=some (.bool false)
 d0:w.cell? ⟨2,0,none⟩=some (.int .i64 64)
 d1:w.cell? ⟨2,1,none⟩=some (.bool false)
 wt:qKi w
theorem qYA.below{w w':World}(h:qYA w)(hb:Below w.1.size w w'):qYA w' :=
 have k:∀ {p:Addr} {v:Value},w.cell? p=some v->w'.cell? p=some v:=fun e=>kP hb e
 ⟨k h.b0,k h.b1,k h.d0,k h.d1,h.wt.below hb⟩
def qZ2(lo:Nat)(p:PrD)(v:Value)(w:World):Prop :=
 ∃ (fs:List FnM) (bs:List (List Sx)) (gv fv:Value),v=.agg #[gv,fv, .int .i64 p.main]/\qQI w 0 p.globals gv/\w.ownsRow 0 40 6 fv fs.length (xD fnC fs)/\(∀ f∈fs,qQI w 0 f.vars f.vv)/\p.funcs=qXt fs bs/\bs.length=fs.length/\qJn w lo fs bs/\p.globals.length<=64/\fs.length<=16/\(∀ f∈fs,f.vars.length<=64)/\∃ i,p.main=(i:Nat)/\i < fs.length
def qKj(t:qQ)(v:Value)(w:World):World:=((w.alloc (qB t v)).alloc (.cells #[.slice none 0 0, .slice none 0 0, .int .i64 0] 30)).alloc (.cells #[.int .i64 0, .int .i64 0, .int .i64 0] 97)
def pgW(t:qQ)(v:Value)(w:World):World:=(((qKj t v w).alloc (.map #[] 0)).alloc (.map #[] 0)).alloc (.cells #[.slice none 0 0, .slice none 0 0, .int .i64 0, .map (some (w.1.size+1+1+1)), .map (some (w.1.size+1+1+1+1)), .int .i64 0, .map none, .pointer none, .map none] 121)
theorem qKx.new(w:World):qKx w.1.size (.slice none 0 0) (.slice none 0 0) 0 (w.alloc (.cells #[.slice none 0 0, .slice none 0 0, .int .i64 0] 30)):=by
 constructor
 case f=>intro k j;match k,j with | 0,_=>simp[go_sem] | 1,_=>simp[go_sem] | 2,_=>simp[go_sem]
 all_goals simp[go_sem]
theorem qQE.new(w:World):qQE w.1.size 0 0 0 (w.alloc (.cells #[.int .i64 0, .int .i64 0, .int .i64 0] 97)):=by
 constructor
 case f=>intro k j;match k,j with | 0,_=>simp[go_sem] | 1,_=>simp[go_sem] | 2,_=>simp[go_sem]
 all_goals simp[go_sem]
structure qUA(P Q Mg Mf B:Nat)(t:qQ)(v:Value)(w W:World):Prop where
 bl:Below w.1.size w W
 sz:W.1.size=w.1.size+6
 lo:P=w.1.size+1/\Q=w.1.size+2/\Mg=w.1.size+3/\Mf=w.1.size+4/\B=w.1.size+5
 nd:Bx w.1.size t v W
 pb:qKx P (.slice none 0 0) (.slice none 0 0) 0 W
 pk:jX W P 30
 lf:qQE Q 0 0 0 W
 lk:jX W Q 97
 mg:wY W Mg []
 mf:wY W Mf []
 cb:jX W B 121
 c0:W.cell? ⟨B,0,none⟩=some (.slice none 0 0)
 c1:W.cell? ⟨B,1,none⟩=some (.slice none 0 0)
 c2:W.cell? ⟨B,2,none⟩=some (.int .i64 0)
 c3:W.cell? ⟨B,3,none⟩=some (.map (some Mg))
 c4:W.cell? ⟨B,4,none⟩=some (.map (some Mf))
 c5:W.cell? ⟨B,5,none⟩=some (.int .i64 0)
 c6:W.cell? ⟨B,6,none⟩=some (.map none)
 c7:W.cell? ⟨B,7,none⟩=some (.pointer none)
 c8:W.cell? ⟨B,8,none⟩=some (.map none)
 f:∀ j,j < 9->W.frozen? ⟨B,j,none⟩=false
theorem qUA.a{P Q Mg Mf B:Nat}{t:qQ}{v:Value}{w W:World}(h:qUA P Q Mg Mf B t v w W):W.cell? ⟨B,0,none⟩=some (.slice none 0 0)/\W.cell? ⟨B,1,none⟩=some (.slice none 0 0)/\W.cell? ⟨B,2,none⟩=some (.int .i64 0)/\W.cell? ⟨B,3,none⟩=some (.map (some Mg))/\W.cell? ⟨B,4,none⟩=some (.map (some Mf))/\W.cell? ⟨B,5,none⟩=some (.int .i64 0)/\W.cell? ⟨B,6,none⟩=some (.map none)/\W.cell? ⟨B,7,none⟩=some (.pointer none)/\W.cell? ⟨B,8,none⟩=some (.map none)/\True:=⟨h.c0,h.c1,h.c2,h.c3,h.c4,h.c5,h.c6,h.c7,h.c8,trivial⟩
theorem qUA.b{P Q Mg Mf B:Nat}{t:qQ}{v:Value}{w W:World}(h:qUA P Q Mg Mf B t v w W):W.frozen? ⟨B,0,none⟩=false/\W.frozen? ⟨B,1,none⟩=false/\W.frozen? ⟨B,2,none⟩=false/\W.frozen? ⟨B,3,none⟩=false/\W.frozen? ⟨B,4,none⟩=false/\W.frozen? ⟨B,5,none⟩=false/\W.frozen? ⟨B,6,none⟩=false/\W.frozen? ⟨B,7,none⟩=false/\W.frozen? ⟨B,8,none⟩=false/\True:=⟨h.f 0 (by decide),h.f 1 (by decide),h.f 2 (by decide),h.f 3 (by decide),h.f 4 (by decide),h.f 5 (by decide),h.f 6 (by decide),h.f 7 (by decide),h.f 8 (by decide),trivial⟩
theorem qUA.new(t:qQ)(v:Value)(w:World):qUA (w.1.size+1) (w.1.size+1+1) (w.1.size+1+1+1) (w.1.size+1+1+1+1) (w.1.size+1+1+1+1+1) t v w (pgW t v w):=by
 have G:(w.alloc (qB t v)).1.size=w.1.size+1:=by simp
 have Y:((w.alloc (qB t v)).alloc (.cells #[.slice none 0 0, .slice none 0 0, .int .i64 0] 30)).1.size=w.1.size+2:=by simp
 have o:(qKj t v w).1.size=w.1.size+3:=by simp[qKj]
 have J:((qKj t v w).alloc (.map #[] 0)).1.size=w.1.size+4:=by simp[o]
 have y:(((qKj t v w).alloc (.map #[] 0)).alloc (.map #[] 0)).1.size=w.1.size+5:=by simp[o]
 have X:Below (w.1.size+5) (((qKj t v w).alloc (.map #[] 0)).alloc (.map #[] 0)) (pgW t v w):=by
  have:=bal (Below.refl (((qKj t v w).alloc (.map #[] 0)).alloc (.map #[] 0)).1.size _) (.cells #[.slice none 0 0, .slice none 0 0, .int .i64 0, .map (some (w.1.size+1+1+1)), .map (some (w.1.size+1+1+1+1)), .int .i64 0, .map none, .pointer none, .map none] 121);rw[y]at this;exact this
 have U:Below (w.1.size+4) ((qKj t v w).alloc (.map #[] 0)) (pgW t v w):=by
  have:=bal (Below.refl ((qKj t v w).alloc (.map #[] 0)).1.size _) (.map #[] 0);rw[J]at this;exact this.trans (X.mono (by omega))
 have z:Below (w.1.size+3) (qKj t v w) (pgW t v w):=by
  have:=bal (Below.refl (qKj t v w).1.size _) (.map #[] 0);rw[o]at this;exact this.trans (U.mono (by omega))
 have s:Below (w.1.size+2) ((w.alloc (qB t v)).alloc (.cells #[.slice none 0 0, .slice none 0 0, .int .i64 0] 30)) (pgW t v w):=by
  have:=bal (Below.refl ((w.alloc (qB t v)).alloc (.cells #[.slice none 0 0, .slice none 0 0, .int .i64 0] 30)).1.size _) (.cells #[.int .i64 0, .int .i64 0, .int .i64 0] 97);rw[Y]at this;exact this.trans (z.mono (by omega))
 have b1:Below (w.1.size+1) (w.alloc (qB t v)) (pgW t v w):=by
  have:=bal (Below.refl (w.alloc (qB t v)).1.size _) (.cells #[.slice none 0 0, .slice none 0 0, .int .i64 0] 30);rw[G]at this;exact this.trans (s.mono (by omega))
 have R:=qKx.new (w.alloc (qB t v));have l1:=qQE.new ((w.alloc (qB t v)).alloc (.cells #[.slice none 0 0, .slice none 0 0, .int .i64 0] 30));have k1:=jX.new (w.alloc (qB t v)) #[.slice none 0 0, .slice none 0 0, .int .i64 0] 30;have O:=jX.new ((w.alloc (qB t v)).alloc (.cells #[.slice none 0 0, .slice none 0 0, .int .i64 0] 30)) #[.int .i64 0, .int .i64 0, .int .i64 0] 97;have A:=wY.made (qKj t v w);have C:=wY.made ((qKj t v w).alloc (.map #[] 0));have I:=jX.new (((qKj t v w).alloc (.map #[] 0)).alloc (.map #[] 0)) #[.slice none 0 0, .slice none 0 0, .int .i64 0, .map (some (w.1.size+1+1+1)), .map (some (w.1.size+1+1+1+1)), .int .i64 0, .map none, .pointer none, .map none] 121;have V:=hp_new (((qKj t v w).alloc (.map #[] 0)).alloc (.map #[] 0)) (.cells #[.slice none 0 0, .slice none 0 0, .int .i64 0, .map (some (w.1.size+1+1+1)), .map (some (w.1.size+1+1+1+1)), .int .i64 0, .map none, .pointer none, .map none] 121);rw[G]at R k1;rw[Y]at l1 O;rw[o]at A;rw[J]at C;rw[y]at I V;have hb5:(pgW t v w).1[w.1.size+5]? = some (.cells #[.slice none 0 0, .slice none 0 0, .int .i64 0, .map (some (w.1.size+1+1+1)), .map (some (w.1.size+1+1+1+1)), .int .i64 0, .map none, .pointer none, .map none] 121):=V;refine⟨(bal (Below.refl _ _) _).trans (b1.mono (by omega)),by unfold pgW;rw[World.size_alloc,y],⟨rfl,rfl,rfl,rfl,rfl⟩,(b1.block _ (by omega)).trans (Bx.new t v w),R.turn (s.block _ (by omega)),k1.turn (s.block _ (by omega)),l1.turn (z.block _ (by omega)),O.turn (z.block _ (by omega)),A.kept (U.block _ (by omega)),C.kept (X.block _ (by omega)),I,?_,?_,?_,?_,?_,?_,?_,?_,?_,fun j hj=>?_⟩;all_goals first | (simp only[World.cell?,hb5];rfl) | simp[World.frozen?,hb5]
def qZX:Value:=.agg #[.slice none 0 0, .slice none 0 0, .int .i64 0]
def qZZ(p:CR PrD)(w:World)(e:Ending)(w':World):Prop :=
 match p with
 | .ok r=>∃ v,e=.returned (.tuple #[v, .agg #[.int .i64 0, .int .i64 0, .int .i64 0]])/\qZ2 w.1.size r v w'/\Below w.1.size w w'
 | .bad ln co code=>e=.returned (.tuple #[qZX, .agg #[.int .i64 ln, .int .i64 co, .int .i64 code]])/\Below w.1.size w w'
theorem qZZ.okI{p:CR PrD}{r:PrD}{w w':World}{v:Value}(hp:p=.ok r)(h:qZ2 w.1.size r v w')(hb:Below w.1.size w w'):qZZ p w (.returned (.tuple #[v, .agg #[.int .i64 0, .int .i64 0, .int .i64 0]])) w':=by
 rw[hp];exact⟨v,rfl,h,hb⟩
theorem qZZ.badI{p:CR PrD}{w w':World}{ln co code:Int}(hp:p=.bad ln co code)(hb:Below w.1.size w w'):qZZ p w (.returned (.tuple #[qZX, .agg #[.int .i64 ln, .int .i64 co, .int .i64 code]])) w':=by
 rw[hp];exact⟨rfl,hb⟩
def PgOk(t:qQ):Prop:=t.kids.length<=1000000/\(∀ a∈t.kids,HdOk a)/\∀ a∈t.kids,(a.kind == qC)=true->a.kids≠[]/\a.kids.length<=1000000/\qUz (yE a)
def BnRel(L:Nat)(ts:List qQ)(W:World)(nx i:Value)(wr:World):Prop:=∃ k:Nat,k<=ts.length/\i=.int .i64 k/\nx=.int .i64 0/\Below W.1.size W wr
theorem qPj(B L:Nat)(ts:List qQ)(q:Option Addr)(c:Nat)(W:World)(hL:L<=W.1.size)(U:yD L W ts q)(O:ts.length<=1000000)(R:∀ t∈ts,(t.kind == qC)=false) :
 Calls prog 66 #[.pointer (some ⟨B,0,none⟩), .slice q ts.length c] W fun e w'=>e=.returned (.tuple #[])/\Below W.1.size W w':=by
 have X:=hI U;have HN:=hI R;clear U R;go_enter func66,ntmps66
 go_wp2
 go_loopw [4,9] (fun nx i wr=>BnRel L ts W nx i wr) (fun _ i _=>ts.length - (intOf i).toNat)
 case atStart=>exact⟨0,Nat.zero_le _,rfl,rfl,Below.refl _ _⟩
 case round =>
  obtain⟨k,hk,rfl,rfl,hb⟩:=hrel;have C:=hI hb;have G:=hb.size;clear hb;by_cases j:k < ts.length
  ·obtain⟨g,Y,rfl,s⟩:=(X.o.keep (C.o.mono hL)).resolve_left (fun e=>by rw[e]at j;simp at j);obtain⟨Z,na,V,I,y⟩:=s.2 k j;have⟨k0,k1,k2,k3,k4,k5,_⟩:=y.a;have z:=HN.o ts[k] (List.getElem_mem j);have J:=hI (bal (Below.refl wr.1.size wr) (qB ts[k] (.slice Z na V)));have A:(k:Int) < (ts.length:Nat):=by omega
   clear y I s;generalize ts[k]=u at *;obtain⟨uk,ux,um,ul,uc,d2⟩:=u;simp only[qS,qZ,qB,qQ.kind,qQ.text,qQ.num,qQ.line,qQ.col,qQ.kids]at *;unfold qC at z;go_wp2
   refine⟨⟨k+1,by omega,rfl,rfl,C.o.trans (J.o.mono G)⟩,?_⟩;simp only[intOf];omega
  ·have A:(ts.length:Int)<=(k:Nat):=by omega
   go_wp2
   go_end0;exact⟨rfl,C.o⟩
theorem start_none(B Mf:Nat)(w:World)(c4:w.cell? ⟨B,4,none⟩=some (.map (some Mf)))(fm:wY w Mf []) :
 Calls prog 67 #[.pointer (some ⟨B,0,none⟩)] w (qXP B (.bad 0 0 44) w):=by
 have j:=hI (fun b w'=>qQk b (.mk [] [] 0 0 0 []) (.slice none 0 0) 44 w');simp only[qZ,qQ.kind,qQ.text,qQ.num,qQ.line,qQ.col,qQ.kids]at j;have s:=fm.look qZf (by unfold qZf maxLen;simp);rw[show qVi qZf []=0 from rfl,show qVh qZf []=false from rfl]at s;unfold qZf at s;clear fm;go_enter func67,ntmps67
 go_wp2_with fail
 refine(j.o _ _).mono ?_;rintro e y (⟨hbt,rfl,hb4⟩ | ⟨hbt,rfl,hb4⟩)
 ·cases hbt
 ·exact⟨rfl,qXP.badI rfl hb4⟩
theorem qVX(gs:List qI)(H:List kI):∀ ts:List qQ,vG gs H ts []=.ok []
 | []=>by rw[vG]
 | t :: r=>by
  rw[vG];split
  ·rfl
  ·exact qVX gs H r
theorem qZ2.of{B L:Nat}{gs:List qI}{fs:List FnM}{FC Mf:Nat}{gv:Value}{Mg Mr F:Nat}{cl:vE}{w w':World}{o:List (List Sx)}{lo lo' P Q i:Nat}(h:BIn B L gs fs FC Mf gv Mg Mr F cl w)(hl:qJn w lo fs o)(hb:o.length=fs.length)(hi:i < fs.length)(y:jX w P 30)(A:jX w Q 97)(hlo:B < lo/\P < lo/\Q < lo/\lo'<=lo)
 (z:∀ k,k < w.1.size->k≠B->k≠P->k≠Q->w'.1[k]? = w.1[k]?):qZ2 lo' ⟨gs,qXt fs o,i⟩ (.agg #[gv, .slice (some ⟨F,0,none⟩) fs.length FC, .int .i64 i]) w':=by
 have s:∀ {b S},jX w b S->S≠121->S≠30->S≠97->w'.1[b]? = w.1[b]?:=fun k h1 h2 h3=>z _ k.lt (k.ne h.kb h1) (k.ne y h2) (k.ne A h3)
 refine⟨fs,o,gv,_,rfl,zU h.grow (fun g hg=>s (zE h.grow hg) (by decide) (by decide) (by decide)),zU h.frow (fun g hg=>s (zE h.frow hg) (by decide) (by decide) (by decide)),fun f hf=>zU (h.vrow f hf) (fun g hg=>s (zE (h.vrow f hf) hg) (by decide) (by decide) (by decide)),rfl,hb,fun j hj=>jE.move (hl j hj) (fun g hg hok=>⟨⟨by omega,hok.2⟩,?_⟩),h.gl,h.fl,h.vl,i,rfl,hi⟩;exact z g hg (by omega) (by omega) (by omega)
theorem mainC_ok{H:List kI}{i:Int}(h:qVd H=.ok i):∃ n:Nat,i=n/\n < H.length:=by
 unfold qVd at h;cases hl:qQN qZf 0 H with
 | none=>rw[hl]at h;cases h
 | some p =>
  obtain⟨j,h2⟩:=p;rw[hl]at h;simp only at h;split at h
  ·injection h with h;obtain⟨_,_,hi,_⟩:=qJK hl;exact⟨h2,h.symm,hi⟩
  ·cases h
theorem qUA.hin{P Q Mg Mf B Mr:Nat}{t:qQ}{v:Value}{w W W1:World}{cl:vE}(h:qUA P Q Mg Mf B t v w W)(hc:qYA w)(hb:Below W.1.size W W1)(R:W1.cell? ⟨cl.c,0,none⟩=some (.pointer (some ⟨B,0,none⟩)))(O:W1.cell? ⟨cl.eq,0,none⟩=some (.func (.func 81) #[] #[.pointer (some ⟨cl.c,0,none⟩)]))
 (U:qJs W1 Mr cl) (z:jX W1 cl.c 135) (G:jX W1 cl.eq 136) (Y:W.1.size<=Mr):HIn B Mg [] [] (.slice none 0 0) (.slice none 0 0) Mg Mf Mr cl (yV []) (W1.setCell ⟨B,6,none⟩ (.map (some Mr))):=by
 have hlo:=h.lo;have X:=h.sz;have C:Below w.1.size w (W1.setCell ⟨B,6,none⟩ (.map (some Mr))):=jR (h.bl.trans (hb.mono (by omega))) (by omega) _;have I:=hc.below C;have J:∀ b,b≠B->(W1.setCell ⟨B,6,none⟩ (.map (some Mr))).1[b]? = W1.1[b]?:=fun b hb=>hS _ _ _ _ hb
 have V:jX W1 B 121:=h.cb.turn (hb.block _ h.cb.lt);have k:∀ {o:Nat} {u:Value},o≠6->W.cell? ⟨B,o,none⟩=some u->(W1.setCell ⟨B,6,none⟩ (.map (some Mr))).cell? ⟨B,o,none⟩=some u:=fun {o u} ho e =>
  (World.cell?_setCell_other _ _ _ _ (by simpa using Ne.symm ho)).trans ((hb.cell (p:=⟨B,o,none⟩) (qJ e)).trans e)
 have kc:∀ {b o:Nat} {u:Value},b≠B->W1.cell? ⟨b,o,none⟩=some u->(W1.setCell ⟨B,6,none⟩ (.map (some Mr))).cell? ⟨b,o,none⟩=some u:=fun hne e=>(cB (J _ hne)).trans e
 have c6:=(hb.cell (p:=⟨B,6,none⟩) (qJ h.c6)).trans h.c6;have h4:4 < w.1.size:=by obtain⟨b,y,A,s⟩:=hc.wt;exact qJ s.tg
 refine⟨k (by decide) h.c0,k (by decide) h.c1,⟨_,k (by decide) h.c2⟩,k (by decide) h.c3,k (by decide) h.c4,k (by decide) h.c5,World.cell?_setCell_same _ _ _ c6,⟨_,k (by decide) h.c7⟩,⟨_,k (by decide) h.c8⟩,fun j hj=>?_,⟨rfl, .inl ⟨rfl,rfl⟩⟩,⟨rfl, .inl ⟨rfl,rfl⟩⟩,fun f hf=>by simp at hf,?_,?_,?_,kc (z.ne V (by decide)) R,kc (G.ne V (by decide)) O,I.b0,I.b1,I.d0,I.d1,by decide,by decide,fun f hf=>by simp at hf,V.set _ _ _,z.set _ _ _,G.set _ _ _,⟨by omega,by omega,by omega⟩,⟨by omega,by omega,by omega,by omega⟩,fun j hj=>by simp at hj,?_⟩
 ·exact(World.frozen?_setCell _ _ _ _).trans ((hb.frozen (p:=⟨B,j,none⟩) h.cb.lt).trans (h.f j hj))
 ·exact(h.mg.below hb).kept (J _ (by omega))
 ·exact(h.mf.below hb).kept (J _ (by omega))
 ·exact U.kept (J _ (by omega))
 ·obtain⟨b,y,A,s⟩:=hc.wt;exact⟨b,y,A,s.below C,by have:b < w.1.size:=qJ (s.tn 0 (by omega));omega⟩
theorem qUH(t:qQ)(v:Value)(w:World)(hc:qYA w)(hl:xZ w (· < w.1.size) t v)(ho:PgOk t):Calls prog 45 #[qZ t v] w (qZZ (qZb t) w):=by
 obtain⟨q,c,rfl,t7,r6,hK⟩:=hl.kids;have J:=hI (qUA.new t (.slice q t.kids.length c) w);have HC:=hI hc;have p6:=hI hl;have HK:=hI hK;have d4:=hI ho;have h4:4 < w.1.size:=by obtain⟨b,s5,s1,p9⟩:=hc.wt;exact qJ p9.tg
 have d8:=hI (qMt t);have n6:=zT;have r4:=@run_makeMap prog;clear hl hK ho hc;obtain⟨k,x,m,ln,co,ks⟩:=t;unfold pgW qKj at J;simp only[qZ,qB,qS,qQ.kind,qQ.text,qQ.num,qQ.line,qQ.col,qQ.kids]at *;go_enter_defers func45,ntmps45
 go_wp2_with fail
 clear n6 r4;generalize ((((((w.alloc _).alloc _).alloc _).alloc _).alloc _).alloc _)=W5 at *;generalize w.1.size+1+1+1+1+1=B at *;generalize w.1.size+1+1+1+1=Mf at *;generalize w.1.size+1+1+1=Mg at *;generalize w.1.size+1+1=Q at *;generalize w.1.size+1=P at *;have hlo:w.1.size < P/\P < Q/\Q < Mg/\Mg < Mf/\Mf < B/\B < W5.1.size/\4 < Mg:=by have h1:=J.o.lo;have h2:=J.o.sz;omega
 have D1:=J.o.bl.size;refine(qYJ _ _).mono ?_;rintro e W1 ⟨cl,Mr,rfl,V,m9,g5,n0,g6,m6,p8⟩;have hH:=J.o.hin HC.o V m9 g5 n0 g6 m6 p8;have HH:=hI hH;have r9:=V.size;have c6:=(V.cell (p:=⟨B,6,none⟩) (qJ J.o.c6)).trans J.o.c6;have f6:=(V.frozen (p:=⟨B,6,none⟩) J.o.cb.lt).trans (J.o.f 6 nL);have f8:∀ b,b≠B->(W1.setCell ⟨B,6,none⟩ (.map (some Mr))).1[b]? = W1.1[b]?:=fun b hb=>hS _ _ _ _ hb
 have z:∀ b,b < W5.1.size->b≠B->(W1.setCell ⟨B,6,none⟩ (.map (some Mr))).1[b]? = W5.1[b]?:=fun b hb hne=>(f8 b hne).trans (V.block b hb)
 have d3:=hI (J.o.pb.turn (z P (by omega) (by omega)));have r0:=hI (J.o.pk.turn (z P (by omega) (by omega)));have d5:=hI (J.o.lf.turn (z Q (by omega) (by omega)));have p3:=hI (J.o.lk.turn (z Q (by omega) (by omega)));have m0:=hI (show Bx w.1.size (.mk k x m ln co ks) (.slice q ks.length c) _ from(z w.1.size (by omega) (by omega)).trans J.o.nd);have Y:=hI (show Below w.1.size w (W1.setCell ⟨B,6,none⟩ (.map (some Mr)))from jR (J.o.bl.trans (V.mono (by omega))) (by omega) _);have g3:=hI (show xZ (W1.setCell ⟨B,6,none⟩ (.map (some Mr))) (· < Mg) (.mk k x m ln co ks) (.slice q ks.length c)from xZ.move (fun g hg hok=>⟨by omega,Y.o.block g hok⟩) _ _ p6.o);have m3:=m0.o.cells.2.2.2.2.2;have n5:W1.cell? ⟨w.1.size,5,none⟩=some (.slice q ks.length c):=(cB (f8 w.1.size (by omega)).symm).trans m3;have r3:¬B=w.1.size:=by omega
 have D2:¬w.1.size=B:=by omega
 have hs2:(W1.setCell ⟨B,6,none⟩ (.map (some Mr))).1.size=W1.1.size:=by simp
 obtain⟨qk,ck,e,_,_,g9⟩:=g3.o.kids;injection e with e1 e2 e3;have f9:=hI g9;rw[<-e1]at f9;clear hH V m9 g5 n0 g6 m6 m3 g9 e1 e2 e3 f8 z;go_wp2_with fail
 clear c6 f6 n5;generalize (W1.setCell ⟨B,6,none⟩ (.map (some Mr)))=W2 at *;have m7:=hI (heads_any B Mg [] [] (.slice none 0 0) (.slice none 0 0) Mg Mf Mr cl ks q c W2 HH.o (by omega) f9.o d4.o.1 d4.o.2.1);refine(m7.o).mono ?_;rintro e W' hX;rcases hX.cases with⟨gs,fs,gv,fv,hp,rfl,n1,I⟩ | ⟨l,c9,code,hp,rfl,I⟩;rotate_left
 ·skip
  have hT:jW Mg W2 W':=I;have hP:=d3.o.turn (hT.block P (by omega) (by omega));have hQ:=d5.o.turn (hT.block Q (by omega) (by omega));have s:=(d8.o.trans (by rw[show yS ks ⟨[],[]⟩=_ from hp];rfl):qZb (.mk k x m ln co ks)=.bad l c9 code);have y:Below w.1.size w W':=(jW.below (L:=w.1.size) ((jW.of_below Y.o).trans ⟨hT.os,hT.tape,hT.output,hT.size,fun b hb hL=>hT.block b hb (by omega)⟩) (Nat.le_refl _));refine leaves_cons (f:=63) (args:=#[.pointer (some ⟨P,0,none⟩), .pointer (some ⟨Q,0,none⟩)]) (by simp) (by simp[go_sem]) ?_;refine(qQS P Q l c9 code 0 0 0 (.slice none 0 0) (.slice none 0 0) 0 W' hP hQ (by omega) ⟨_,_,_,rfl⟩ ⟨_,_,_,rfl⟩).mono ?_;rintro e u' w9 ⟨rfl,rfl,G,O,R⟩;have⟨p0,p1,p2,_⟩:=G.a;have⟨q0,q1,q2,_⟩:=O.a;show Leaves _ _ _ _ [] FrameMode.returning w9
  refine⟨.tuple #[qZX, .agg #[.int .i64 l, .int .i64 c9, .int .i64 code]],by simp[results,results45,go_sem,qZX, *],?_⟩;exact qZZ.badI s (R w y (by omega) (by omega))
 have X:=hI (d8.o.trans (by rw[show yS ks ⟨[],[]⟩=_ from hp];rfl:_=(vG gs (fs.map (fun f=>f.h)) ks (fs.map (fun f=>f.h))).bind fun l=>(qVd (fs.map (fun f=>f.h))).bind fun i=>.ok ⟨gs,l,i⟩));have A:=hI n1;have d9:=hI I;have d6:=qKH (show yS ks ⟨[],[]⟩=.ok ⟨gs,fs.map (fun f=>f.h)⟩from hp);simp only[List.length_map,lZ,Nat.zero_add]at d6;have hs3:=I.size;have n2:=hI (show Bx w.1.size (.mk k x m ln co ks) (.slice q ks.length c) W' from(I.block w.1.size (by omega) (by omega)).trans m0.o);have n5:=n2.o.cells.2.2.2.2.2;try simp only[qQ.kids]at n5
 have f4:=hI (f9.o.low (w:=W2) (w':=W') (by omega) I.block);clear hX hp n1 I m7 HH;go_wp2_with fail
 clear n5;rcases A.o.frow.2 with⟨n3,n8⟩ | ⟨F,FC,t8,n3,_⟩
 ·have p7:fs=[]:=List.length_eq_zero_iff.1 n8;subst p7;have r2:∀ t∈ks,(t.kind == qC)=false:=by
   intro t ht;cases hk:(t.kind == qC)with
   | false=>rfl
   | true =>
    exfalso;have:0 < qXI ks:=by unfold qXI;exact List.length_pos_iff.2 (List.ne_nil_of_mem (List.mem_filter.2 ⟨ht,hk⟩))
    simp only[lZ]at d6;omega
  refine(qPj B Mg ks q c W' (by omega) f4.o d4.o.1 r2).mono ?_;rintro e W6 ⟨rfl,f3⟩;have d2:=hI (d9.o.trans (jW.of_below (L:=Mg) f3));have c4:=(f3.cell (p:=⟨B,4,none⟩) (qJ A.o.c4)).trans A.o.c4;have n7:=A.o.fm.below f3;clear f3;go_wp2_with fail
  refine(start_none B Mf W6 c4 n7).mono ?_;rintro e W' ⟨rfl,j⟩;have hT:jW Mg W2 W':=d2.o.trans (jW.of_below j);have hP:=d3.o.turn (hT.block P (by omega) (by omega));have hQ:=d5.o.turn (hT.block Q (by omega) (by omega));have s:=(X.o.trans (by simp only[List.map_nil];rw[qVX];rfl):qZb (.mk k x m ln co ks)=.bad 0 0 44);have y:Below w.1.size w W':=(jW.below (L:=w.1.size) ((jW.of_below Y.o).trans ⟨hT.os,hT.tape,hT.output,hT.size,fun b hb hL=>hT.block b hb (by omega)⟩) (Nat.le_refl _));refine leaves_cons (f:=63) (args:=#[.pointer (some ⟨P,0,none⟩), .pointer (some ⟨Q,0,none⟩)]) (by simp) (by simp[go_sem]) ?_;refine(qQS P Q 0 0 44 0 0 0 (.slice none 0 0) (.slice none 0 0) 0 W' hP hQ (by omega) ⟨_,_,_,rfl⟩ ⟨_,_,_,rfl⟩).mono ?_;rintro e u' w9 ⟨rfl,rfl,G,O,R⟩;have⟨p0,p1,p2,_⟩:=G.a;have⟨q0,q1,q2,_⟩:=O.a;show Leaves _ _ _ _ [] FrameMode.returning w9
  refine⟨.tuple #[qZX, .agg #[.int .i64 0, .int .i64 0, .int .i64 44]],by simp[results,results45,go_sem,qZX, *],?_⟩;exact qZZ.badI s (R w y (by omega) (by omega))
 ·subst n3;have D3:=A.o;obtain⟨gq,gc,r5⟩:=qZL A.o.grow;subst r5;have g4:=HIn.bin (F:=F) (FC:=FC) A.o;refine(qLU B Mg gs fs FC Mf (.slice gq gs.length gc) Mg Mr F cl ks q c W' g4 (by omega) f4.o d4.o.1 d6.symm (fun f hf=>⟨(A.o.par f hf).1,(A.o.par f hf).2.1⟩) d4.o.2.2).mono ?_;have t5:=d9.o.size;rintro e W6 hX;cases hq:vG gs (fs.map (fun f=>f.h)) ks (fs.map (fun f=>f.h))with
  | bad l c9 code =>
   rw[hq]at hX;obtain⟨rfl,d7⟩:=hX;have hT:jW Mg W2 W6:=d9.o.trans d7;have hP:=d3.o.turn (hT.block P (by omega) (by omega));have hQ:=d5.o.turn (hT.block Q (by omega) (by omega));have s:=(X.o.trans (by rw[hq];rfl):qZb (.mk k x m ln co ks)=.bad l c9 code);have y:Below w.1.size w W6:=(jW.below (L:=w.1.size) ((jW.of_below Y.o).trans ⟨hT.os,hT.tape,hT.output,hT.size,fun b hb hL=>hT.block b hb (by omega)⟩) (Nat.le_refl _));refine leaves_cons (f:=63) (args:=#[.pointer (some ⟨P,0,none⟩), .pointer (some ⟨Q,0,none⟩)]) (by simp) (by simp[go_sem]) ?_;refine(qQS P Q l c9 code 0 0 0 (.slice none 0 0) (.slice none 0 0) 0 W6 hP hQ (by omega) ⟨_,_,_,rfl⟩ ⟨_,_,_,rfl⟩).mono ?_;rintro e u' w9 ⟨rfl,rfl,G,O,R⟩;have⟨p0,p1,p2,_⟩:=G.a;have⟨q0,q1,q2,_⟩:=O.a;show Leaves _ _ _ _ [] FrameMode.returning w9
   refine⟨.tuple #[qZX, .agg #[.int .i64 l, .int .i64 c9, .int .i64 code]],by simp[results,results45,go_sem,qZX, *],?_⟩;exact qZZ.badI s (R w y (by omega) (by omega))
  | ok l =>
   rw[hq]at hX;obtain⟨U,bs,rfl,g8,g1,p5,g7,g0,f5,d7⟩:=hX;have f7:=hI (X.o.trans (by rw[hq,g8,<-g7];rfl:_=(qVd (U.map (fun f=>f.h))).bind fun i=>.ok ⟨gs,qXt U bs,i⟩));have Z:=hI g0;have g2:=hI f5;have d2:=hI (d9.o.trans d7);have m4:=hI g1;have t4:=d7.size;clear hq g8 g1 p5 g7 g0 f5 d7 X d8;go_wp2_with fail
   refine(start_any B Mg gs U FC Mf (.slice gq gs.length gc) Mg Mr F cl W6 Z.o).mono ?_;rintro e W7 hX;cases hm:qVd (U.map (fun f=>f.h))with
   | bad l c9 code =>
    rw[hm]at hX;obtain⟨rfl,j⟩:=hX;have hT:jW Mg W2 W7:=d2.o.trans (jW.of_below j);have hP:=d3.o.turn (hT.block P (by omega) (by omega));have hQ:=d5.o.turn (hT.block Q (by omega) (by omega));have s:=(f7.o.trans (by rw[hm];rfl):qZb (.mk k x m ln co ks)=.bad l c9 code);have y:Below w.1.size w W7:=(jW.below (L:=w.1.size) ((jW.of_below Y.o).trans ⟨hT.os,hT.tape,hT.output,hT.size,fun b hb hL=>hT.block b hb (by omega)⟩) (Nat.le_refl _));refine leaves_cons (f:=63) (args:=#[.pointer (some ⟨P,0,none⟩), .pointer (some ⟨Q,0,none⟩)]) (by simp) (by simp[go_sem]) ?_;refine(qQS P Q l c9 code 0 0 0 (.slice none 0 0) (.slice none 0 0) 0 W7 hP hQ (by omega) ⟨_,_,_,rfl⟩ ⟨_,_,_,rfl⟩).mono ?_;rintro e u' w9 ⟨rfl,rfl,G,O,R⟩;have⟨p0,p1,p2,_⟩:=G.a;have⟨q0,q1,q2,_⟩:=O.a;show Leaves _ _ _ _ [] FrameMode.returning w9
    refine⟨.tuple #[qZX, .agg #[.int .i64 l, .int .i64 c9, .int .i64 code]],by simp[results,results45,go_sem,qZX, *],?_⟩;exact qZZ.badI s (R w y (by omega) (by omega))
   | ok i =>
    rw[hm]at hX;obtain⟨rfl,w4,j,rfl⟩:=hX;obtain⟨n,rfl,hn⟩:=mainC_ok hm;rw[List.length_map]at hn;have m1:=hI (f7.o.trans (by rw[hm];rfl:_=.ok ⟨gs,qXt U bs,(n:Int)⟩));have s8:=hI j;have r8:=j.size;have r3:B < W6.1.size:=qJ Z.o.c0;have C:jW Mg W2 (w4.setCell ⟨B,2,none⟩ (.int .i64 (n:Int))):=(d2.o.trans (jW.of_below j)).set (by omega) _ _;have hP:=d3.o.turn (C.block P (by omega) (by omega));have hQ:=d5.o.turn (C.block Q (by omega) (by omega));have r1:=hI (r0.o.turn (d2.o.block P (by omega) (by omega)));have p4:=hI (p3.o.turn (d2.o.block Q (by omega) (by omega)));have s7:=hI C;obtain⟨u2,m2⟩:=Z.o.c2;have c0:(w4.setCell ⟨B,2,none⟩ (.int .i64 (n:Int))).cell? ⟨B,0,none⟩=some (.slice gq gs.length gc):=(World.cell?_setCell_other _ _ _ _ (by simp)).trans (kP j Z.o.c0);have c1:(w4.setCell ⟨B,2,none⟩ (.int .i64 (n:Int))).cell? ⟨B,1,none⟩=some (.slice (some ⟨F,0,none⟩) U.length FC):=(World.cell?_setCell_other _ _ _ _ (by simp)).trans (kP j Z.o.c1);have c2:(w4.setCell ⟨B,2,none⟩ (.int .i64 (n:Int))).cell? ⟨B,2,none⟩=some (.int .i64 (n:Int)):=World.cell?_setCell_same _ _ _ (kP j m2);have m5:∀ b,b < W6.1.size->b≠B->(w4.setCell ⟨B,2,none⟩ (.int .i64 (n:Int))).1[b]? = W6.1[b]?:=fun b hb hne=>(hS _ _ _ _ hne).trans (j.block b hb)
    have n4:=hI m5;have D4:(w4.setCell ⟨B,2,none⟩ (.int .i64 (n:Int))).1.size=w4.1.size:=by simp
    have⟨p0,p1,p2,_⟩:=hP.a;have⟨s4,t3,s6,_⟩:=hP.b;have⟨q0,q1,q2,_⟩:=hQ.a;have⟨s0,t9,r7,_⟩:=hQ.b;have y:Below w.1.size w (w4.setCell ⟨B,2,none⟩ (.int .i64 (n:Int))):=(jW.below (L:=w.1.size) ((jW.of_below Y.o).trans ⟨C.os,C.tape,C.output,C.size,fun b hb hL=>C.block b hb (by omega)⟩) (Nat.le_refl _));have n9:=hI y;have s9:¬P=Q:=by omega
    have D0:¬Q=P:=by omega
    have s2:¬P=B:=by omega
    have t6:¬B=P:=by omega
    have t2:¬Q=B:=by omega
    have t1:¬B=Q:=by omega
    clear j hm hP hQ C m5 y m2;generalize (w4.setCell ⟨B,2,none⟩ (.int .i64 (n:Int)))=W8 at *;have t0:P < W8.1.size:=qJ p0;have s3:Q < W8.1.size:=qJ q0;go_wp2
    refine leaves_cons (f:=63) (args:=#[.pointer (some ⟨P,0,none⟩), .pointer (some ⟨Q,0,none⟩)]) (by simp) (by simp[go_sem]) ?_;refine(qPm ⟨P,0,none⟩ ⟨Q,0,none⟩ _).mono ?_;rintro e u' w9 ⟨rfl,rfl,rfl⟩;refine⟨.tuple #[.agg #[.slice gq gs.length gc, .slice (some ⟨F,0,none⟩) U.length FC, .int .i64 n], .agg #[.int .i64 0, .int .i64 0, .int .i64 0]],by simp[results,results45,go_sem, *],?_⟩;refine qZZ.okI m1.o ?_ (jR (jR (jR (jR (jR (jR n9.o (by omega) _) (by omega) _) (by omega) _) (by omega) _) (by omega) _) (by omega) _);refine qZ2.of (P:=P) (Q:=Q) Z.o g2.o m4.o hn r1.o p4.o (by omega) (fun b hb h1 h2 h3=>?_);rw[hS _ _ _ _ h3,hS _ _ _ _ h3,hS _ _ _ _ h3,hS _ _ _ _ h2,hS _ _ _ _ h2,hS _ _ _ _ h2];exact n4.o b hb h1
open Go.ChangeShapes Go.WideShapes Go.ChangeAt Go.RowKit Go.Deep
theorem Tryz.own:ownKnob Tryz.prog.godebug=none:=by kernel_rfl
theorem Tryz.laidOut:laidOutB Tryz.prog=true:=by kernel_rfl
theorem gKeys:Tryz.prog.globalNamed "skua/lex.keywords"=some 6:=by kernel_rfl
theorem tKeys:(Tryz.prog.globals[6]?).map (·.type)=some 113:=by kernel_rfl
theorem gSigns:Tryz.prog.globalNamed "skua/lex.signs"=some 0:=by kernel_rfl
theorem tSigns:(Tryz.prog.globals[0]?).map (·.type)=some 113:=by kernel_rfl
theorem gTypes:Tryz.prog.globalNamed "skua/parse.types"=some 5:=by kernel_rfl
theorem tTypes:(Tryz.prog.globals[5]?).map (·.type)=some 113:=by kernel_rfl
theorem gPow:Tryz.prog.globalNamed "internal/strconv.uint64pow10"=some 7:=by kernel_rfl
theorem tPow:(Tryz.prog.globals[7]?).map (·.type)=some 194:=by kernel_rfl
theorem c47:Tryz.prog.cellsOf 47=1:=by kernel_rfl
theorem c194:Tryz.prog.cellsOf 194=20:=by kernel_rfl
theorem c9:Tryz.prog.cellsOf 9=1:=by kernel_rfl
theorem gWord:Tryz.prog.globalNamed "skua/word.types"=some 4:=by kernel_rfl
theorem tWord:(Tryz.prog.globals[4]?).map (·.type)=some 170:=by kernel_rfl
theorem gBool:Tryz.prog.globalNamed "skua/check.boolean"=some 1:=by kernel_rfl
theorem tBool:(Tryz.prog.globals[1]?).map (·.type)=some 37:=by kernel_rfl
theorem gWide:Tryz.prog.globalNamed "skua/check.wide"=some 2:=by kernel_rfl
theorem tWide:(Tryz.prog.globals[2]?).map (·.type)=some 37:=by kernel_rfl
theorem c172:Tryz.prog.cellsOf 172=3:=by kernel_rfl
theorem c37:Tryz.prog.cellsOf 37=2:=by kernel_rfl
theorem c3:Tryz.prog.cellsOf 3=1:=by kernel_rfl
theorem c4:Tryz.prog.cellsOf 4=1:=by kernel_rfl
def strD(l:List UInt8):DataW Unit:=.lit (.string l)
theorem laid_keys:(Rows.laid_skua_lex_keywords:DataW Unit)=.slice (qZ3.map strD) []:=by rfl
theorem laid_signs:(Rows.laid_skua_lex_signs:DataW Unit)=.slice (qQv.map strD) []:=by rfl
theorem laid_types:(Rows.laid_skua_parse_types:DataW Unit)=.slice (qQw.map strD) []:=by rfl
theorem laid_pow:(Rows.laid_internal_strconv_uint64pow10:DataW Unit)=Lib.tabData .u64 Lib.pow10Tab:=by rfl
theorem str_cell{enc:TypeId×Value->Unit}{W:World}{base:Nat}{sp:Nat->Bool}{held:Bool}{n:Nat}{l:List UInt8}{cs:List Value}{pl:List MemPlace}
 (h:DataW.trod enc Tryz.prog W base sp held n 9 cs=some (strD l,pl)):cs=[.string ⟨l.toArray⟩]:=by
 obtain⟨s,e1,e2,_⟩:=DataW.trod_string Tryz.underlying9 h;simp[strD]at e2;rw[e1,e2.1]
theorem strtab_of{W:World}{g n:Nat}{nm:String}{L:List (List UInt8)}{cs:Array Value}{fu:Nat}{p:List MemPlace}(hn:L.length=n)(hpos:0 < n)(hg:Tryz.prog.globalNamed nm=some g)(hv:W.var? Tryz.prog nm=some cs)
 (hd:DataW.trod (fun _=>()) Tryz.prog W 0 (fun _=>true) false fu 113 cs.toList=some (.slice (L.map strD) [],p)):∃ b off cap,qZ0 g n L b off cap W:=by
 rcases open_slice1 Tryz.underlying113 c9 hd with⟨_,hx⟩ | ⟨a,len,cap,m,k,V,D,Pl,hcs,_,hl,hm,hmm,hx,hi⟩
 ·simp at hx
 ·simp only[Prod.mk.injEq,DataW.slice.injEq]at hx;have hlen:len=n:=by
   have:=congrArg List.length hx.1.1;rw[List.length_map,List.length_map,List.length_range]at this;omega
  subst hlen;have hD:∀ i,i < len->D i=strD (L.getD i []):=by
   intro i hi9;have:=congrArg (fun l=>l[i]?) hx.1.1;have hL:i < L.length:=by omega
   simp[hi9,hL]at this;rw[List.getD_eq_getElem?_getD,List.getElem?_eq_getElem hL];exact this.symm
  have hm9:len<=m:=by rw[hmm];simpa using hl
  have hrow:∀ i,i < len->W.cell? (a.add i)=some (.string ⟨(L.getD i []).toArray⟩):=by
   intro i hi9;obtain⟨hc,ht'⟩:=hi i (by omega);rw[hD i hi9]at ht';have:=str_cell ht';rw[List.cons.injEq]at this;rw[hc,this.1]
  obtain⟨b,off,spot⟩:=a;have h00:=hrow 0 (by omega);have hspot:spot=none:=by
   cases spot with
   | none=>rfl
   | some k =>
    simp[Addr.add,World.cell?]at h00;split at h00 <;> simp at h00
  subst hspot;have hadd:∀ i,((⟨b,off,none⟩:Addr).add i)=⟨b,off+i,none⟩:=by
   intro i;unfold Addr.add;by_cases h1:i=0 <;> simp[h1]
  refine⟨b,off,cap,?_,fun i hi9=>?_⟩
  ·have:=World.var?_cell hg hv 0;rw[Array.eq_one_of_toList hcs]at this;simpa using this
  ·rw[<-hadd];exact hrow i hi9
def rowD(i:Nat):DataW Unit:=.agg [.lit (.string (tN i).data.toList), .agg [.lit (.int .i64 (tW i)), .lit (.bool (tS i))]]
theorem laid_rows:(Rows.laid_skua_word_types:DataW Unit)=.slice ((List.range 9).map rowD) []:=by rfl
theorem row_cells{enc:TypeId×Value->Unit}{W:World}{base:Nat}{sp:Nat->Bool}{held:Bool}{n i:Nat}{cs:List Value}{pl:List MemPlace}
 (h:DataW.trod enc Tryz.prog W base sp held n 172 cs=some (rowD i,pl)):cs=[.string (tN i), .int .i64 (tW i), .bool (tS i)]:=by
 obtain⟨xs,m,_,hx,hlen,hxl,hf⟩:=DataW.trod_struct Tryz.underlying172 h;rw[c172]at hlen;simp only[Prod.mk.injEq]at hx;have f0:DataW.trod enc Tryz.prog W base sp held m 9 ((cs.drop 0).take (Tryz.prog.cellsOf 9))=xs[0]?:=hf 0 _ rfl;have f1:DataW.trod enc Tryz.prog W base sp held m 37 ((cs.drop 1).take (Tryz.prog.cellsOf 37))=xs[1]?:=hf 1 _ rfl;rw[c9]at f0;rw[c37]at f1;match cs,hlen with
 | [x,y,z],_ =>
  match xs,hxl with
  | [u0,u1],_ =>
   simp only[List.drop_zero,List.drop_succ_cons,List.take_succ_cons,List.take_zero,List.getElem?_cons_zero,List.getElem?_cons_succ,List.take_nil]at f0 f1;obtain⟨s,e1,e2,_⟩:=DataW.trod_string Tryz.underlying9 f0;obtain⟨ys,m',_,hy,hl2,hyl,hg⟩:=DataW.trod_struct Tryz.underlying37 f1;have g0:DataW.trod enc Tryz.prog W base sp held m' 3 (([y,z].drop 0).take (Tryz.prog.cellsOf 3))=ys[0]?:=hg 0 _ rfl;have g1:DataW.trod enc Tryz.prog W base sp held m' 4 (([y,z].drop 1).take (Tryz.prog.cellsOf 4))=ys[1]?:=hg 1 _ rfl;rw[c3]at g0;rw[c4]at g1;match ys,hyl with
   | [w0,w1],_ =>
    simp only[List.drop_zero,List.drop_succ_cons,List.take_succ_cons,List.take_zero,List.getElem?_cons_zero,List.getElem?_cons_succ,List.take_nil]at g0 g1;obtain⟨k,e3,e4,_⟩:=DataW.trod_int Tryz.underlying3 g0;obtain⟨b,e5,e6⟩:=DataW.trod_bool Tryz.underlying4 g1;have hd:=hx.1;subst e2 e4 e6 hy;simp[rowD]at hd;obtain⟨hs,hk,hb⟩:=hd;simp at e1 e3 e5;subst e1 e3 e5 hk hb;have:tN i=s:=by
     cases hT:tN i with
     | mk d1 =>
      cases s with
      | mk d2 =>
       rw[hT]at hs;simp at hs;rw[hs]
    rw[this]
theorem wtab_of{W:World}{cs:Array Value}{fu:Nat}{p:List MemPlace}(hg:Tryz.prog.globalNamed "skua/word.types"=some 4)(hv:W.var? Tryz.prog "skua/word.types"=some cs)
 (hd:DataW.trod (fun _=>()) Tryz.prog W 0 (fun _=>true) false fu 170 cs.toList=some (Rows.laid_skua_word_types,p)):qKi W:=by
 rw[laid_rows]at hd;rcases open_slice Tryz.underlying170 hd with⟨_,hx⟩ | ⟨a,len,cap,m,n,D,Pl,hcs,_,hl,hm,hmm,hx,hi⟩
 ·simp at hx
 ·simp only[Prod.mk.injEq,DataW.slice.injEq]at hx;have hlen:len=9:=by
   have:=congrArg List.length hx.1.1;simpa using this.symm
  subst hlen;have hD:∀ i,i < 9->D i=rowD i:=by
   intro i hi9;have:=congrArg (fun l=>l[i]?) hx.1.1;simp[hi9]at this;exact this.symm
  have hm9:9<=m:=by rw[hmm];simpa using hl
  have hrow:∀ i,i < 9->∀ j,j < 3->W.cell? ((a.add (i * 3)).add j)=[Value.string (tN i), .int .i64 (tW i), .bool (tS i)][j]?:=by
   intro i hi9 j hj;obtain⟨cs',hc,ht'⟩:=hi i (by omega);rw[c172]at hc;rw[hD i hi9]at ht';obtain⟨_,_,hat⟩:=World.cells?_some hc;rw[hat j hj,row_cells ht']
  obtain⟨b,off,spot⟩:=a;have h00:=hrow 0 (by omega) 0 (by omega);have hspot:spot=none:=by
   cases spot with
   | none=>rfl
   | some k =>
    simp[Addr.add,World.cell?]at h00;split at h00 <;> simp at h00
  subst hspot;have hadd:∀ i j,((⟨b,off,none⟩:Addr).add (i * 3)).add j=⟨b,off+i * 3+j,none⟩:=by
   intro i j;unfold Addr.add;by_cases h1:i * 3=0 <;> by_cases h2:j=0 <;> simp[h1,h2]
  refine⟨b,off,cap,?_,fun i hi9=>?_,fun i hi9=>?_,fun i hi9=>?_⟩
  ·have:=World.var?_cell hg hv 0;rw[Array.eq_one_of_toList hcs]at this;simpa using this
  ·have:=hrow i hi9 0 (by omega);rw[hadd]at this;simpa using this
  ·have:=hrow i hi9 1 (by omega);rw[hadd]at this;simpa using this
  ·have:=hrow i hi9 2 (by omega);rw[hadd]at this;simpa using this
theorem type_cells{enc:TypeId×Value->Unit}{W:World}{base:Nat}{sp:Nat->Bool}{held:Bool}{n:Nat}{cs:List Value}{pl:List MemPlace}{k:Int}{b:Bool}
 (h:DataW.trod enc Tryz.prog W base sp held n 37 cs=some (.agg [.lit (.int .i64 k), .lit (.bool b)],pl)):cs=[.int .i64 k, .bool b]:=by
 obtain⟨ys,m',_,hy,hl2,hyl,hg⟩:=DataW.trod_struct Tryz.underlying37 h;rw[c37]at hl2;match cs,hl2 with
 | [y,z],_ =>
  have g0:DataW.trod enc Tryz.prog W base sp held m' 3 (([y,z].drop 0).take (Tryz.prog.cellsOf 3))=ys[0]?:=hg 0 _ rfl;have g1:DataW.trod enc Tryz.prog W base sp held m' 4 (([y,z].drop 1).take (Tryz.prog.cellsOf 4))=ys[1]?:=hg 1 _ rfl;rw[c3]at g0;rw[c4]at g1;match ys,hyl with
  | [w0,w1],_ =>
   simp only[List.drop_zero,List.drop_succ_cons,List.take_succ_cons,List.take_zero,List.getElem?_cons_zero,List.getElem?_cons_succ,List.take_nil]at g0 g1;obtain⟨k',e3,e4,_⟩:=DataW.trod_int Tryz.underlying3 g0;obtain⟨b',e5,e6⟩:=DataW.trod_bool Tryz.underlying4 g1;subst e4 e6;simp at hy;obtain⟨⟨hk,hb⟩,_⟩:=hy;simp at e3 e5;subst e3 e5 hk hb;rfl
theorem type_of{W:World}{g:Nat}{nm:String}{cs:Array Value}{fu:Nat}{p:List MemPlace}{k:Int}{b:Bool}(hg:Tryz.prog.globalNamed nm=some g)(hv:W.var? Tryz.prog nm=some cs)
 (hd:DataW.trod (fun _=>()) Tryz.prog W 0 (fun _=>true) false fu 37 cs.toList=some (.agg [.lit (.int .i64 k), .lit (.bool b)],p)):W.cell? ⟨g,0,none⟩=some (.int .i64 k)/\W.cell? ⟨g,1,none⟩=some (.bool b):=by
 have hc:=type_cells hd;have e:cs=#[.int .i64 k, .bool b]:=by rw[<-Array.toArray_toList (xs:=cs),hc]
 have h0:=World.var?_cell hg hv 0;have h1:=World.var?_cell hg hv 1;rw[e]at h0 h1;exact⟨h0,h1⟩
theorem tab_of_laid{W:World}(h:laidMetH Tryz.prog [("math/bits.deBruijn32tab",Rows.laid_math_bits_deBruijn32tab),("math/bits.deBruijn64tab",Rows.laid_math_bits_deBruijn64tab),("internal/strconv.uint64pow10",Rows.laid_internal_strconv_uint64pow10),("skua/word.types",Rows.laid_skua_word_types),("skua/lex.signs",Rows.laid_skua_lex_signs),("skua/lex.keywords",Rows.laid_skua_lex_keywords),("skua/parse.types",Rows.laid_skua_parse_types),("skua/check.boolean",Rows.laid_skua_check_boolean),("skua/check.wide",Rows.laid_skua_check_wide)] W):qWB W/\qYA W:=by
 rw[MakeChecks.laidMetH_plain _ _ _ (by kernel_rfl)]at h;obtain⟨ps,⟨g1,t1,cs1,fu1,p1,q1,hg1,ht1,hv1,hd1,⟨g2,t2,cs2,fu2,p2,q2,hg2,ht2,hv2,hd2,⟨g3,t3,cs3,fu3,p3,q3,hg3,ht3,hv3,hd3,⟨g7,t7,cs7,fu7,p7,q7,hg7,ht7,hv7,hd7,⟨g4,t4,cs4,fu4,p4,q4,hg4,ht4,hv4,hd4,⟨g5,t5,cs5,fu5,p5,q5,hg5,ht5,hv5,hd5,⟨g6,t6,cs6,fu6,p6,q6,hg6,ht6,hv6,hd6,⟨g8,t8,cs8,fu8,p8,q8,hg8,ht8,hv8,hd8,⟨g9,t9,cs9,fu9,p9,q9,hg9,ht9,hv9,hd9,_,_⟩,_⟩,_⟩,_⟩,_⟩,_⟩,_⟩,_⟩,_⟩,_,_⟩:=h;obtain rfl:=Option.some.inj (gPow.symm.trans hg3);obtain rfl:=Option.some.inj (tPow.symm.trans ht3);obtain rfl:=Option.some.inj (gSigns.symm.trans hg4);obtain rfl:=Option.some.inj (tSigns.symm.trans ht4);obtain rfl:=Option.some.inj (gKeys.symm.trans hg5);obtain rfl:=Option.some.inj (tKeys.symm.trans ht5);obtain rfl:=Option.some.inj (gTypes.symm.trans hg6);obtain rfl:=Option.some.inj (tTypes.symm.trans ht6);obtain rfl:=Option.some.inj (gWord.symm.trans hg7);obtain rfl:=Option.some.inj (tWord.symm.trans ht7);obtain rfl:=Option.some.inj (gBool.symm.trans hg8);obtain rfl:=Option.some.inj (tBool.symm.trans ht8);obtain rfl:=Option.some.inj (gWide.symm.trans hg9);obtain rfl:=Option.some.inj (tWide.symm.trans ht9);have hw:=wtab_of gWord hv7 hd7;obtain⟨bb0,bb1⟩:=type_of gBool hv8 hd8;obtain⟨dd0,dd1⟩:=type_of gWide hv9 hd9;rw[laid_pow]at hd3;rw[laid_signs]at hd4;rw[laid_keys]at hd5;rw[laid_types]at hd6;have hp:Pow W:=by
  unfold Pow Lib.TabIs;rw[hv3,<-Lib.cells_of_tab Tryz.underlying194 Tryz.underlying47 c47 c194 hd3]
 obtain⟨b1,o1,k1,h1⟩:=strtab_of (g:=6) (n:=19) rfl (by decide) hg5 hv5 hd5;obtain⟨b2,o2,k2,h2⟩:=strtab_of (g:=5) (n:=9) rfl (by decide) hg6 hv6 hd6;have h3:=strtab_of (g:=0) (n:=29) rfl (by decide) hg4 hv4 hd4;have hlt:=hp.lt;refine⟨?_,bb0,bb1,dd0,dd1,hw⟩;exact⟨⟨⟨by omega,Nat.le_refl _,⟨b1,o1,k1,h1,qJ (h1.tn 0 (by decide))⟩,⟨b2,o2,k2,h2,qJ (h2.tn 0 (by decide))⟩⟩,h3⟩,hp⟩
theorem door_met(os:Os)(args:Array Value):laidMetH Tryz.prog [("math/bits.deBruijn32tab",Rows.laid_math_bits_deBruijn32tab),("math/bits.deBruijn64tab",Rows.laid_math_bits_deBruijn64tab),("internal/strconv.uint64pow10",Rows.laid_internal_strconv_uint64pow10),("skua/word.types",Rows.laid_skua_word_types),("skua/lex.signs",Rows.laid_skua_lex_signs),("skua/lex.keywords",Rows.laid_skua_lex_keywords),("skua/parse.types",Rows.laid_skua_parse_types),("skua/check.boolean",Rows.laid_skua_check_boolean),("skua/check.wide",Rows.laid_skua_check_wide)] ((World.doorLaid Tryz.prog 400 os).forCall (fun _ _=>0) ⟨#[],args,[]⟩).memory :=
 laidMetH_of_parts3 (fuel:=8) (laidMet_of_run' 8 (by kernel_rfl) (by kernel_rfl)) (by kernel_rfl) (by kernel_rfl)
theorem trodAll_carry{H:Type}{enc:TypeId×Value->H}{W W':World}(hb:Below W.1.size W W') :
 ∀ (ts:List TypeId) (vs:List Value) (ds:List (DataW H)) (ps:List MemPlace),(∀ t∈ts,Tryz.prog.readableRec t=true/\t < Tryz.prog.types.size)->(∀ x∈ps,x.block < W.1.size) ->
  DataW.TrodAll enc Tryz.prog W 0 (fun _=>true) true ts vs ds ps->DataW.TrodAll enc Tryz.prog W' 0 (fun b=>decide (b < W.1.size)) true ts vs ds ps
 | [],[],[],_,_,_,h=>h
 | t :: ts,v :: vs,d :: ds,ps,ht,hp,h=>by
  obtain⟨p,q,h1,h2,rfl⟩:=h;exact⟨p,q,Below.trod Tryz.laidOut (ht t (by simp)).1 (ht t (by simp)).2 h1 hb (fun x hx=>hp x (by simp[hx])),trodAll_carry hb ts vs ds q (fun u hu=>ht u (by simp[hu])) (fun x hx=>hp x (by simp[hx])) h2,rfl⟩
theorem law_post{H:Type}{enc:TypeId×Value->H}{f:Func}{s:ChangeSpec}{W W':World}{args:Array Value}{ds:List (DataW H)}{before:List MemPlace}
 (hts:∀ t∈f.params.toList,Tryz.prog.readableRec t=true/\t < Tryz.prog.types.size) (hres:f.resultTypes=#[4]) (hvars:s.vars=[])
 (hfn:s.fn H (ds++[])={ results:=[.lit (.bool true)],args:=ds }) (hW:DataW.Whole enc Tryz.prog f.params.toList s.vars false W args.toList ds [] before) (hb:Below W.1.size W W') :
 s.post enc Tryz.prog f false true false false W args (.bool true) W':=by
 have hlt:∀ p∈before,p.block < W.1.size:=fun p hp=>hW.lt p hp
 have hW0:=hW;obtain⟨p,q,hA,hV,rfl,_,_⟩:=hW;rw[hvars]at hV;obtain rfl:q=[]:=hV;refine⟨ds,[],p++[],[],p,[],hW0,?_,?_,?_,hb.frame _,fun h=>by cases h⟩
 ·rw[hfn,hres];exact trodAll_mk1 (shut_bool Tryz.underlying4 true)
 ·rw[hfn];exact trodAll_carry hb _ _ _ _ hts (fun x hx=>hlt x (by simp[hx])) hA
 ·rw[hfn,hvars];rfl
section
variable {H:Type} {enc:TypeId×Value->H} {W:World} {b:Nat} {v:Value} {d:DataW H} {p:List MemPlace}
theorem as_str(hv:Value.okWide Tryz.prog W .any b 9 v)(h:DataW.Trod enc Tryz.prog W 0 (fun _=>true) true 9 v d p):∃ s:ByteArray,v=.string s/\s.size<=maxLen:=by
 obtain⟨s,rfl,_,_,hs⟩:=ChangeMaps.open_string Tryz.underlying9 hv h;exact⟨s,rfl,hs⟩
end
end Go.Proofs.YtiajhekdhhhghaaGreatDoor
