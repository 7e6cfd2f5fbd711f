/- Walks. -/
import Derived.Laws.EntriesVeiled
import Derived.Test.YtiajhekdhhhghaaGreatDoorMap
set_option linter.all false
set_option maxHeartbeats 8000000
set_option maxRecDepth 100000
namespace Go.Proofs.YtiajhekdhhhghaaGreatDoor
open Tryz Go.Proofs.Tryz
open Go Go.RowKit
structure qZj(N:Nat)(x:List UInt8)(T:Ty)(n:Int)(vv bv:Value)(w:World):Prop where
 c0:w.cell? ⟨N,0,none⟩=some (.string ⟨x.toArray⟩)
 c1:w.cell? ⟨N,1,none⟩=some (.int .i64 T.1)
 c2:w.cell? ⟨N,2,none⟩=some (.bool T.2)
 c3:w.cell? ⟨N,3,none⟩=some (.int .i64 n)
 c4:w.cell? ⟨N,4,none⟩=some vv
 c5:w.cell? ⟨N,5,none⟩=some bv
 f:∀ k,k < 6->w.frozen? ⟨N,k,none⟩=false
theorem qZj.a{N:Nat}{x:List UInt8}{T:Ty}{n:Int}{vv bv:Value}{w:World}(h:qZj N x T n vv bv w):w.cell? ⟨N,0,none⟩=some (.string ⟨x.toArray⟩)/\w.cell? ⟨N,1,none⟩=some (.int .i64 T.1)/\w.cell? ⟨N,2,none⟩=some (.bool T.2)/\w.cell? ⟨N,3,none⟩=some (.int .i64 n)/\w.cell? ⟨N,4,none⟩=some vv/\w.cell? ⟨N,5,none⟩=some bv/\True:=⟨h.c0,h.c1,h.c2,h.c3,h.c4,h.c5,trivial⟩
theorem qZj.b{N:Nat}{x:List UInt8}{T:Ty}{n:Int}{vv bv:Value}{w:World}(h:qZj N x T n vv bv w):w.frozen? ⟨N,0,none⟩=false/\w.frozen? ⟨N,1,none⟩=false/\w.frozen? ⟨N,2,none⟩=false/\w.frozen? ⟨N,3,none⟩=false/\w.frozen? ⟨N,4,none⟩=false/\w.frozen? ⟨N,5,none⟩=false/\True:=⟨h.f 0 (by decide),h.f 1 (by decide),h.f 2 (by decide),h.f 3 (by decide),h.f 4 (by decide),h.f 5 (by decide),trivial⟩
theorem qZj.lt{N:Nat}{x:List UInt8}{T:Ty}{n:Int}{vv bv:Value}{w:World}(h:qZj N x T n vv bv w):N < w.1.size:=qJ h.c0
theorem qZj.turn{N:Nat}{x:List UInt8}{T:Ty}{n:Int}{vv bv:Value}{w w':World}(h:qZj N x T n vv bv w)(hb:w'.1[N]? = w.1[N]?):qZj N x T n vv bv w' :=
 have e:=fun {o:Nat} {u:Value} (e:w.cell? ⟨N,o,none⟩=some u)=>(cB (w:=w) (w':=w') (a:=⟨N,o,none⟩) hb).trans e
 ⟨e h.c0,e h.c1,e h.c2,e h.c3,e h.c4,e h.c5,fun j hj=>(World.frozen?_of_block hb).trans (h.f j hj)⟩
theorem qZj.below{N:Nat}{x:List UInt8}{T:Ty}{n:Int}{vv bv:Value}{w w':World}(h:qZj N x T n vv bv w)(hb:Below w.1.size w w'):qZj N x T n vv bv w':=h.turn (hb.block _ h.lt)
theorem qZj.new(w:World):qZj w.1.size [] (0,false) 0 (.slice none 0 0) (.slice none 0 0) (w.alloc (.cells #[.string ⟨#[]⟩, .int .i64 0, .bool false, .int .i64 0, .slice none 0 0, .slice none 0 0] 40)):=by
 constructor
 case f=>intro k hk;match k,hk with | 0,_=>simp[go_sem] | 1,_=>simp[go_sem] | 2,_=>simp[go_sem] | 3,_=>simp[go_sem] | 4,_=>simp[go_sem] | 5,_=>simp[go_sem]
 all_goals simp[go_sem]
theorem qZj.six{N:Nat}{x:List UInt8}{T:Ty}{n:Int}{vv bv:Value}{w:World}(h:qZj N x T n vv bv w)(x':List UInt8)(T':Ty)(n':Int)(vv' bv':Value) :
 qZj N x' T' n' vv' bv' ((((((w.setCell ⟨N,0,none⟩ (.string ⟨x'.toArray⟩)).setCell ⟨N,1,none⟩ (.int .i64 T'.1)).setCell ⟨N,2,none⟩ (.bool T'.2)).setCell ⟨N,3,none⟩ (.int .i64 n')).setCell ⟨N,4,none⟩ vv').setCell ⟨N,5,none⟩ bv'):=by
 have⟨h0,h1,h2,h3,h4,h5,_⟩:=h.a;have hf:=h.f;constructor
 case f=>intro j hj;have:=hf j hj;simp[go_sem, *]
 all_goals simp[go_sem, *]
theorem qZj.setV{N:Nat}{x:List UInt8}{T:Ty}{n:Int}{vv bv:Value}{w:World}(h:qZj N x T n vv bv w)(vv':Value):qZj N x T n vv' bv (w.setCell ⟨N,4,none⟩ vv'):=by
 have⟨h0,h1,h2,h3,h4,h5,_⟩:=h.a;have hf:=h.f;constructor
 case f=>intro j hj;have:=hf j hj;simp[go_sem, *]
 all_goals simp[go_sem, *]
theorem qPW{ps:List qQ}{k:Nat}{acc:List qI}(h:k < ps.length):yH (ps.drop k) acc=(jQ (decide (acc.length < 64)) ps[k] 45).bind fun _=>(jQ (qQj ps[k].text 0 acc).isNone ps[k] 40).bind fun _=>yH (ps.drop (k+1)) (acc++[qZr ps[k]]):=by
 rw[List.drop_eq_getElem_cons h,yH]
theorem qYB.snoc{l:List qI}{d:qI}(h:qYB l)(hn:qZc d.name 0 (l.map (·.name))=none)(hd:d.name.length<=1000000):qYB (l++[d]):=by
 intro k hk;rw[lL]at hk;simp only[lO,lZ]at hk;by_cases hl:k < l.length
 ·rw[List.getElem_append_left hl,List.take_append_of_le_length (by omega)];exact h k hl
 ·have e:k=l.length:=by omega
  subst e;rw[List.getElem_append_right (Nat.le_refl _),List.take_append_of_le_length (by omega),List.take_of_length_le (Nat.le_refl _)];simpa using⟨hn,hd⟩
structure FIn(Nf Mn:Nat)(t:qQ)(v:Value)(x:List UInt8)(T:Ty)(ps:List qQ)(k:Nat)(acc:List qI)(vv:Value)(nms:List (List UInt8))(w wr:World):Prop where
 hb:Below w.1.size w wr
 nd:Bx w.1.size t v wr
 fb:qZj Nf x T ps.length vv (.slice none 0 0) wr
 nm:wY wr Mn nms
 vr:qQI wr (Mn+1) acc vv
 di:qYB acc
 hp:yH ps []=yH (ps.drop k) acc
 hl:acc.length=k
 lo:w.1.size < Nf/\Nf < Mn
 k64:k<=64
section
variable {Nf Mn:Nat} {t:qQ} {v:Value} {x:List UInt8} {T:Ty} {ps:List qQ} {k:Nat} {acc:List qI} {vv:Value} {nms:List (List UInt8)} {w wr wr':World}
theorem FIn.below(h:FIn Nf Mn t v x T ps k acc vv nms w wr)(hb:Below wr.1.size wr wr'):FIn Nf Mn t v x T ps k acc vv nms w wr' :=
 ⟨h.hb.trans (hb.mono h.hb.size),h.nd.below hb,h.fb.below hb,h.nm.below hb,zU h.vr (fun g hg=>hb.block g (h.vr.lt g hg).2),h.di,h.hp,h.hl,h.lo,h.k64⟩
theorem FIn.store(h:FIn Nf Mn t v x T ps k acc vv nms w wr){nms':List (List UInt8)}(hg:wr.grownBy wr' (some Mn))(hm:wY wr' Mn nms'):FIn Nf Mn t v x T ps k acc vv nms' w wr' :=
 have hlo:=h.lo;have st:∀ b,b < wr.1.size->b≠Mn->wr'.1[b]? = wr.1[b]?:=fun b hb hne=>hg.block b hb (fun e=>hne (by injection e))
 have s1:=h.hb.size
 ⟨⟨hg.os.trans h.hb.os,hg.tape.trans h.hb.tape,hg.output.trans h.hb.output,Nat.le_trans s1 hg.size,fun b hb=>(st b (by omega) (by omega)).trans (h.hb.block b hb)⟩,(st _ h.nd.lt (by omega)).trans h.nd,h.fb.turn (st _ h.fb.lt (by omega)),hm,zU h.vr (fun g hg'=>st g (h.vr.lt g hg').2 (by have:=(h.vr.lt g hg').1;omega)),h.di,h.hp,h.hl,h.lo,h.k64⟩
theorem FIn.more(h:FIn Nf Mn t v x T ps k acc vv nms w wr){d:qI}{vv':Value}(hs:wr.1.size<=wr'.1.size)(ho:wr'.os=wr.os)(ht:wr'.tape=wr.tape)(hu:wr'.output=wr.output)
 (st:∀ b,b < wr.1.size->some b≠vv.ownBlock->wr'.1[b]? = wr.1[b]?) (hrow:wr'.ownsRow (Mn+1) 42 4 vv' (k+1) (xD qQe acc++qQe d))
 (hn:nms=(acc++[d]).map (·.name)) (hd:qYB (acc++[d])) (hp:yH ps []=yH (ps.drop (k+1)) (acc++[d])) (h64:k < 64) :
 FIn Nf Mn t v x T ps (k+1) (acc++[d]) vv' ((acc++[d]).map (·.name)) w (wr'.setCell ⟨Nf,4,none⟩ vv'):=by
 have hlo:=h.lo;have hl:=h.hl;have s1:=h.hb.size;have s2:∀ b,b < wr.1.size->b<=Mn->wr'.1[b]? = wr.1[b]?:=fun b hb hle=>st b hb (fun e=>by have:=(h.vr.lt b e.symm).1;omega)
 have s3:∀ b,b≠Nf->(wr'.setCell ⟨Nf,4,none⟩ vv').1[b]? = wr'.1[b]?:=fun b hb=>hS _ _ _ _ hb
 have hnm:=h.nm;have hnl:=h.nm.lt;subst hn;refine⟨⟨ho.trans h.hb.os,ht.trans h.hb.tape,hu.trans h.hb.output,by simp;omega,fun b hb=>(s3 b (by omega)).trans ((s2 b (by omega) (by omega)).trans (h.hb.block b hb))⟩,(s3 _ (by omega)).trans ((s2 _ h.nd.lt (by omega)).trans h.nd),(h.fb.turn (s2 _ h.fb.lt (by omega))).setV vv',hnm.kept ((s3 _ (by omega)).trans (s2 _ hnl (by omega))),?_,hd,hp,by simp[hl],h.lo,by omega⟩;unfold qQI;rw[lL,qZt,hl];simp only[lO,lZ,xD,lA];exact zU hrow (fun g hg=>s3 g (by have:=(hrow.lt g hg).1;omega))
end
def FcRel(Nf Mn:Nat)(t:qQ)(v:Value)(x:List UInt8)(T:Ty)(ps:List qQ)(w:World)(i:Value)(wr:World):Prop :=
 ∃ (k:Nat) (acc:List qI) (vv:Value),k<=ps.length/\i=.int .i64 k/\FIn Nf Mn t v x T ps k acc vv (acc.map (·.name)) w wr
theorem info40:(prog.info? 40).map (fun i=>(i.zero,i.size,i.bytes))=some (some (.agg #[.string ⟨#[]⟩, .int .i64 0, .bool false, .int .i64 0, .slice none 0 0, .slice none 0 0]),6,88):=by kernel_rfl
theorem fnC_one(f:FnM)(h1:f.vv.oneCell'=true)(h2:f.bv.oneCell'=true):∀ u∈fnC f,u.oneCell'=true:=by
 intro u hu;simp[fnC]at hu;rcases hu with rfl | rfl | rfl | rfl | rfl | rfl;all_goals first | rfl | assumption
theorem qUM(S:HdS)(t u z:qQ)(ps:List qQ)(h:t.kids=u :: (ps++[z])):wF S t=(jQ (decide (S.fs.length < 16)) t 45).bind fun _=>(yF S t).bind fun _=>(yH ps []).bind fun l=>.ok ⟨S.gs,S.fs++[⟨t.text,tyL u.text,l⟩]⟩:=by
 unfold wF;rw[h];have e:((u :: (ps++[z])).dropLast.drop 1)=ps:=by
  rw[show u :: (ps++[z])=(u :: ps)++[z]from rfl,List.dropLast_concat];rfl
 rw[e];rfl
theorem qWA.mid{B:Nat}{w:World}{u z:qQ}{ps:List qQ}{g off:Nat}(h:qWA B w (u :: (ps++[z])) g off):qWA B w ps g (off+6):=by
 refine⟨h.1,fun i hi=>?_⟩;obtain⟨q,n,c,h1,h2⟩:=h.2 (i+1) (by simp;omega);have e:(u :: (ps++[z]))[i+1]'(by simp;omega)=ps[i]:=by
  rw[List.getElem_cons_succ,List.getElem_append_left hi]
 rw[e]at h1 h2;exact⟨q,n,c,h1,by rw[show off+6+i * 6=off+(i+1) * 6 by omega];exact h2⟩
def FMade(x:List UInt8)(T:Ty)(n:Nat)(W:World)(N:Nat)(w':World):Prop:=Below W.1.size W w'/\qZj N x T n (.slice none 0 0) (.slice none 0 0) w'/\W.1.size<=N
theorem qUN(B L:Nat)(gs:List qI)(fs:List FnM)(gv fv:Value)(Mg Mf Mr:Nat)(cl:vE)(t u z:qQ)(ps:List qQ)(v:Value)(w:World)(h:HIn B L gs fs gv fv Mg Mf Mr cl (yV gs) w)
 (hL:L<=w.1.size) (hks:t.kids=u :: (ps++[z])) (hl:xZ w (· < L) t v) (hx:t.text.length<=1000000) (hkl:t.kids.length<=1000000) (hps:∀ a∈ps,a.text.length<=1000000/\a.kids≠[]) :
 Calls prog 85 #[.pointer (some ⟨B,0,none⟩),qZ t v] w (wP B L Mg Mf Mr cl (wF ⟨gs,fs.map (fun f=>f.h)⟩ t) w):=by
 obtain⟨q,c,rfl,hc1,hc2,hK⟩:=hl.kids;have HBL:=hI (bal (Below.refl w.1.size w) (qB t (.slice q t.kids.length c)));have HN:=hI (Bx.new t (.slice q t.kids.length c) w);have HW:=hI (h.below HBL.o);have hsz:(w.alloc (qB t (.slice q t.kids.length c))).1.size=w.1.size+1:=by simp
 have HPB:=hI (qUM ⟨gs,fs.map (fun f=>f.h)⟩ t u z ps hks);have HNA:=hI (fun b cd w'=>qQk b t (.slice q t.kids.length c) cd w');have HUN:=hI (fun w' (h':HIn B L gs fs gv fv Mg Mf Mr cl (yV gs) w')=>qWf B L gs fs gv fv Mg Mf Mr cl (yV gs) t (.slice q t.kids.length c) w' h' hx ⟨_,_,rfl⟩);have HX:=hI hx;have H0:=hI h;have HPS:=hI hps;obtain⟨g2,off2,rfl,hR2⟩:=hK.resolve_left (by rw[hks];simp);have hlen:t.kids.length=ps.length+1+1:=by rw[hks];simp
 rw[hks]at hR2;have HRP:=hI hR2.mid;obtain⟨uq,un,ucp,hul,huc⟩:=hR2.2 0 (by simp);simp only[List.getElem_cons_zero,Nat.zero_mul,Nat.add_zero]at hul huc;have hg2:=hR2.1;have hBw:B < w.1.size:=qJ h.c0;have HTY:=hI (fun w' (hb:Below w.1.size w w')=>qKd u (.slice uq un ucp) w' (h.wtab.below hb));have huc:=huc.move (HBL.o.block g2 (by omega));have hc1:=Nat.le_trans (Nat.le_of_eq hlen.symm) hc1;obtain⟨pn,hpn⟩:∃ n,ps.length=n:=⟨_,rfl⟩;have hpb:pn < 1000000:=by omega
 have HLN:=hI hpn;rw[hpn]at hlen hc1;generalize hU:tyL u.text=U at *;obtain⟨U0,U1⟩:=U;clear h hl hK hks hR2 hx hps hul hU hkl hpn;obtain⟨k,x,m,ln,co,ks⟩:=t;obtain⟨uk,ux,um,ul,uc,uks⟩:=u;obtain⟨fq,fc,hfv⟩:∃ q c,fv=.slice q fs.length c:=by
  rcases H0.o.frow.2 with⟨h1,h0⟩ | ⟨g,cap,cur,h1,_⟩
  ·exact⟨none,0,by rw[h0];exact h1⟩
  ·exact⟨_,_,h1⟩
 obtain⟨fl,hfl⟩:∃ fl:Nat,fl=fs.length:=⟨_,rfl⟩;have hfl16:=H0.o.fl;have HFV:=hI (show fv=.slice fq fl fc by rw[hfv,hfl]);have HFL:=hI hfl;rw[<-hfl]at hfl16;clear hfl;simp only[qZ,qB,qS,tyV,tQ]at *;rw[hlen]at HBL HN HW hsz HNA HUN huc;rw[hlen];clear hlen;have hci:(pn:Int)+1+1<=(c:Nat):=by omega
 go_enter func85,ntmps85
 go_wp2
 generalize (w.alloc _)=W at *;have hWs:w.1.size<=W.1.size:=by omega
 obtain⟨n0,n1,n2,n3,n4,n5⟩:=HN.o.cells;try simp only[tQ]at n0 n1 n2 n3 n4 n5
 have c1:=HW.o.c1;rw[HFV.o]at c1;clear hfv;refine wRg (S:=fun w'=>Below W.1.size W w') 8 ?_;refine wTk 0 11 (.pointer (some ⟨B,0,none⟩)) ?_ (bD W) ?_
 ·intro _ y;go_simp
 refine wTk 1 12 (.pointer (some ⟨B,0,none⟩)) ?_ (bD W) ?_
 ·intro _ y;go_simp
 refine wTk 2 13 (.pointer (some ⟨B,0,none⟩)) ?_ (bD W) ?_
 ·intro _ y;go_simp
 refine wTk 3 14 (.pointer (some ⟨B,1,none⟩)) ?_ (bD W) ?_
 ·intro _ y;go_simp
 refine wTk 4 15 (.slice fq fl fc) ?_ (bD W) ?_
 ·intro _ y;have c1:=kP y c1;go_simp
 refine wTk 5 16 (.int .i64 fl) ?_ (bD W) ?_
 ·intro _ y;go_simp
 refine wTk 6 17 (.bool (decide ((fl:Int) < 16))) ?_ (bD W) ?_
 ·intro _ y;go_simp
 refine wTk 7 18 (.agg #[.string ⟨k.toArray⟩, .string ⟨x.toArray⟩, .int .u64 m, .int .i64 ln, .int .i64 co, .slice (some ⟨g2,off2,none⟩) (pn+1+1) c]) ?_ (bD W) ?_
 ·intro _ y;obtain⟨n0,n1,n2,n3,n4,n5⟩:=kP6 y n0 n1 n2 n3 n4 n5;go_simp
 refine wOn 8 fun K hK=>?_
 go_simp;refine(HNA.o _ 45 _).mono ?_;rintro e w4 (⟨hbt,rfl,hb4⟩ | ⟨hbt,rfl,hb4⟩);rotate_left
 ·exact⟨rfl,wP.badI (ln:=ln) (co:=co) (code:=45) (by rw[HPB.o,show decide ((fs.map (fun f=>f.h)).length < 16)=false by rw[List.length_map,<-HFL.o];have:=of_decide_eq_false hbt;exact decide_eq_false (by omega)];rfl) (jW.of_below (HBL.o.trans ((zF hb4).mono hWs)))⟩
 have hb4:=zF hb4;have hle:fl < 16:=by have:=of_decide_eq_true hbt;omega
 have HPU:=hI (HPB.o.trans (by rw[show decide ((fs.map (fun f=>f.h)).length < 16)=true by rw[List.length_map,<-HFL.o];exact decide_eq_true hle];rfl:_=(yF ⟨gs,fs.map (fun f=>f.h)⟩ (.mk k x m ln co ks)).bind fun _=>(yH ps []).bind fun l=>.ok ⟨gs,fs.map (fun f=>f.h)++[⟨x,(U0,U1),l⟩]⟩));have HW4:=hI (HW.o.below hb4);have HB4:=hI (HBL.o.trans (hb4.mono hWs));have HN4:=hI (HN.o.below hb4);have hs4:=hb4.size;have huc:=huc.move (hb4.block g2 (by omega));refine kD hK ?_;clear hK K hb4 n0 n1 n2 n3 n4 n5 c1 HW HN HBL HPB hbt;try simp only[Act.put,pZa,pZb,pZc]
 refine wDn ?_ _;obtain⟨n0,n1,n2,n3,n4,n5⟩:=HN4.o.cells;try simp only[tQ]at n0 n1 n2 n3 n4 n5
 go_wp2_with fail
 refine(HUN.o _ HW4.o).mono ?_;rintro e W2 hX;rcases hX.cases with⟨a,u',hp,rfl,rfl,hb7⟩ | ⟨l',c',code,hp,rfl,hb7⟩;rotate_left
 ·exact⟨rfl,wP.badI (by rw[HPU.o,hp];rfl) (jW.of_below (HB4.o.trans (hb7.mono HB4.o.size)))⟩
 have HPOS:=hI (qKQ hp);have HPV:=hI (HPU.o.trans (by rw[hp];rfl:_=(yH ps []).bind fun l=>.ok ⟨gs,fs.map (fun f=>f.h)++[⟨x,(U0,U1),l⟩]⟩));have HW7:=hI (HW4.o.below hb7);have HB7:=hI (HB4.o.trans (hb7.mono HB4.o.size));have HN7:=hI (HN4.o.below hb7);have hs7:=hb7.size;have huc:=huc.move (hb7.block g2 (by omega));clear n0 n1 n2 n3 n4 n5 hX hp hb7 HW4 HN4 HPU HUN;obtain⟨n0,n1,n2,n3,n4,n5⟩:=HN7.o.cells;have⟨k0,k1,k2,k3,k4,k5,_⟩:=huc.a;try simp only[tQ]at n0 n1 n2 n3 n4 n5 k0 k1 k2 k3 k4 k5
 have hw1:IntKind.i64.wrap (((pn+1+1:Nat):Int) - 1)=(pn+1:Nat):=by rw[IntWalk.i64_in _ (by omega)];omega
 have hw2:IntKind.i64.wrap ((pn:Int)+1+1 - 1)=(pn:Int)+1:=by rw[IntWalk.i64_in _ (by omega)];omega
 have hw3:IntKind.i64.wrap ((pn:Int)+1)=(pn:Int)+1:=IntWalk.i64_in _ (by omega);have hW2s:w.1.size<=W2.1.size:=by omega
 go_wp2
 refine qXG (fun a0 r=>((((((((((((a0.put (some 30) (.pointer (some ⟨w.1.size,1,none⟩))).put (some 31) (.string ⟨x.toArray⟩)).put (some 33) (.pointer (some ⟨w.1.size,5,none⟩))).put (some 34) (.slice (some ⟨g2,off2,none⟩) (pn+1+1) c)).put (some 35) (.pointer (some ⟨g2,off2,none⟩))).put (some 36) (.agg #[.string ⟨uk.toArray⟩, .string ⟨ux.toArray⟩, .int .u64 um, .int .i64 ul, .int .i64 uc, .slice uq un ucp])).put (some 38) (.slice (some ⟨g2,off2+6,none⟩) pn (c - 1))).put (some 39) (.int .i64 pn)).put (some 32) (.string ⟨x.toArray⟩)).put (some 37) (.agg #[.int .i64 U0, .bool U1])).put (some 40) (.agg #[.string ⟨x.toArray⟩, .int .i64 U0, .bool U1, .int .i64 pn, .slice none 0 0, .slice none 0 0])).put (some 5) (.pointer (some ⟨r,0,none⟩)))) (FMade x (U0,U1) pn W2) ?_ ?_
 ·refine wRg (S:=fun w'=>Below W2.1.size W2 w') 99 ?_;refine wTk 0 30 (.pointer (some ⟨w.1.size,1,none⟩)) ?_ (bD W2) ?_
  ·intro _ y;go_simp
  refine wTk 1 31 (.string ⟨x.toArray⟩) ?_ (bD W2) ?_
  ·intro _ y;have n1:=kP y n1;go_simp
  refine wTk 3 33 (.pointer (some ⟨w.1.size,5,none⟩)) ?_ (bD W2) ?_
  ·intro _ y;go_simp
  refine wTk 4 34 (.slice (some ⟨g2,off2,none⟩) (pn+1+1) c) ?_ (bD W2) ?_
  ·intro _ y;have n5:=kP y n5;go_simp
  refine wTk 5 35 (.pointer (some ⟨g2,off2,none⟩)) ?_ (bD W2) ?_
  ·intro _ y;go_simp;intro h;omega
  refine wTk 6 36 (.agg #[.string ⟨uk.toArray⟩, .string ⟨ux.toArray⟩, .int .u64 um, .int .i64 ul, .int .i64 uc, .slice uq un ucp]) ?_ (bD W2) ?_
  ·intro _ y;obtain⟨k0,k1,k2,k3,k4,k5⟩:=kP6 y k0 k1 k2 k3 k4 k5;go_simp
  refine wTk 8 38 (.slice (some ⟨g2,off2+6,none⟩) pn (c - 1)) ?_ (bD W2) ?_
  ·intro _ y;go_simp
  refine wTk 9 39 (.int .i64 pn) ?_ (bD W2) ?_
  ·intro _ y;go_simp
  have HB0:=hI ((Below.refl W2.1.size W2).drew);clear n0 n1 n2 n3 n4 n5 k0 k1 k2 k3 k4 k5;generalize World.drew W2=C0 at *;refine jA (i:=2) (j:=11) rfl rfl (by kernel_rfl) (by rfl) (by rfl) (fun K hK=>?_) (fun K hK=>?_)
  ·go_simp;refine(yP ⟨x.toArray⟩ _ (by have:=HX.o;simpa[ByteArray.size]using this)).mono ?_;rintro e C1 ⟨rfl,hb⟩;have hw0:=HB0.o.size;have HB1:=hI (HB0.o.trans (hb.mono HB0.o.size));have hs1:=hb.size;refine kK hK HB1.o ?_;clear hK K hb;try simp only[Act.put,pZa,pZb,pZc]
   refine jA (i:=7) (j:=11) rfl rfl (by kernel_rfl) (by rfl) (by rfl) (fun K hK=>?_) (fun K hK=>?_)
   ·go_simp;refine(HTY.o C1 (HB7.o.trans (HB1.o.mono hW2s))).mono ?_;rintro e C2 ⟨rfl,hb⟩;have hw1:=HB1.o.size;have HB2:=hI (HB1.o.trans (hb.mono HB1.o.size));have hs2:=hb.size;refine kK hK HB2.o ?_;clear hK K hb;try simp only[Act.put,pZa,pZb,pZc]
    refine jA (i:=10) (j:=11) rfl rfl (by kernel_rfl) (by rfl) (by rfl) (fun K hK=>?_) (fun K hK=>?_)
    ·go_simp;refine kK hK HB2.o ?_;clear hK K;have HB3:=HB2;refine wOn 11 fun K hK=>?_
     go_simp;refine kK hK (bal HB2.o _) ?_;clear hK K;have HB3:=hI (bal HB2.o (.cells #[.string ⟨#[]⟩, .int .i64 0, .bool false, .int .i64 0, .slice none 0 0, .slice none 0 0] 40));have hs3:C2.1.size < (C2.alloc (.cells #[.string ⟨#[]⟩, .int .i64 0, .bool false, .int .i64 0, .slice none 0 0, .slice none 0 0] 40)).1.size:=by simp
     have hw2:=HB2.o.size;have H4:=hI (show qZj C2.1.size [] (0,false) 0 (.slice none 0 0) (.slice none 0 0) (C2.alloc (.cells #[.string ⟨#[]⟩, .int .i64 0, .bool false, .int .i64 0, .slice none 0 0, .slice none 0 0] 40))from qZj.new C2);generalize (C2.alloc (.cells #[.string ⟨#[]⟩, .int .i64 0, .bool false, .int .i64 0, .slice none 0 0, .slice none 0 0] 40))=C3 at *;refine wOn 12 fun K hK=>?_
     have x0:=H4.o.c0;have xf0:=H4.o.f 0 nL;have x1:=H4.o.c1;have xf1:=H4.o.f 1 nL;have x2:=H4.o.c2;have xf2:=H4.o.f 2 nL;have x3:=H4.o.c3;have xf3:=H4.o.f 3 nL;have x4:=H4.o.c4;have xf4:=H4.o.f 4 nL;have x5:=H4.o.c5;have xf5:=H4.o.f 5 nL;simp only at x0 x1 x2 x3 x4 x5;go_simp;refine kK hK (vN HB3.o (by omega) _ _ _ _ _ _) ?_;clear hK K;refine wDn ?_ _;exact⟨C2.1.size,by simp only[Act.put,pZa,pZb,pZc],vN HB3.o (by omega) _ _ _ _ _ _,H4.o.six x (U0,U1) pn (.slice none 0 0) (.slice none 0 0),by show W2.1.size<=C2.1.size;omega⟩
    ·go_simp;refine kK hK (bal HB2.o _) ?_;clear hK K;have HB3:=hI (bal HB2.o (.cells #[.string ⟨#[]⟩, .int .i64 0, .bool false, .int .i64 0, .slice none 0 0, .slice none 0 0] 40));have hs3:C2.1.size < (C2.alloc (.cells #[.string ⟨#[]⟩, .int .i64 0, .bool false, .int .i64 0, .slice none 0 0, .slice none 0 0] 40)).1.size:=by simp
     have hw2:=HB2.o.size;have H4:=hI (show qZj C2.1.size [] (0,false) 0 (.slice none 0 0) (.slice none 0 0) (C2.alloc (.cells #[.string ⟨#[]⟩, .int .i64 0, .bool false, .int .i64 0, .slice none 0 0, .slice none 0 0] 40))from qZj.new C2);generalize (C2.alloc (.cells #[.string ⟨#[]⟩, .int .i64 0, .bool false, .int .i64 0, .slice none 0 0, .slice none 0 0] 40))=C3 at *;refine wOn 10 fun K hK=>?_
     go_simp;refine kK hK HB3.o ?_;clear hK K;have HB4:=HB3;refine wOn 12 fun K hK=>?_
     have x0:=H4.o.c0;have xf0:=H4.o.f 0 nL;have x1:=H4.o.c1;have xf1:=H4.o.f 1 nL;have x2:=H4.o.c2;have xf2:=H4.o.f 2 nL;have x3:=H4.o.c3;have xf3:=H4.o.f 3 nL;have x4:=H4.o.c4;have xf4:=H4.o.f 4 nL;have x5:=H4.o.c5;have xf5:=H4.o.f 5 nL;simp only at x0 x1 x2 x3 x4 x5;go_simp;refine kK hK (vN HB3.o (by omega) _ _ _ _ _ _) ?_;clear hK K;refine wDn ?_ _;exact⟨C2.1.size,by simp only[Act.put,pZa,pZb,pZc],vN HB3.o (by omega) _ _ _ _ _ _,H4.o.six x (U0,U1) pn (.slice none 0 0) (.slice none 0 0),by show W2.1.size<=C2.1.size;omega⟩
   ·go_simp;refine kK hK (bal HB1.o _) ?_;clear hK K;have HB2:=hI (bal HB1.o (.cells #[.string ⟨#[]⟩, .int .i64 0, .bool false, .int .i64 0, .slice none 0 0, .slice none 0 0] 40));have hs2:C1.1.size < (C1.alloc (.cells #[.string ⟨#[]⟩, .int .i64 0, .bool false, .int .i64 0, .slice none 0 0, .slice none 0 0] 40)).1.size:=by simp
    have hw1:=HB1.o.size;have H4:=hI (show qZj C1.1.size [] (0,false) 0 (.slice none 0 0) (.slice none 0 0) (C1.alloc (.cells #[.string ⟨#[]⟩, .int .i64 0, .bool false, .int .i64 0, .slice none 0 0, .slice none 0 0] 40))from qZj.new C1);generalize (C1.alloc (.cells #[.string ⟨#[]⟩, .int .i64 0, .bool false, .int .i64 0, .slice none 0 0, .slice none 0 0] 40))=C2 at *;refine wOn 7 fun K hK=>?_
    go_simp;refine(HTY.o C2 (HB7.o.trans (HB2.o.mono hW2s))).mono ?_;rintro e C3 ⟨rfl,hb⟩;have hw2:=HB2.o.size;have HB3:=hI (HB2.o.trans (hb.mono HB2.o.size));have hs3:=hb.size;have H4:=hI (H4.o.below hb);refine kK hK HB3.o ?_;clear hK K hb;try simp only[Act.put,pZa,pZb,pZc]
    refine wOn 10 fun K hK=>?_
    go_simp;refine kK hK HB3.o ?_;clear hK K;have HB4:=HB3;refine wOn 12 fun K hK=>?_
    have x0:=H4.o.c0;have xf0:=H4.o.f 0 nL;have x1:=H4.o.c1;have xf1:=H4.o.f 1 nL;have x2:=H4.o.c2;have xf2:=H4.o.f 2 nL;have x3:=H4.o.c3;have xf3:=H4.o.f 3 nL;have x4:=H4.o.c4;have xf4:=H4.o.f 4 nL;have x5:=H4.o.c5;have xf5:=H4.o.f 5 nL;simp only at x0 x1 x2 x3 x4 x5;go_simp;refine kK hK (vN HB3.o (by omega) _ _ _ _ _ _) ?_;clear hK K;refine wDn ?_ _;exact⟨C1.1.size,by simp only[Act.put,pZa,pZb,pZc],vN HB3.o (by omega) _ _ _ _ _ _,H4.o.six x (U0,U1) pn (.slice none 0 0) (.slice none 0 0),by show W2.1.size<=C1.1.size;omega⟩
  ·go_simp;refine kK hK (bal HB0.o _) ?_;clear hK K;have HB1:=hI (bal HB0.o (.cells #[.string ⟨#[]⟩, .int .i64 0, .bool false, .int .i64 0, .slice none 0 0, .slice none 0 0] 40));have hs1:C0.1.size < (C0.alloc (.cells #[.string ⟨#[]⟩, .int .i64 0, .bool false, .int .i64 0, .slice none 0 0, .slice none 0 0] 40)).1.size:=by simp
   have hw0:=HB0.o.size;have H4:=hI (show qZj C0.1.size [] (0,false) 0 (.slice none 0 0) (.slice none 0 0) (C0.alloc (.cells #[.string ⟨#[]⟩, .int .i64 0, .bool false, .int .i64 0, .slice none 0 0, .slice none 0 0] 40))from qZj.new C0);generalize (C0.alloc (.cells #[.string ⟨#[]⟩, .int .i64 0, .bool false, .int .i64 0, .slice none 0 0, .slice none 0 0] 40))=C1 at *;refine wOn 2 fun K hK=>?_
   go_simp;refine(yP ⟨x.toArray⟩ _ (by have:=HX.o;simpa[ByteArray.size]using this)).mono ?_;rintro e C2 ⟨rfl,hb⟩;have hw1:=HB1.o.size;have HB2:=hI (HB1.o.trans (hb.mono HB1.o.size));have hs2:=hb.size;have H4:=hI (H4.o.below hb);refine kK hK HB2.o ?_;clear hK K hb;try simp only[Act.put,pZa,pZb,pZc]
   refine wOn 7 fun K hK=>?_
   go_simp;refine(HTY.o C2 (HB7.o.trans (HB2.o.mono hW2s))).mono ?_;rintro e C3 ⟨rfl,hb⟩;have hw2:=HB2.o.size;have HB3:=hI (HB2.o.trans (hb.mono HB2.o.size));have hs3:=hb.size;have H4:=hI (H4.o.below hb);refine kK hK HB3.o ?_;clear hK K hb;try simp only[Act.put,pZa,pZb,pZc]
   refine wOn 10 fun K hK=>?_
   go_simp;refine kK hK HB3.o ?_;clear hK K;have HB4:=HB3;refine wOn 12 fun K hK=>?_
   have x0:=H4.o.c0;have xf0:=H4.o.f 0 nL;have x1:=H4.o.c1;have xf1:=H4.o.f 1 nL;have x2:=H4.o.c2;have xf2:=H4.o.f 2 nL;have x3:=H4.o.c3;have xf3:=H4.o.f 3 nL;have x4:=H4.o.c4;have xf4:=H4.o.f 4 nL;have x5:=H4.o.c5;have xf5:=H4.o.f 5 nL;simp only at x0 x1 x2 x3 x4 x5;go_simp;refine kK hK (vN HB3.o (by omega) _ _ _ _ _ _) ?_;clear hK K;refine wDn ?_ _;exact⟨C0.1.size,by simp only[Act.put,pZa,pZb,pZc],vN HB3.o (by omega) _ _ _ _ _ _,H4.o.six x (U0,U1) pn (.slice none 0 0) (.slice none 0 0),by show W2.1.size<=C0.1.size;omega⟩
 ·rintro Nf W3 ⟨hb3,hF,hNf⟩;have hN3:=hF.lt;have hs3:=hb3.size;have HB3:=hI (HB7.o.trans (hb3.mono hW2s));have HW3:=hI (HW7.o.below hb3);have HN3:=hI (HN7.o.below hb3);have HF3:=hI hF;have hmp:=bal (Below.refl W3.1.size W3) (.map #[] 0);have HFI:=hI (show FIn Nf W3.1.size (.mk k x m ln co ks) (.slice (some ⟨g2,off2,none⟩) (pn+1+1) c) x (U0,U1) ps 0 [] (.slice none 0 0) [] w (W3.alloc (.map #[] 0))from
   ⟨HB3.o.trans (hmp.mono HB3.o.size),HN3.o.below hmp,by rw[HLN.o];exact HF3.o.below hmp,wY.made W3,⟨rfl, .inl ⟨rfl,rfl⟩⟩,fun k hk=>by simp at hk,rfl,rfl,by omega,by omega⟩)
  clear n0 n1 n2 n3 n4 n5 k0 k1 k2 k3 k4 k5 hb3 hF hmp HB3 HW3 HN3 HF3 HB7 HW7 HN7 huc HB4 HTY;try simp only[Act.put,pZa,pZb,pZc]
  have hmm:=@run_makeMap prog;go_wp2
  clear hmm;go_loopw [44] (fun i wr=>FcRel Nf W3.1.size (.mk k x m ln co ks) (.slice (some ⟨g2,off2,none⟩) (pn+1+1) c) x (U0,U1) ps w i wr) (fun i _=>ps.length - (intOf i).toNat)
  case atStart=>exact⟨0,[],_,Nat.zero_le _,rfl,HFI.o⟩
  case round =>
   obtain⟨j,acc,vv,hj,rfl,hIq⟩:=hrel;have HI:=hI hIq;have hsr:=hIq.hb.size;have hMr:=hIq.nm.lt;have h64:=hIq.k64;obtain⟨vq,vc,hvv⟩:=qZL hIq.vr;rw[hIq.hl]at hvv;subst hvv;clear hIq;by_cases hlt:j < ps.length
   ·skip
    obtain⟨qa,na,ca,hla,hca⟩:=HRP.o.2 j hlt;have hca:=hca.move (HI.o.hb.block g2 (by omega));have HST:=hI (qPW (acc:=acc) hlt);have HPJ:=hI (HPS.o ps[j] (List.getElem_mem hlt));generalize ps[j]=a at *;obtain⟨qa',ca',e,_,_,_⟩:=hla.kids;injection e with e1 e2 e3;subst e2 e1 e3;obtain⟨hax,hak⟩:=HPJ.o;obtain⟨au,ar,hau⟩:∃ u r,a.kids=u :: r:=by
     cases hk:a.kids with
     | nil=>exact absurd hk hak
     | cons u r=>exact⟨u,r,rfl⟩
    have HDE:=hI (fun w' (hb:Below w.1.size w w')=>qJc L a au ar (.slice qa a.kids.length ca) w' hau (H0.o.wtab.below hb) (by have:=hb.size;omega) (xZ.move (fun g hg hok=>⟨hok,hb.block g (by omega)⟩) a _ hla) hax);have HAX:=hI hax;have HNJ:=hI (fun b cd w'=>qQk b a (.slice qa a.kids.length ca) cd w');have HNB:=hI (Bx.new a (.slice qa a.kids.length ca) wr);have hbZ:=bal (Below.refl wr.1.size wr) (qB a (.slice qa a.kids.length ca));have HIZ:=hI (HI.o.below hbZ);have hszZ:(wr.alloc (qB a (.slice qa a.kids.length ca))).1.size=wr.1.size+1:=by simp
    have HDN:=hI (show(qZr a).name=a.text from rfl);clear hla HPJ hau hak hax hbZ;generalize hD:qZr a=D at *;clear hD;obtain⟨ak,ax,am,al,ac,aks⟩:=a;have⟨k0,k1,k2,k3,k4,k5,_⟩:=hca.a;try simp only[qZ,qB,qS,tQ]at *
    have hjp:(j:Int) < (pn:Nat):=by have:=HLN.o;omega
    clear hca;go_wp2_with fail
    clear k0 k1 k2 k3 k4 k5;generalize (wr.alloc _)=Z at *;refine(HNJ.o _ 45 _).mono ?_;rintro e w4 (⟨hbt,rfl,hb4⟩ | ⟨hbt,rfl,hb4⟩);rotate_left
    ·exact⟨rfl,wP.badI (ln:=al) (co:=ac) (code:=45) (by rw[HPV.o,HIZ.o.hp,HST.o,HIZ.o.hl,show decide (j < 64)=false by have:=of_decide_eq_false hbt;exact decide_eq_false (by omega)];rfl) (jW.of_below ((HIZ.o.below hb4).hb))⟩
    have hj64:j < 64:=by have:=of_decide_eq_true hbt;omega
    have HST2:=hI (HST.o.trans (by rw[HIZ.o.hl,show decide (j < 64)=true from decide_eq_true hj64];rfl:_=(jQ (qQj ax 0 acc).isNone (.mk ak ax am al ac aks) 40).bind fun _=>yH (ps.drop (j+1)) (acc++[D])));have HI4:=hI (HIZ.o.below hb4);have HN4:=hI (HNB.o.below hb4);have hs4:=hb4.size;clear hb4 hbt HIZ HNB HST;obtain⟨b0,b1,b2,b3,b4,b5⟩:=HN4.o.cells;try simp only[tQ]at b0 b1 b2 b3 b4 b5
    have hlk:=HI4.o.nm.look ax (by have:=HAX.o;unfold maxLen;omega);have hcases:∃ b i,(qQj ax 0 acc).isNone=!b/\qVh ax (acc.map (·.name))=b/\qVi ax (acc.map (·.name))=i:=by
     cases hl:qQj ax 0 acc with
     | none=>obtain⟨e1,e2⟩:=qXq hl;exact⟨false,_,rfl,e1,rfl⟩
     | some p=>obtain⟨p1,p2⟩:=p;obtain⟨e1,e2,_⟩:=qJL hl;exact⟨true,_,rfl,e1,rfl⟩
    obtain⟨bb,bi,hnb,eb,ei⟩:=hcases;rw[eb,ei]at hlk;have HNBB:=hI hnb;clear eb ei hnb;go_wp2_with fail
    clear hlk;refine(HNJ.o _ 40 _).mono ?_;rintro e w5 (⟨hbt,rfl,hb5⟩ | ⟨hbt,rfl,hb5⟩);rotate_left
    ·exact⟨rfl,wP.badI (ln:=al) (co:=ac) (code:=40) (by rw[HPV.o,HI4.o.hp,HST2.o,HNBB.o,hbt];rfl) (jW.of_below ((HI4.o.below hb5).hb))⟩
    have HST3:=hI (HST2.o.trans (by rw[HNBB.o,hbt];rfl:_=yH (ps.drop (j+1)) (acc++[D])));have HPN:=hI (show qZc ax 0 (acc.map (·.name))=none from qZI.1.1 (Option.isNone_iff_eq_none.1 (by rw[HNBB.o,hbt])));have HI5:=hI (HI4.o.below hb5);have HN5:=hI (HN4.o.below hb5);have hs5:=hb5.size;have hlj:=HI4.o.hl;have HLJ:=hI hlj;have hlo:=HI4.o.lo;obtain⟨w6,hrun,hm6,hg6⟩:=HI5.o.nm.store ax (by have:=HAX.o;unfold maxLen;omega) HPN.o (by rw[List.length_map];omega);rw[show((acc.map (·.name)).length:Int)=(j:Nat) by rw[List.length_map,hlj]]at hrun;clear hb5 hbt HI4 HN4 HST2 b0 b1 b2 b3 b4 b5 hlj;obtain⟨b0,b1,b2,b3,b4,b5⟩:=HN5.o.cells;try simp only[tQ]at b0 b1 b2 b3 b4 b5
    have hMl:=HI5.o.nm.lt;have hAM:wr.1.size≠W3.1.size:=by omega
    have HN6:=hI (show Bx wr.1.size (.mk ak ax am al ac aks) (.slice qa aks.length ca) w6 from(hg6.block wr.1.size HN5.o.lt (fun e=>hAM (by injection e))).trans HN5.o);have HI6:=hI (HI5.o.store hg6 hm6);have hs6:w5.1.size<=w6.1.size:=hg6.size;clear hg6 hm6;go_wp2
    clear hrun b0 b1 b2 b3 b4 b5;obtain⟨b0,b1,b2,b3,b4,b5⟩:=HN6.o.cells;try simp only[tQ]at b0 b1 b2 b3 b4 b5
    have f4:=HI6.o.fb.c4;have hrow6:w6.ownsRow (W3.1.size+1) 42 4 (.slice vq j vc) j (xD qQe acc):=by
     have h:=HI6.o.vr;unfold qQI at h;rw[HLJ.o]at h;exact h
    have hneF:some Nf≠(Value.slice vq j vc).ownBlock:=fun e=>by have:=(hrow6.lt _ e.symm).1;omega
    have hneA:some wr.1.size≠(Value.slice vq j vc).ownBlock:=fun e=>by have:=(HI.o.vr.lt _ e.symm).2;omega
    refine wRg (S:=fun w'=>∀ b,b < w6.1.size->some b≠(Value.slice vq j vc).ownBlock->w'.1[b]? = w6.1[b]?) 7 ?_;refine wTk 0 68 (.pointer (some ⟨Nf,4,none⟩)) ?_ ((fun _ _ _=>rfl)) ?_
    ·intro _ y;go_simp
    refine wTk 1 69 (.slice vq j vc) ?_ ((fun _ _ _=>rfl)) ?_
    ·intro _ y;have f4:=(cB (y _ (qJ f4) hneF)).trans f4;go_simp
    refine wTk 2 70 (.agg #[.string ⟨ak.toArray⟩, .string ⟨ax.toArray⟩, .int .u64 am, .int .i64 al, .int .i64 ac, .slice qa aks.length ca]) ?_ ((fun _ _ _=>rfl)) ?_
    ·intro _ y;have b0:=(cB (y _ (qJ b0) hneA)).trans b0;have b1:=(cB (y _ (qJ b1) hneA)).trans b1;have b2:=(cB (y _ (qJ b2) hneA)).trans b2;have b3:=(cB (y _ (qJ b3) hneA)).trans b3;have b4:=(cB (y _ (qJ b4) hneA)).trans b4;have b5:=(cB (y _ (qJ b5) hneA)).trans b5;go_simp
    refine wOn 3 fun K hK=>?_
    go_simp;refine(HDE.o _ HI6.o.hb.drew).mono ?_;rintro e w5 ⟨rfl,hb5⟩;have hb5:=zF hb5;have S5:∀ b,b < w6.1.size->some b≠(Value.slice vq j vc).ownBlock->w5.1[b]? = w6.1[b]?:=fun b hb _=>hb5.block b hb
    have hs5:=hb5.size;have HROW:=hI (show w5.ownsRow (W3.1.size+1) 42 4 (.slice vq j vc) j (xD qQe acc)from zU hrow6 (fun g hg=>hb5.block g (hrow6.lt g hg).2));have HB5:=hI hb5;unfold qXK;refine kK hK S5 ?_;clear hK K;refine wOn 4 fun K hK=>?_
    go_simp;refine kK hK (fun b hb hne=>(Below.heap_alloc w5 _ b (by omega)).trans (S5 b hb hne)) ?_;clear hK K;refine wOn 5 fun K hK=>?_
    refine qQJ (lo:=W3.1.size+1) (dd:=73) (news:=qQe D) underlying27 info42 (by decide) rfl (by decide) _ _ rfl rfl HROW.o (by omega) rfl rfl rfl rfl (qVo _) (by omega) (fun v9 w9 ho9 hg9 hbk9=>?_);obtain⟨q9,c9,rfl⟩:∃ q c,v9=.slice q (j+1) c:=by
     rcases ho9.2 with⟨_,h0⟩ | ⟨g,cap,cur,rfl,_⟩
     ·omega
     ·exact⟨_,_,rfl⟩
    have S9:∀ b,b < w6.1.size->some b≠(Value.slice vq j vc).ownBlock->w9.1[b]? = w6.1[b]?:=fun b hb hne=>(hg9.block b (by simp;omega) hne).trans ((Below.heap_alloc w5 _ b (by omega)).trans (S5 b hb hne))
    refine kK hK S9 ?_;clear hK K;refine wOn 6 fun K hK=>?_
    go_simp;refine kK hK S9 ?_;clear hK K;have f49:=(cB (S9 Nf HI6.o.fb.lt hneF)).trans f4;have ff9:w9.frozen? ⟨Nf,4,none⟩=false:=(World.frozen?_of_block (S9 Nf HI6.o.fb.lt hneF)).trans (HI6.o.fb.f 4 nL);have hs9:w5.1.size+1<=w9.1.size:=by have:=hg9.size;simpa using this
    refine wOn 7 fun K hK=>?_
    go_simp;refine kD hK ?_;clear hK K;refine wDn ?_ _;have HO9:=hI ho9;have HG9:=hI hg9;have HS9:=hI S9;have hbb:=HB5.o;clear f4 f49 ff9 b0 b1 b2 b3 b4 b5 ho9 hg9 S9 S5 hb5;go_wp2
    have hjw:IntKind.i64.wrap ((j:Int)+1)=((j+1:Nat):Int):=by rw[IntWalk.i64_in _ (by omega)];omega
    try rw[hjw]
    refine⟨⟨j+1,acc++[D], .slice q9 (j+1) c9,by omega,rfl,HI6.o.more (by omega) (HG9.o.os.trans hbb.os) (HG9.o.tape.trans hbb.tape) (HG9.o.output.trans hbb.output) HS9.o HO9.o (by rw[List.map_append];show _=_++[D.name];rw[HDN.o]) (HI6.o.di.snoc (by rw[HDN.o];exact HPN.o) (by rw[HDN.o];exact HAX.o)) (HI6.o.hp.trans HST3.o) hj64⟩,?_⟩;simp only[intOf];omega
   ·skip
    have hjn:j=ps.length:=by omega
    have HPL:yH ps []=.ok acc:=HI.o.hp.trans (by rw[hjn,List.drop_length,yH]);have HPW:=hI (HPV.o.trans (by rw[HPL];show CR.ok _=CR.ok _;rw[List.map_append];rfl:_=.ok ⟨gs,(fs++[(⟨⟨x,(U0,U1),acc⟩,acc, .slice vq j vc, .slice none 0 0⟩:FnM)]).map (fun f=>f.h)⟩));have hjp:(pn:Int)<=(j:Nat):=by have:=HLN.o;omega
    have HWr:=hI (H0.o.below HI.o.hb);have c1:=HWr.o.c1;rw[HFV.o]at c1;have c4:=HWr.o.c4;have f0:=HI.o.fb.c0;have HAL:=hI (show acc.length=pn by rw[HI.o.hl,hjn,HLN.o]);have HNEW:=hI (show fnC (⟨⟨x,(U0,U1),acc⟩,acc, .slice vq j vc, .slice none 0 0⟩:FnM)=[.string ⟨x.toArray⟩, .int .i64 U0, .bool U1, .int .i64 pn, .slice vq j vc, .slice none 0 0] by unfold fnC;rw[show(⟨⟨x,(U0,U1),acc⟩,acc, .slice vq j vc, .slice none 0 0⟩:FnM).h.params.length=pn from HAL.o]);have hlo:=H0.o.lo;have hlo2:=HI.o.lo;obtain⟨w6,hrun,hm6,hg6⟩:=(HWr.o.fm.below (Below.refl _ _).drew).store x (by have:=HX.o;unfold maxLen;omega) HPOS.o.2 (by simp only[List.length_map];rw[<-HFL.o];omega);rw[show(((fs.map (fun f=>f.h)).map (·.name)).length:Int)=(fl:Nat) by rw[List.length_map,List.length_map,HFL.o]]at hrun;clear hjn HPL;go_wp2
    refine wRg (S:=fun w'=>Below wr.1.size wr w') 12 ?_;refine wTk 0 76 (.pointer (some ⟨B,0,none⟩)) ?_ (bD wr) ?_
    ·intro _ y;go_simp
    refine wTk 1 77 (.pointer (some ⟨B,0,none⟩)) ?_ (bD wr) ?_
    ·intro _ y;go_simp
    refine wTk 2 78 (.pointer (some ⟨B,4,none⟩)) ?_ (bD wr) ?_
    ·intro _ y;go_simp
    refine wTk 3 79 (.map (some Mf)) ?_ (bD wr) ?_
    ·intro _ y;have c4:=kP y c4;have f0:=kP y f0;go_simp
    refine wTk 4 80 (.pointer (some ⟨Nf,0,none⟩)) ?_ (bD wr) ?_
    ·intro _ y;go_simp
    refine wTk 5 81 (.string ⟨x.toArray⟩) ?_ (bD wr) ?_
    ·intro _ y;have f0:=kP y f0;go_simp
    refine wTk 6 82 (.pointer (some ⟨B,0,none⟩)) ?_ (bD wr) ?_
    ·intro _ y;go_simp
    refine wTk 7 83 (.pointer (some ⟨B,0,none⟩)) ?_ (bD wr) ?_
    ·intro _ y;go_simp
    refine wTk 8 84 (.pointer (some ⟨B,0,none⟩)) ?_ (bD wr) ?_
    ·intro _ y;go_simp
    refine wTk 9 85 (.pointer (some ⟨B,1,none⟩)) ?_ (bD wr) ?_
    ·intro _ y;go_simp
    refine wTk 10 86 (.slice fq fl fc) ?_ (bD wr) ?_
    ·intro _ y;have c1:=kP y c1;go_simp
    refine wTk 11 87 (.int .i64 fl) ?_ (bD wr) ?_
    ·intro _ y;go_simp
    refine wOn 12 fun K hK=>?_
    go_simp;refine kD hK ?_;clear hK K;refine wDn ?_ _;have hM:=HWr.o.fm.isMap;have HK6:=hI (show ∀ b,b < wr.1.size->b≠Mf->w6.1[b]? = wr.1[b]? from fun b hb hne=>hg6.block b hb (fun e=>hne (by injection e)));have hMfl:=H0.o.fm.lt;have hBM:B≠Mf:=(vU hM HWr.o.kb).symm;have hNM:Nf≠Mf:=by omega
    have kc:∀ {b o u},b < wr.1.size->b≠Mf->wr.cell? ⟨b,o,none⟩=some u->w6.cell? ⟨b,o,none⟩=some u:=fun hb hne hc=>(cB (HK6.o _ hb hne)).trans hc
    have hBr:B < wr.1.size:=qJ HWr.o.c1;have hNr:=HI.o.fb.lt;have c1:=kc hBr hBM c1;have f0:=kc hNr hNM HI.o.fb.c0;have f1:=kc hNr hNM HI.o.fb.c1;have f2:=kc hNr hNM HI.o.fb.c2;have f3:=kc hNr hNM HI.o.fb.c3;have f4:=kc hNr hNM HI.o.fb.c4;have f5:=kc hNr hNM HI.o.fb.c5;rw[HLN.o]at f3;try simp only at f1 f2
    have hr0:w.ownsRow L 40 6 (.slice fq fl fc) fl (xD fnC fs):=by
     have hr:=H0.o.frow;rw[HFV.o,<-HFL.o]at hr;exact hr
    have hrZ:wr.ownsRow L 40 6 (.slice fq fl fc) fl (xD fnC fs):=by
     have hr:=HWr.o.frow;rw[HFV.o,<-HFL.o]at hr;exact hr
    have hvk:∀ g,(Value.slice fq fl fc).ownBlock=some g->jX wr g 40/\g < w.1.size:=fun g hg=>⟨zE hrZ hg,(hr0.lt g hg).2⟩
    have hneB:some B≠(Value.slice fq fl fc).ownBlock:=fun e=>(HWr.o.kb.ne (hvk B e.symm).1 (by decide)) rfl
    have hneF:some Nf≠(Value.slice fq fl fc).ownBlock:=fun e=>by have:=(hvk _ e.symm).2;omega
    have HROW:=hI (show w6.ownsRow L 40 6 (.slice fq fl fc) fl (xD fnC fs)from zU hrZ (fun g hg=>HK6.o g (by have:=(hvk g hg).2;omega) (vU hM (hvk g hg).1).symm));have hs6:wr.1.size<=w6.1.size:=hg6.size;have HG6:=hI hg6;have HM6:=hI hm6;clear hg6 hm6 kc hrun c4 hr0 hrZ;go_wp2
    refine wRg (S:=fun w'=>∀ b,b < w6.1.size->some b≠(Value.slice fq fl fc).ownBlock->w'.1[b]? = w6.1[b]?) 12 ?_;refine wTk 0 88 (.pointer (some ⟨B,0,none⟩)) ?_ ((fun _ _ _=>rfl)) ?_
    ·intro _ y;go_simp
    refine wTk 1 89 (.pointer (some ⟨B,0,none⟩)) ?_ ((fun _ _ _=>rfl)) ?_
    ·intro _ y;go_simp
    refine wTk 2 90 (.pointer (some ⟨B,0,none⟩)) ?_ ((fun _ _ _=>rfl)) ?_
    ·intro _ y;go_simp
    refine wTk 3 91 (.pointer (some ⟨B,0,none⟩)) ?_ ((fun _ _ _=>rfl)) ?_
    ·intro _ y;go_simp
    refine wTk 4 92 (.pointer (some ⟨B,1,none⟩)) ?_ ((fun _ _ _=>rfl)) ?_
    ·intro _ y;go_simp
    refine wTk 5 93 (.slice fq fl fc) ?_ ((fun _ _ _=>rfl)) ?_
    ·intro _ y;have c1:=(cB (y _ (qJ c1) hneB)).trans c1;go_simp
    refine wTk 6 94 (.agg #[.string ⟨x.toArray⟩, .int .i64 U0, .bool U1, .int .i64 pn, .slice vq j vc, .slice none 0 0]) ?_ ((fun _ _ _=>rfl)) ?_
    ·intro _ y;have f0:=(cB (y _ (qJ f0) hneF)).trans f0;have f1:=(cB (y _ (qJ f1) hneF)).trans f1;have f2:=(cB (y _ (qJ f2) hneF)).trans f2;have f3:=(cB (y _ (qJ f3) hneF)).trans f3;have f4:=(cB (y _ (qJ f4) hneF)).trans f4;have f5:=(cB (y _ (qJ f5) hneF)).trans f5;go_simp
    refine wOn 7 fun K hK=>?_
    go_simp;refine kK hK (fun b hb _=>Below.heap_alloc w6.drew _ b hb) ?_;clear hK K;refine wOn 8 fun K hK=>?_
    refine qQJ (lo:=L) (dd:=96) (news:=[.string ⟨x.toArray⟩, .int .i64 U0, .bool U1, .int .i64 pn, .slice vq j vc, .slice none 0 0]) underlying28 info40 (by decide) rfl (by decide) _ _ rfl rfl HROW.o.drew (by simp;omega) rfl rfl rfl rfl (by rw[<-HNEW.o];exact fnC_one _ rfl rfl) (by omega) (fun v9 w9 ho9 hg9 hbk9=>?_);obtain⟨q9,c9,rfl⟩:∃ q c,v9=.slice q (fl+1) c:=by
     rcases ho9.2 with⟨_,h0⟩ | ⟨g,cap,cur,rfl,_⟩
     ·omega
     ·exact⟨_,_,rfl⟩
    have S9:∀ b,b < w6.1.size->some b≠(Value.slice fq fl fc).ownBlock->w9.1[b]? = w6.1[b]?:=fun b hb hne=>(hg9.block b (by simp;omega) hne).trans (Below.heap_alloc w6.drew _ b hb)
    refine kK hK S9 ?_;clear hK K;refine wOn 9 fun K hK=>?_
    go_simp;refine kK hK S9 ?_;clear hK K;refine wOn 10 fun K hK=>?_
    go_simp;refine kK hK S9 ?_;clear hK K;refine wOn 11 fun K hK=>?_
    go_simp;refine kK hK S9 ?_;clear hK K;have hB6:B < w6.1.size:=qJ c1;have c19:=(cB (S9 B hB6 hneB)).trans c1;have f19:w9.frozen? ⟨B,1,none⟩=false:=(World.frozen?_of_block (S9 B hB6 hneB)).trans ((World.frozen?_of_block (HK6.o B hBr hBM)).trans (HWr.o.bf 1 (by omega)));have hs9:w6.1.size+1<=w9.1.size:=by have:=hg9.size;simpa using this
    refine wOn 12 fun K hK=>?_
    go_simp;refine kD hK ?_;clear hK K;refine wDn ?_ _;have HO9:=hI ho9;have HG9:=hI hg9;have HBK9:=hI hbk9;have HS9:=hI S9;have HC9:=hI c19;clear c1 f0 f1 f2 f3 f4 f5 c19 f19 ho9 hg9 hbk9 S9;go_wp2
    go_end0;have hxk:∀ b,b < wr.1.size->b≠Mf->some b≠(Value.slice fq fl fc).ownBlock->w9.1[b]? = wr.1[b]?:=fun b hb h2 h3=>(HS9.o b (by omega) h3).trans (HK6.o b hb h2)
    have base:∀ b,b < w.1.size->b≠B->b≠Mf->some b≠fv.ownBlock->(w9.setCell ⟨B,1,none⟩ (.slice q9 (fl+1) c9)).1[b]? = w.1[b]?:=fun b hb h1 h2 h3=>by
     rw[hS _ _ _ _ h1];refine(hxk b (by omega) h2 ?_).trans (HI.o.hb.block b hb);rw[<-HFV.o];exact h3
    have hwb:=HI.o.hb;have hT:jW L w (w9.setCell ⟨B,1,none⟩ (.slice q9 (fl+1) c9)):=⟨(rfl:(w9.setCell ⟨B,1,none⟩ (.slice q9 (fl+1) c9)).os=w9.os).trans (HG9.o.os.trans (HG6.o.os.trans hwb.os)),by simpa using HG9.o.tape.trans (HG6.o.tape.trans hwb.tape),(rfl:(w9.setCell ⟨B,1,none⟩ (.slice q9 (fl+1) c9)).output=w9.output).trans (HG9.o.output.trans (HG6.o.output.trans hwb.output)),by simp;omega,fun b hb hbL=>base b hb (by omega) (by omega) (fun e=>by have:=(H0.o.frow.lt b e.symm).1;omega)⟩;refine wP.okI (gv:=gv) (fv:=.slice q9 (fl+1) c9) HPW.o ?_ hT;have hBW9:(w9.setCell ⟨B,1,none⟩ (.slice q9 (fl+1) c9)).1.size=w9.1.size:=by simp
    have hnB:∀ g,(Value.slice vq j vc).ownBlock=some g->g≠B:=fun g hg=>by have:=(HI.o.vr.lt g hg).1;omega
    refine H0.o.func (fv':=.slice q9 (fl+1) c9) (f:=⟨⟨x,(U0,U1),acc⟩,acc, .slice vq j vc, .slice none 0 0⟩) (by rw[hBW9];omega) base (World.cell?_setCell_same _ _ _ HC9.o) ?_ ?_ ?_ ?_ ?_ ?_ ?_ ⟨rfl,HI.o.di,by show acc.length<=64;rw[HI.o.hl];exact HI.o.k64⟩ (by rw[<-HFL.o];exact hle)
    ·intro o ho;exact((World.cell?_setCell_other _ _ _ _ (by simpa using Ne.symm ho)).trans (cB (hxk B hBr hBM hneB))).trans (cB (hwb.block B hBw))
    ·intro o;exact((World.frozen?_setCell _ _ _ _).trans (World.frozen?_of_block (hxk B hBr hBM hneB))).trans (World.frozen?_of_block (hwb.block B hBw))
    ·exact(HWr.o.kb.turn (hxk B hBr hBM hneB)).set _ _ _
    ·refine wY.kept HM6.o ?_;rw[hS _ _ _ _ hBM.symm];exact HS9.o Mf (by omega) (fun e=>vU hM (hvk Mf e.symm).1 rfl)
    ·rw[<-HFL.o,HNEW.o];refine zU HO9.o (fun g hg=>hS _ _ _ _ ?_);rcases HBK9.o with h1 | h1
     ·rw[h1]at hg;exact(HWr.o.kb.ne (hvk g hg).1 (by decide)).symm
     ·rw[h1]at hg;injection hg with hg;simp at hg;show g≠B
      omega
    ·refine qX2 (zU HI.o.vr (fun g hg=>?_)) (by omega);have h1:=HI.o.vr.lt g hg;exact(hS _ _ _ _ (hnB g hg)).trans (hxk g h1.2 (by omega) (fun e=>by have:=(hvk g e.symm).2;omega))
    ·intro g hg;have:=(HI.o.vr.lt g hg).1;omega
def HdOk(t:qQ):Prop:=t.text.length<=1000000/\t.kids.length<=1000000/\((t.kind == qC)=true->∃ u ps z,t.kids=u :: (ps++[z])/\∀ a∈ps,a.text.length<=1000000/\a.kids≠[]) /\
 ((t.kind == qC)=false->(∃ u r,t.kids=u :: r)/\(((yE t).kind == zD)=false->(yE t).num=0)/\0<=(yE t).num/\(yE t).num < 18446744073709551616)
theorem wP.cases{B L Mg Mf Mr:Nat}{cl:vE}{p:CR HdS}{w w':World}{e:Ending}(h:wP B L Mg Mf Mr cl p w e w') :
 (∃ gs fs gv fv,p=.ok ⟨gs,fs.map (fun f=>f.h)⟩/\e=.returned (.tuple #[])/\HIn B L gs fs gv fv Mg Mf Mr cl (yV gs) w'/\jW L w w')\/∃ ln co code,p=.bad ln co code/\e=.panicked [{ v:=xO ln co code,recovered:=false }]/\jW L w w':=by
 cases p with
 | ok S=>obtain⟨h1,fs,gv,fv,h2,h3,h4⟩:=h;obtain⟨gs,hs⟩:=S;exact .inl ⟨gs,fs,gv,fv,by rw[show hs=_ from h2],h1,h3,h4⟩
 | bad ln co code=>exact .inr ⟨ln,co,code,rfl,h.1,h.2⟩
theorem qPI{ts:List qQ}{k:Nat}{S:HdS}(h:k < ts.length):yS (ts.drop k) S=(if ts[k].kind == qC then wF S ts[k]else qZ9 S ts[k]).bind fun S'=>yS (ts.drop (k+1)) S':=by
 rw[List.drop_eq_getElem_cons h,yS]
def HdRel(B L Mg Mf Mr:Nat)(cl:vE)(ts:List qQ)(S0:HdS)(W:World)(i:Value)(wr:World):Prop :=
 ∃ (k:Nat) (gs:List qI) (fs:List FnM) (gv fv:Value),k<=ts.length/\i=.int .i64 k/\HIn B L gs fs gv fv Mg Mf Mr cl (yV gs) wr/\jW L W wr/\yS ts S0=yS (ts.drop k) ⟨gs,fs.map (fun f=>f.h)⟩
theorem heads_any(B L:Nat)(gs0:List qI)(fs0:List FnM)(gv0 fv0:Value)(Mg Mf Mr:Nat)(cl:vE)(ts:List qQ)(q:Option Addr)(c:Nat)(W:World)(h:HIn B L gs0 fs0 gv0 fv0 Mg Mf Mr cl (yV gs0) W)(hL:L<=W.1.size)(hK:yD L W ts q)(hlen:ts.length<=1000000)
 (hok:∀ t∈ts,HdOk t) :
 Calls prog 65 #[.pointer (some ⟨B,0,none⟩), .slice q ts.length c] W (wP B L Mg Mf Mr cl (yS ts ⟨gs0,fs0.map (fun f=>f.h)⟩) W):=by
 have H0:=hI h;have HK:=hI hK;have HOK:=hI hok;have hBW:B < W.1.size:=qJ h.c0;clear h hK hok;go_enter func65,ntmps65
 go_wp2
 go_loopw [8] (fun i wr=>HdRel B L Mg Mf Mr cl ts ⟨gs0,fs0.map (fun f=>f.h)⟩ W i wr) (fun i _=>ts.length - (intOf i).toNat)
 case atStart=>exact⟨0,gs0,fs0,gv0,fv0,Nat.zero_le _,rfl,H0.o,jW.refl _ _,rfl⟩
 case round =>
  obtain⟨k,gs,fs,gv,fv,hk,rfl,hH,hT,hP⟩:=hrel;have HH:=hI hH;have HT:=hI hT;have HP:=hI hP;have hts:=hT.size;clear hH hT hP;by_cases hlt:k < ts.length
  ·obtain⟨g,off,rfl,hRN⟩:=(HK.o.low hL HT.o.block).resolve_left (fun e=>by rw[e]at hlt;simp at hlt);obtain⟨qa,na,ca,hla,hca⟩:=hRN.2 k hlt;have⟨k0,k1,k2,k3,k4,k5,_⟩:=hca.a;have HNB:=hI (Bx.new ts[k] (.slice qa na ca) wr);have HBA:=hI (bal (Below.refl wr.1.size wr) (qB ts[k] (.slice qa na ca)));have hszA:(wr.alloc (qB ts[k] (.slice qa na ca))).1.size=wr.1.size+1:=by simp
   have HLA:=hI (show xZ (wr.alloc (qB ts[k] (.slice qa na ca))) (· < L) ts[k] (.slice qa na ca)from xZ.move (fun g hg hok=>⟨hok,HBA.o.block g hg⟩) _ _ hla);have HH2:=hI (HH.o.below HBA.o);have HST:=hI (qPI (S:=⟨gs,fs.map (fun f=>f.h)⟩) hlt);have HO:=hI (HOK.o ts[k] (List.getElem_mem hlt));have hkl:(k:Int) < (ts.length:Nat):=by omega
   clear hca hla hRN;generalize hu:ts[k]=u at *;clear hu;have HTT:=hI (HT.o.trans (jW.of_below (L:=L) HBA.o));have hsL:L<=(wr.alloc (qB u (.slice qa na ca))).1.size:=by omega
   have HFU:=hI (fun(hkf:(u.kind == qC)=true)=>by
    obtain⟨h1,h2,h3,_⟩:=HO.o;obtain⟨a,ps,z,e1,e2⟩:=h3 hkf;exact qUN B L gs fs gv fv Mg Mf Mr cl u a z ps (.slice qa na ca) _ HH2.o hsL e1 HLA.o h1 h2 e2)
   have HGL:=hI (fun(hkf:(u.kind == qC)=false)=>by
    obtain⟨h1,h2,_,h3⟩:=HO.o;obtain⟨⟨a,r,e1⟩,e2,e3⟩:=h3 hkf;exact qL8 B L gs fs gv fv Mg Mf Mr cl u a r (.slice qa na ca) _ HH2.o hsL e1 HLA.o h1 h2 e2 e3)
   obtain⟨uk,ux,um,ul,uc,uks⟩:=u;cases hkf:(uk == qC);case true =>
    have HFU:=hI (HFU.o hkf);have HST:=hI (HST.o.trans (by rw[show((qQ.mk uk ux um ul uc uks).kind == qC)=true from hkf];rfl:_=(wF ⟨gs,fs.map (fun f=>f.h)⟩ (.mk uk ux um ul uc uks)).bind fun S'=>yS (ts.drop (k+1)) S'));unfold qC at hkf;clear HGL HO HLA;simp only[qS,qZ,qB,tQ]at *;go_wp2_with fail
    refine(HFU.o).mono ?_;rintro e w7 hX;rcases hX.cases with⟨gs',fs',gv',fv',hp,rfl,hH7,hT7⟩ | ⟨l',c',code,hp,rfl,hT7⟩;rotate_left
    ·exact⟨rfl,wP.badI (by rw[HP.o,HST.o,hp];rfl) (HTT.o.trans hT7)⟩
    have hPP:=HP.o.trans (HST.o.trans (by rw[hp];rfl:_=yS (ts.drop (k+1)) ⟨gs',fs'.map (fun f=>f.h)⟩));have HPP:=hI hPP;have HT7:=hI (HTT.o.trans hT7);have HH7:=hI hH7;clear hX hp hH7 hT7 hPP HFU HST HTT HH2 HNB HBA hsL hszA k0 k1 k2 k3 k4 k5;go_wp2
    refine⟨⟨k+1,gs',fs',gv',fv',by omega,rfl,HH7.o,HT7.o,HPP.o⟩,?_⟩;simp only[intOf];omega
   case false =>
    have HGL:=hI (HGL.o hkf);have HST:=hI (HST.o.trans (by rw[show((qQ.mk uk ux um ul uc uks).kind == qC)=false from hkf];rfl:_=(qZ9 ⟨gs,fs.map (fun f=>f.h)⟩ (.mk uk ux um ul uc uks)).bind fun S'=>yS (ts.drop (k+1)) S'));unfold qC at hkf;clear HFU HO HLA;simp only[qS,qZ,qB,tQ]at *;go_wp2_with fail
    refine(HGL.o).mono ?_;rintro e w7 hX;rcases hX.cases with⟨gs',fs',gv',fv',hp,rfl,hH7,hT7⟩ | ⟨l',c',code,hp,rfl,hT7⟩;rotate_left
    ·exact⟨rfl,wP.badI (by rw[HP.o,HST.o,hp];rfl) (HTT.o.trans hT7)⟩
    have hPP:=HP.o.trans (HST.o.trans (by rw[hp];rfl:_=yS (ts.drop (k+1)) ⟨gs',fs'.map (fun f=>f.h)⟩));have HPP:=hI hPP;have HT7:=hI (HTT.o.trans hT7);have HH7:=hI hH7;clear hX hp hH7 hT7 hPP HGL HST HTT HH2 HNB HBA hsL hszA k0 k1 k2 k3 k4 k5;go_wp2
    refine⟨⟨k+1,gs',fs',gv',fv',by omega,rfl,HH7.o,HT7.o,HPP.o⟩,?_⟩;simp only[intOf];omega
  ·have hke:k=ts.length:=by omega
   subst hke;have HPP:=hI (HP.o.trans (by rw[List.drop_length,yS]:_=.ok ⟨gs,fs.map (fun f=>f.h)⟩));go_wp2
   go_end0;exact wP.okI HPP.o HH.o HT.o
open Go Go.RowKit Go.Maps Go.WideMaps
def qQG(w:World)(b:Nat)(R:List (List UInt8×Nat))(c:vE):Prop :=
 ∃ D:DataW Value,w.ownsMap prog 9 qWY b R.length D/\IsMap D/\∀ x r,kE x R=some r->∀ z,D.atKey (.string x) z=.held (qKr c r)
theorem qQG.lt{w:World}{b:Nat}{R:List (List UInt8×Nat)}{c:vE}(h:qQG w b R c):b < w.1.size:=by
 obtain⟨D,h1,_⟩:=h;exact h1.lt
theorem qQG.kept{w w':World}{b:Nat}{R:List (List UInt8×Nat)}{c:vE}(h:qQG w b R c)(hb:w'.1[b]? = w.1[b]?):qQG w' b R c:=by
 obtain⟨D,⟨es,k,h1,h2⟩,h3⟩:=h;exact⟨D,⟨es,k,hb.trans h1,h2⟩,h3⟩
theorem qQG.isMap{w:World}{b:Nat}{R:List (List UInt8×Nat)}{c:vE}(h:qQG w b R c):∃ es k,w.1[b]? = some (Obj.map es k):=by
 obtain⟨D,⟨es,k,h1,_⟩,_⟩:=h;exact⟨es,k,h1⟩
theorem qQG.made(w:World)(c:vE):qQG (w.alloc (.map #[] 0)) w.1.size [] c :=
 ⟨.map [],World.ownsMap_made w _ _ _,isMap_empty,fun x r h=>by simp[kE]at h⟩
theorem qQG.full{w:World}{b:Nat}{c:vE}(h:qQG w b qQP c):qJs w b c:=by
 obtain⟨D,h1,_,h3⟩:=h;exact⟨_,D,h1,by decide,h3⟩
theorem qKq{x y:List UInt8}{r:Nat}:∀ {R:List (List UInt8×Nat)},kE y (R++[(x,r)])=match kE y R with | some q=>some q | none=>if x == y then some r else none
 | []=>by simp[kE]
 | (z,q) :: R=>by
  rw[lC,kE,kE];by_cases h:(z == y)=true
  ·rw[if_pos h,if_pos h]
  ·rw[if_neg h,if_neg h,qKq]
theorem qQG.put{w:World}{b:Nat}{R:List (List UInt8×Nat)}{c:vE}(h:qQG w b R c)(x:List UInt8)(r:Nat)(hx:x.length<=maxLen)(hn:kE x R=none)(hl:R.length < 1000) :
 ∃ w',(Instr.mapUpdate 118 (.map (some b)) (.string ⟨x.toArray⟩) (qKr c r)).run prog w=.ok () w'/\qQG w' b (R++[(x,r)]) c/\w.grownBy w' (some b):=by
 obtain⟨D,h1,h2,h3⟩:=h;have hkey:keyOf prog 9 (.string ⟨x.toArray⟩)=some (.string x):=keyOf_string_mk underlying9 (by simpa[ByteArray.size]using hx);obtain⟨w',hrun,hown,hg⟩:=h1.update Tryz.strKey underlying118 (by unfold maxLen;omega) hkey (d:=.held (qKr c r)) (ps:=[]) (val:=qKr c r) rfl;refine⟨w',hrun,⟨_,by simpa using hown,h2.put _ _,fun y q hy=>?_⟩,hg⟩;rw[qKq]at hy;by_cases hyx:x=y
 ·subst hyx;rw[hn]at hy;simp only[beq_self_eq_true,if_true,Option.some.injEq]at hy;subst hy;intro z;rw[atKey_put_same (k:=.string x) h2 trivial]
 ·have hne:(Lit.string y)≠.string x:=fun e=>hyx (Lit.string.inj e).symm
  intro z;rw[atKey_put_other hne];refine h3 y q ?_ z;cases hf:kE y R with
  | some q'=>rw[hf]at hy;exact hy
  | none=>rw[hf]at hy;simp[hyx]at hy
def PutRel(Mr:Nat)(c:vE)(R:List (List UInt8×Nat))(xs:List (List UInt8))(r:Nat)(W:World)(i:Value)(wr:World):Prop :=
 ∃ j:Nat,j<=xs.length/\i=.int .i64 j/\qQG wr Mr (R++(xs.take j).map fun x=>(x,r)) c/\W.grownBy wr (some Mr)
theorem cput_any(c:vE)(r f:Nat)(caps:Array Value)(xs:List (List UInt8))(g N8 Mr:Nat)(R:List (List UInt8×Nat))(w:World)(hf:qUZ c r=.func (.func f) #[] caps)(hM:w.cell? ⟨N8,0,none⟩=some (.map (some Mr)))(hR:qQG w Mr R c)
 (hxs:∀ i (h:i < xs.length),w.cell? ⟨g,i,none⟩=some (.string ⟨xs[i].toArray⟩)) (hl:∀ x∈xs,x.length<=1000) (hn:∀ i (h:i < xs.length),kE xs[i] (R++(xs.take i).map fun x=>(x,r))=none) (hR9:R.length+xs.length<=900) :
 Calls prog 84 #[.agg #[.bool (decide (r<=2)), .func (.func f) #[] caps], .slice (some ⟨g,0,none⟩) xs.length xs.length, .pointer (some ⟨N8,0,none⟩)] w fun e w'=>e=.returned (.tuple #[])/\qQG w' Mr (R++xs.map fun x=>(x,r)) c/\w.grownBy w' (some Mr):=by
 have hV:qKr c r=.agg #[.bool (decide (r<=2)), .func (.func f) #[] caps]:=by unfold qKr;rw[hf]
 have HV:=hI hV;generalize decide (r<=2)=bb at *;have HB:=hI (bal (Below.refl w.1.size w) (.cells #[.bool bb, .func (.func f) #[] caps] 140));have r0:(w.alloc (.cells #[.bool bb, .func (.func f) #[] caps] 140)).cell? ⟨w.1.size,0,none⟩=some (.bool bb):=by simp[go_sem]
 have r1:(w.alloc (.cells #[.bool bb, .func (.func f) #[] caps] 140)).cell? ⟨w.1.size,1,none⟩=some (.func (.func f) #[] caps):=by simp[go_sem]
 have HR:=hI (hR.kept (HB.o.block Mr hR.lt));have hM8:N8≠Mr:=fun e=>by
  subst e;obtain⟨es,k,h1⟩:=hR.isMap;simp[World.cell?,h1]at hM
 have hMl:=hR.lt;have hsz:(w.alloc (.cells #[.bool bb, .func (.func f) #[] caps] 140)).1.size=w.1.size+1:=by simp
 have m8:=(HB.o.cell (p:=⟨N8,0,none⟩) (qJ hM)).trans hM;have HXS:=hI (fun i h=>(HB.o.cell (p:=⟨g,i,none⟩) (qJ (hxs i h))).trans (hxs i h));have hgM:0 < xs.length->g≠Mr:=fun h0 e=>by
  have:=hxs 0 h0;subst e;obtain⟨es,k,h1⟩:=hR.isMap;simp[World.cell?,h1]at this
 have HL:=hI hl;have HN:=hI hn;have hxl:xs.length<=900:=by omega
 have HG:=hI (World.grownBy_alloc w (.cells #[.bool bb, .func (.func f) #[] caps] 140) (some Mr));clear hV hf hM hR hxs hl hn;go_enter func84,ntmps84
 go_wp2
 generalize (w.alloc _)=W at *;go_loopw [9] (fun i wr=>PutRel Mr c R xs r W i wr) (fun i _=>xs.length - (intOf i).toNat)
 case atStart=>exact⟨0,Nat.zero_le _,rfl,by simpa using HR.o,jS _ _⟩
 case round =>
  obtain⟨j,hj,rfl,hR,hg⟩:=hrel;have HRJ:=hI hR;have HGJ:=hI hg;have hgs:=hg.size;clear hR hg;by_cases hlt:j < xs.length
  ·have hjl:(j:Int) < (xs.length:Nat):=by omega
   have kc:∀ {b o:Nat} {u:Value},b≠Mr->W.cell? ⟨b,o,none⟩=some u->wr.cell? ⟨b,o,none⟩=some u:=fun hne hc=>(cB (HGJ.o.block _ (qJ hc) (fun e=>hne (by injection e)))).trans hc
   have m8:=kc hM8 m8;have r0:=kc (by omega) r0;have r1:=kc (by omega) r1;have xj:=kc (hgM (by omega)) (HXS.o j hlt);have HNJ:=hI (HN.o j hlt);have HLJ:=hI (HL.o xs[j] (List.getElem_mem hlt));have HTK:=hI (show(xs.take (j+1)).map (fun x=>(x,r))=(xs.take j).map (fun x=>(x,r))++[(xs[j],r)] by rw[List.take_succ_eq_append_getElem hlt,List.map_append];rfl);generalize xs[j]=y at *;obtain⟨w6,hrun,hr6,hg6⟩:=HRJ.o.put y r (by have:=HLJ.o;unfold maxLen;omega) HNJ.o (by simp;omega);rw[HV.o]at hrun;have HR6:=hI hr6;have HG6:=hI (qR HGJ.o hg6);clear hr6 hg6 kc;go_wp2
   have hjw:IntKind.i64.wrap ((j:Int)+1)=((j+1:Nat):Int):=by rw[IntWalk.i64_in _ (by omega)];omega
   try rw[hjw]
   refine⟨⟨j+1,by omega,rfl,by rw[HTK.o,<-List.append_assoc];exact HR6.o,HG6.o⟩,?_⟩;simp only[intOf];omega
  ·have hje:j=xs.length:=by omega
   have hjl:(xs.length:Int)<=(j:Nat):=by omega
   have HRF:=hI (show qQG wr Mr (R++xs.map fun x=>(x,r)) c by have:=HRJ.o;rw[hje,List.take_length]at this;exact this);clear hje;go_wp2
   go_end0;exact⟨rfl,HRF.o,qR HG.o HGJ.o⟩
theorem qYp(xs:List (List UInt8))(w:World)(T:TypeId)(i:Nat)(h:i < xs.length):(w.alloc (.cells (xs.map fun x=>Value.string ⟨x.toArray⟩).toArray T)).cell? ⟨w.1.size,i,none⟩=some (.string ⟨xs[i].toArray⟩):=by
 have hb:(w.alloc (.cells (xs.map fun x=>Value.string ⟨x.toArray⟩).toArray T)).1[w.1.size]? = some (.cells (xs.map fun x=>Value.string ⟨x.toArray⟩).toArray T (0,0)):=by
  unfold World.alloc;simp
 unfold World.cell?;rw[hb];simp[h]
theorem hp_new(w:World)(o:Obj):(w.alloc o).1[w.1.size]? = some o:=by
 unfold World.alloc;simp
theorem jX.new(w:World)(cs:Array Value)(T:TypeId):jX (w.alloc (.cells cs T)) w.1.size T:=⟨cs,(0,0),hp_new w _⟩
def qUX(r:Nat):List (List UInt8×Nat)->List (List UInt8)->Bool
 | _,[]=>true
 | R,x :: t=>(kE x R).isNone && qUX r (R++[(x,r)]) t
theorem qXg{r:Nat}:∀ {xs:List (List UInt8)} {R:List (List UInt8×Nat)},qUX r R xs=true->∀ i (h:i < xs.length),kE xs[i] (R++(xs.take i).map fun x=>(x,r))=none
 | x :: t,R,h,0,_=>by
  rw[qUX,bE]at h;simpa using Option.isNone_iff_eq_none.1 h.1
 | x :: t,R,h,i+1,hi=>by
  rw[qUX,bE]at h;have:=qXg h.2 i (by simpa using hi);simpa using this
theorem qJz(c:vE)(r f n:Nat)(caps:Array Value)(bb:Bool)(xs:List (List UInt8))(g N8 Mr:Nat)(R:List (List UInt8×Nat))(w:World)(hf:qUZ c r=.func (.func f) #[] caps)(hb:decide (r<=2)=bb)(hlen:xs.length=n)(hM:w.cell? ⟨N8,0,none⟩=some (.map (some Mr)))(hR:qQG w Mr R c)
 (hxs:∀ i (h:i < xs.length),w.cell? ⟨g,i,none⟩=some (.string ⟨xs[i].toArray⟩)) (hl:∀ x∈xs,x.length<=1000) (hn:∀ i (h:i < xs.length),kE xs[i] (R++(xs.take i).map fun x=>(x,r))=none) (hR9:R.length+xs.length<=900) :
 Calls prog 84 #[.agg #[.bool bb, .func (.func f) #[] caps], .slice (some ⟨g,0,none⟩) n n, .pointer (some ⟨N8,0,none⟩)] w fun e w'=>e=.returned (.tuple #[])/\qQG w' Mr (R++xs.map fun x=>(x,r)) c/\w.grownBy w' (some Mr):=by
 subst hb hlen;exact cput_any c r f caps xs g N8 Mr R w hf hM hR hxs hl hn hR9
theorem qJw{xs:List (List UInt8)}(h:xs.all (fun x=>decide (x.length<=1000))=true):∀ x∈xs,x.length<=1000:=fun x hx=>of_decide_eq_true (List.all_eq_true.1 h x hx)
structure OIn(B N1 N6 N8 Mr:Nat)(R:List (List UInt8×Nat))(w W:World):Prop where
 bl:Below w.1.size w W
 cc:W.cell? ⟨N1,0,none⟩=some (.pointer (some ⟨B,0,none⟩))
 ce:W.cell? ⟨N6,0,none⟩=some (.func (.func 81) #[] #[.pointer (some ⟨N1,0,none⟩)])
 m8:W.cell? ⟨N8,0,none⟩=some (.map (some Mr))
 rp:qQG W Mr R ⟨N1,N6⟩
 k1:jX W N1 135
 k6:jX W N6 136
 lo:w.1.size<=N1/\w.1.size<=N6/\w.1.size<=N8/\w.1.size<=Mr
 ne:N1≠Mr/\N6≠Mr/\N8≠Mr
theorem OIn.below{B N1 N6 N8 Mr:Nat}{R:List (List UInt8×Nat)}{w W W':World}(h:OIn B N1 N6 N8 Mr R w W)(hb:Below W.1.size W W'):OIn B N1 N6 N8 Mr R w W' :=
 ⟨h.bl.trans (hb.mono h.bl.size),kP hb h.cc,kP hb h.ce,kP hb h.m8,h.rp.kept (hb.block _ h.rp.lt),h.k1.turn (hb.block _ h.k1.lt),h.k6.turn (hb.block _ h.k6.lt),h.lo,h.ne⟩
theorem OIn.put{B N1 N6 N8 Mr:Nat}{R R':List (List UInt8×Nat)}{w W W':World}(h:OIn B N1 N6 N8 Mr R w W)(hg:W.grownBy W' (some Mr))(hr:qQG W' Mr R' ⟨N1,N6⟩):OIn B N1 N6 N8 Mr R' w W':=by
 have st:∀ b,b < W.1.size->b≠Mr->W'.1[b]? = W.1[b]?:=fun b hb hne=>hg.block b hb (fun e=>hne (by injection e))
 have hlo:=h.lo;have s1:=h.bl.size;have kc:∀ {b o:Nat} {u:Value},b≠Mr->W.cell? ⟨b,o,none⟩=some u->W'.cell? ⟨b,o,none⟩=some u:=fun hne hc=>(cB (st _ (qJ hc) hne)).trans hc
 exact⟨⟨hg.os.trans h.bl.os,hg.tape.trans h.bl.tape,hg.output.trans h.bl.output,Nat.le_trans s1 hg.size,fun b hb=>(st b (by omega) (by omega)).trans (h.bl.block b hb)⟩,kc h.ne.1 h.cc,kc h.ne.2.1 h.ce,kc h.ne.2.2 h.m8,hr,h.k1.turn (st _ h.k1.lt h.ne.1),h.k6.turn (st _ h.k6.lt h.ne.2.1),h.lo,h.ne⟩
theorem qYJ(B:Nat)(w:World) :
 Calls prog 64 #[.pointer (some ⟨B,0,none⟩)] w fun e w'=>∃ cl Mr,e=.returned (.map (some Mr))/\Below w.1.size w w'/\w'.cell? ⟨cl.c,0,none⟩=some (.pointer (some ⟨B,0,none⟩))/\w'.cell? ⟨cl.eq,0,none⟩=some (.func (.func 81) #[] #[.pointer (some ⟨cl.c,0,none⟩)])/\qJs w' Mr cl/\jX w' cl.c 135/\jX w' cl.eq 136/\w.1.size<=Mr:=by
 have hmm:=@run_makeMap prog;go_enter func64,ntmps64
 have hO:OIn B w.1.size (w.1.size+1) (w.1.size+1+1+1) (w.1.size+1+1) [] w ((((w.alloc (.cells #[.pointer (some ⟨B,0,none⟩)] 135)).alloc (.cells #[.func (.func 81) #[] #[.pointer (some ⟨w.1.size,0,none⟩)]] 136)).alloc (.map #[] 0)).alloc (.cells #[.map (some (w.1.size+1+1))] 118)):=by
  have h2:=qQG.made ((w.alloc (.cells #[.pointer (some ⟨B,0,none⟩)] 135)).alloc (.cells #[.func (.func 81) #[] #[.pointer (some ⟨w.1.size,0,none⟩)]] 136)) ⟨w.1.size,w.1.size+1⟩;rw[show((w.alloc (.cells #[.pointer (some ⟨B,0,none⟩)] 135)).alloc (.cells #[.func (.func 81) #[] #[.pointer (some ⟨w.1.size,0,none⟩)]] 136)).1.size=w.1.size+1+1 by simp]at h2;have k1:=(((jX.new w #[.pointer (some ⟨B,0,none⟩)] 135).turn (Below.heap_alloc _ (.cells #[.func (.func 81) #[] #[.pointer (some ⟨w.1.size,0,none⟩)]] 136) _ (by simp))).turn (Below.heap_alloc _ (.map #[] 0) _ (by simp;omega))).turn (Below.heap_alloc _ (.cells #[.map (some (w.1.size+1+1))] 118) _ (by simp;omega));have k6:=((jX.new (w.alloc (.cells #[.pointer (some ⟨B,0,none⟩)] 135)) #[.func (.func 81) #[] #[.pointer (some ⟨w.1.size,0,none⟩)]] 136).turn (Below.heap_alloc _ (.map #[] 0) _ (by simp))).turn (Below.heap_alloc _ (.cells #[.map (some (w.1.size+1+1))] 118) _ (by simp));rw[show(w.alloc (.cells #[.pointer (some ⟨B,0,none⟩)] 135)).1.size=w.1.size+1 by simp]at k6;exact⟨bal (bal (bal (bal (Below.refl _ _) _) _) _) _,by simp[go_sem],by simp[go_sem],by simp[go_sem],h2.kept (Below.heap_alloc _ _ _ (by simp)),k1,k6,by omega,by omega⟩
 have HO:=hI hO;clear hO;have hsz0:((((w.alloc (.cells #[.pointer (some ⟨B,0,none⟩)] 135)).alloc (.cells #[.func (.func 81) #[] #[.pointer (some ⟨w.1.size,0,none⟩)]] 136)).alloc (.map #[] 0)).alloc (.cells #[.map (some (w.1.size+1+1))] 118)).1.size=w.1.size+1+1+1+1:=by simp
 go_wp2_with fail
 clear hmm;generalize ((((w.alloc _).alloc _).alloc _).alloc _)=W0 at *;have HB:=hI (show Below W0.1.size W0 (W0.alloc (.cells #[.string ⟨#[117,33]⟩, .string ⟨#[38,38]⟩, .string ⟨#[124,124]⟩] 9))from bal (Below.refl _ _) _);have HO:=hI (HO.o.below HB.o);have HS:=hI (show ∀ i (h:i < ([[117,33],[38,38],[124,124]]:List (List UInt8)).length),(W0.alloc (.cells #[.string ⟨#[117,33]⟩, .string ⟨#[38,38]⟩, .string ⟨#[124,124]⟩] 9)).cell? ⟨W0.1.size,i,none⟩=some (.string ⟨(([[117,33],[38,38],[124,124]]:List (List UInt8))[i]).toArray⟩) by
  rw[show(.cells #[.string ⟨#[117,33]⟩, .string ⟨#[38,38]⟩, .string ⟨#[124,124]⟩] 9:Obj)=.cells (([[117,33],[38,38],[124,124]]:List (List UInt8)).map fun x=>Value.string ⟨x.toArray⟩).toArray 9 from rfl];exact qYp [[117,33],[38,38],[124,124]] W0 9)
 rw[hsz0]at HS;refine(qJz ⟨w.1.size,w.1.size+1⟩ 0 78 3 #[] true [[117,33],[38,38],[124,124]] (w.1.size+1+1+1+1) (w.1.size+1+1+1) (w.1.size+1+1) (qQP.take 0) _ rfl rfl rfl HO.o.m8 HO.o.rp HS.o (qJw (by kernel_rfl)) (qXg (by kernel_rfl)) (by simp only[qQP,List.take,List.length];omega)).mono ?_;rintro e W1 ⟨rfl,hr,hg⟩;have HO:=hI (HO.o.put (R':=qQP.take 3) hg hr);clear hr hg HB HS;have ce:=HO.o.ce;have m8:=HO.o.m8;go_wp2_with fail
 clear ce m8;have HB:=hI (show Below W1.1.size W1 (W1.alloc (.cells #[.string ⟨#[61,61]⟩, .string ⟨#[33,61]⟩] 9))from bal (Below.refl _ _) _);have HO:=hI (HO.o.below HB.o);have HS:=hI (show ∀ i (h:i < ([[61,61],[33,61]]:List (List UInt8)).length),(W1.alloc (.cells #[.string ⟨#[61,61]⟩, .string ⟨#[33,61]⟩] 9)).cell? ⟨W1.1.size,i,none⟩=some (.string ⟨(([[61,61],[33,61]]:List (List UInt8))[i]).toArray⟩) by
  rw[show(.cells #[.string ⟨#[61,61]⟩, .string ⟨#[33,61]⟩] 9:Obj)=.cells (([[61,61],[33,61]]:List (List UInt8)).map fun x=>Value.string ⟨x.toArray⟩).toArray 9 from rfl];exact qYp [[61,61],[33,61]] W1 9)
 refine(qJz ⟨w.1.size,w.1.size+1⟩ 1 81 2 #[.pointer (some ⟨w.1.size,0,none⟩)] true [[61,61],[33,61]] W1.1.size (w.1.size+1+1+1) (w.1.size+1+1) (qQP.take 3) _ rfl rfl rfl HO.o.m8 HO.o.rp HS.o (qJw (by kernel_rfl)) (qXg (by kernel_rfl)) (by simp only[qQP,List.take,List.length];omega)).mono ?_;rintro e W2 ⟨rfl,hr,hg⟩;have HO:=hI (HO.o.put (R':=qQP.take 5) hg hr);clear hr hg HB HS;have ce:=HO.o.ce;have m8:=HO.o.m8;go_wp2_with fail
 clear ce m8;have HB:=hI (show Below W2.1.size W2 (W2.alloc (.cells #[.string ⟨#[60]⟩, .string ⟨#[60,61]⟩, .string ⟨#[62]⟩, .string ⟨#[62,61]⟩] 9))from bal (Below.refl _ _) _);have HO:=hI (HO.o.below HB.o);have HS:=hI (show ∀ i (h:i < ([[60],[60,61],[62],[62,61]]:List (List UInt8)).length),(W2.alloc (.cells #[.string ⟨#[60]⟩, .string ⟨#[60,61]⟩, .string ⟨#[62]⟩, .string ⟨#[62,61]⟩] 9)).cell? ⟨W2.1.size,i,none⟩=some (.string ⟨(([[60],[60,61],[62],[62,61]]:List (List UInt8))[i]).toArray⟩) by
  rw[show(.cells #[.string ⟨#[60]⟩, .string ⟨#[60,61]⟩, .string ⟨#[62]⟩, .string ⟨#[62,61]⟩] 9:Obj)=.cells (([[60],[60,61],[62],[62,61]]:List (List UInt8)).map fun x=>Value.string ⟨x.toArray⟩).toArray 9 from rfl];exact qYp [[60],[60,61],[62],[62,61]] W2 9)
 refine(qJz ⟨w.1.size,w.1.size+1⟩ 2 83 4 #[.pointer (some ⟨w.1.size+1,0,none⟩)] true [[60],[60,61],[62],[62,61]] W2.1.size (w.1.size+1+1+1) (w.1.size+1+1) (qQP.take 5) _ rfl rfl rfl HO.o.m8 HO.o.rp HS.o (qJw (by kernel_rfl)) (qXg (by kernel_rfl)) (by simp only[qQP,List.take,List.length];omega)).mono ?_;rintro e W3 ⟨rfl,hr,hg⟩;have HO:=hI (HO.o.put (R':=qQP.take 9) hg hr);clear hr hg HB HS;have ce:=HO.o.ce;have m8:=HO.o.m8;go_wp2_with fail
 clear ce m8;have HB:=hI (show Below W3.1.size W3 (W3.alloc (.cells #[.string ⟨#[117,45]⟩, .string ⟨#[117,126]⟩, .string ⟨#[43]⟩, .string ⟨#[45]⟩, .string ⟨#[42]⟩, .string ⟨#[47]⟩, .string ⟨#[37]⟩, .string ⟨#[60,60]⟩, .string ⟨#[62,62]⟩] 9))from bal (Below.refl _ _) _);have HO:=hI (HO.o.below HB.o);have HS:=hI (show ∀ i (h:i < ([[117,45],[117,126],[43],[45],[42],[47],[37],[60,60],[62,62]]:List (List UInt8)).length),(W3.alloc (.cells #[.string ⟨#[117,45]⟩, .string ⟨#[117,126]⟩, .string ⟨#[43]⟩, .string ⟨#[45]⟩, .string ⟨#[42]⟩, .string ⟨#[47]⟩, .string ⟨#[37]⟩, .string ⟨#[60,60]⟩, .string ⟨#[62,62]⟩] 9)).cell? ⟨W3.1.size,i,none⟩=some (.string ⟨(([[117,45],[117,126],[43],[45],[42],[47],[37],[60,60],[62,62]]:List (List UInt8))[i]).toArray⟩) by
  rw[show(.cells #[.string ⟨#[117,45]⟩, .string ⟨#[117,126]⟩, .string ⟨#[43]⟩, .string ⟨#[45]⟩, .string ⟨#[42]⟩, .string ⟨#[47]⟩, .string ⟨#[37]⟩, .string ⟨#[60,60]⟩, .string ⟨#[62,62]⟩] 9:Obj)=.cells (([[117,45],[117,126],[43],[45],[42],[47],[37],[60,60],[62,62]]:List (List UInt8)).map fun x=>Value.string ⟨x.toArray⟩).toArray 9 from rfl];exact qYp [[117,45],[117,126],[43],[45],[42],[47],[37],[60,60],[62,62]] W3 9)
 refine(qJz ⟨w.1.size,w.1.size+1⟩ 3 79 9 #[] false [[117,45],[117,126],[43],[45],[42],[47],[37],[60,60],[62,62]] W3.1.size (w.1.size+1+1+1) (w.1.size+1+1) (qQP.take 9) _ rfl rfl rfl HO.o.m8 HO.o.rp HS.o (qJw (by kernel_rfl)) (qXg (by kernel_rfl)) (by simp only[qQP,List.take,List.length];omega)).mono ?_;rintro e W4 ⟨rfl,hr,hg⟩;have HO:=hI (HO.o.put (R':=qQP.take 18) hg hr);clear hr hg HB HS;have ce:=HO.o.ce;have m8:=HO.o.m8;go_wp2_with fail
 clear ce m8;have HB:=hI (show Below W4.1.size W4 (W4.alloc (.cells #[.string ⟨#[38]⟩, .string ⟨#[124]⟩, .string ⟨#[94]⟩] 9))from bal (Below.refl _ _) _);have HO:=hI (HO.o.below HB.o);have HS:=hI (show ∀ i (h:i < ([[38],[124],[94]]:List (List UInt8)).length),(W4.alloc (.cells #[.string ⟨#[38]⟩, .string ⟨#[124]⟩, .string ⟨#[94]⟩] 9)).cell? ⟨W4.1.size,i,none⟩=some (.string ⟨(([[38],[124],[94]]:List (List UInt8))[i]).toArray⟩) by
  rw[show(.cells #[.string ⟨#[38]⟩, .string ⟨#[124]⟩, .string ⟨#[94]⟩] 9:Obj)=.cells (([[38],[124],[94]]:List (List UInt8)).map fun x=>Value.string ⟨x.toArray⟩).toArray 9 from rfl];exact qYp [[38],[124],[94]] W4 9)
 refine(qJz ⟨w.1.size,w.1.size+1⟩ 4 80 3 #[] false [[38],[124],[94]] W4.1.size (w.1.size+1+1+1) (w.1.size+1+1) (qQP.take 18) _ rfl rfl rfl HO.o.m8 HO.o.rp HS.o (qJw (by kernel_rfl)) (qXg (by kernel_rfl)) (by simp only[qQP,List.take,List.length];omega)).mono ?_;rintro e W5 ⟨rfl,hr,hg⟩;have HO:=hI (HO.o.put (R':=qQP.take 21) hg hr);clear hr hg HB HS;have m8:=HO.o.m8;go_wp2
 go_ret;exact⟨⟨w.1.size,w.1.size+1⟩,w.1.size+1+1,rfl,HO.o.bl,HO.o.cc,HO.o.ce,HO.o.rp.full,HO.o.k1,HO.o.k6,by omega⟩
def qVd(fs:List kI):CR Int :=
 match qQN qZf 0 fs with
 | some (h,i)=>if h.params.length=0 then .ok i else .bad 0 0 44
 | none=>.bad 0 0 44
def qXP(B:Nat)(p:CR Int)(w:World)(e:Ending)(w':World):Prop :=
 match p with
 | .ok i=>e=.returned (.tuple #[])/\∃ w4,Below w.1.size w w4/\w'=w4.setCell ⟨B,2,none⟩ (.int .i64 i)
 | .bad ln co code=>e=.panicked [{ v:=xO ln co code,recovered:=false }]/\Below w.1.size w w'
theorem qXP.okI{B:Nat}{p:CR Int}{w w4:World}{i:Int}(hp:p=.ok i)(hb:Below w.1.size w w4):qXP B p w (.returned (.tuple #[])) (w4.setCell ⟨B,2,none⟩ (.int .i64 i)):=by
 rw[hp];exact⟨rfl,w4,hb,rfl⟩
theorem qXP.badI{B:Nat}{p:CR Int}{w w':World}{ln co code:Int}(hp:p=.bad ln co code)(hb:Below w.1.size w w'):qXP B p w (.panicked [{ v:=xO ln co code,recovered:=false }]) w':=by
 rw[hp];exact⟨rfl,hb⟩
theorem start_any(B L:Nat)(gs:List qI)(fs:List FnM)(FC Mf:Nat)(gv:Value)(Mg Mr F:Nat)(cl:vE)(w:World)(h:BIn B L gs fs FC Mf gv Mg Mr F cl w) :
 Calls prog 67 #[.pointer (some ⟨B,0,none⟩)] w (qXP B (qVd (fs.map (fun f=>f.h))) w):=by
 have H0:=hI h;have c1:=h.c1;have c4:=h.c4;have hfl:=h.fl;have HNA:=hI (fun b w'=>qQk b (.mk [] [] 0 0 0 []) (.slice none 0 0) 44 w');simp only[qZ,tQ]at HNA;have HP:=hI (show qVd (fs.map (fun f=>f.h))=match qQN qZf 0 (fs.map (fun f=>f.h))with
  | some (h,i)=>if h.params.length=0 then .ok (i:Int)else .bad 0 0 44
  | none=>.bad 0 0 44 from rfl)
 have hlk:=h.fm.look qZf (by unfold qZf maxLen;simp);cases hl:qQN qZf 0 (fs.map (fun f=>f.h))with
 | none =>
  obtain⟨e1,e2⟩:=qKJ hl;have HPN:=hI (HP.o.trans (by rw[hl]:_=.bad 0 0 44));have hm:((fs.map (·.h)).map (·.name))=((fs.map (fun f=>f.h)).map (·.name)):=rfl;rw[hm,e1,e2]at hlk;unfold qZf at hlk;clear h hl e1 e2 HP hm;go_enter func67,ntmps67
  go_wp2_with fail
  refine(HNA.o _ _).mono ?_;rintro e w4 (⟨hbt,rfl,hb4⟩ | ⟨hbt,rfl,hb4⟩)
  ·cases hbt
  ·exact⟨rfl,qXP.badI HPN.o hb4⟩
 | some p =>
  obtain⟨p1,p2⟩:=p;obtain⟨e1,e2,hi,e3⟩:=qJK hl;have HPN:=hI (HP.o.trans (by rw[hl]:_=if p1.params.length=0 then .ok (p2:Int)else .bad 0 0 44));have hm:((fs.map (·.h)).map (·.name))=((fs.map (fun f=>f.h)).map (·.name)):=rfl;rw[hm,e1,e2]at hlk;rw[List.length_map]at hi;obtain⟨f0,f1,f2,f3,f4,f5⟩:=qZv h.frow hi;rw[List.getElem_map]at e3;rw[e3]at f3;have hi63:(p2:Int) < (fs.length:Nat):=by omega
  unfold qZf at hlk;clear h hl e1 e2 HP hm f0 f1 f2 f4 f5;obtain⟨c2u,c2⟩:=H0.o.c2;have b2:=H0.o.bf 2 (by omega);have hBl:B < w.1.size:=qJ c2;go_enter func67,ntmps67
  go_wp2_with fail
  refine(HNA.o _ _).mono ?_;rintro e w4 (⟨hbt,rfl,hb4⟩ | ⟨hbt,rfl,hb4⟩)
  ·have hpl:p1.params.length=0:=by
    have:=of_decide_eq_true hbt;omega
   have HPO:=hI (HPN.o.trans (by rw[if_pos hpl]:_=.ok (p2:Int)));have HB4:=hI hb4;have c2:=kP hb4 c2;have b2:=(hb4.frozen (p:=⟨B,2,none⟩) hBl).trans b2;clear hbt hb4 f3 c1 c4 hlk;go_wp2
   go_end0;exact qXP.okI HPO.o HB4.o
  ·have hpl:¬p1.params.length=0:=by
    intro e;have:=of_decide_eq_false hbt;omega
   exact⟨rfl,qXP.badI (HPN.o.trans (if_neg hpl)) hb4⟩
theorem qPm(p q:Addr)(w:World) :
 CallsD prog 63 #[.pointer (some p), .pointer (some q)] .returning w fun e u' w'=>e=.returned (.tuple #[])/\u'=.returning/\w'=w:=by
 refine callsD_of_wpS func63 rfl fun c₀ cs hu=>?_
 apply wpS_seq;apply wpS_region;simp[wpOpsS,go_sem,recoverD,hu,ntmps63,Exit.thenS];refine wpS_of_wp ?_;change Code.wp _ _ _ { tmps:=#[.pointer (some p), .pointer (some q), .nilIface, .nilIface,undef,undef,undef,undef,undef],defers:=[] } w;generalize hQ:(fun e a' w'=>bodyPostS prog f63 c₀ cs (fun e u' w'=>e=Ending.returned (.tuple #[])/\u'=FrameMode.returning/\w'=w) e a' (c₀ :: cs) w')=Q;go_wp2
 rw[<-hQ];refine⟨rfl, .returning,?_, .tuple #[],by simp[results,results63],rfl,rfl,rfl⟩;cases c₀;simp_all
theorem qYG(v:Value)(w:World):(Instr.typeAssert (.iface 97 v) 20 97 false).run prog w=.ok v w:=by kernel_rfl
structure qKx(b:Nat)(gv fv:Value)(n:Int)(w:World):Prop where
 c0:w.cell? ⟨b,0,none⟩=some gv
 c1:w.cell? ⟨b,1,none⟩=some fv
 c2:w.cell? ⟨b,2,none⟩=some (.int .i64 n)
 f:∀ k,k < 3->w.frozen? ⟨b,k,none⟩=false
theorem qKx.a{b:Nat}{gv fv:Value}{n:Int}{w:World}(h:qKx b gv fv n w):w.cell? ⟨b,0,none⟩=some gv/\w.cell? ⟨b,1,none⟩=some fv/\w.cell? ⟨b,2,none⟩=some (.int .i64 n)/\True:=⟨h.c0,h.c1,h.c2,trivial⟩
theorem qKx.b{b:Nat}{gv fv:Value}{n:Int}{w:World}(h:qKx b gv fv n w):w.frozen? ⟨b,0,none⟩=false/\w.frozen? ⟨b,1,none⟩=false/\w.frozen? ⟨b,2,none⟩=false/\True:=⟨h.f 0 (by decide),h.f 1 (by decide),h.f 2 (by decide),trivial⟩
theorem qKx.turn{b:Nat}{gv fv:Value}{n:Int}{w w':World}(h:qKx b gv fv n w)(hb:w'.1[b]? = w.1[b]?):qKx b gv fv n w' :=
 have e:=fun {o:Nat} {u:Value} (e:w.cell? ⟨b,o,none⟩=some u)=>(cB (w:=w) (w':=w') (a:=⟨b,o,none⟩) hb).trans e
 ⟨e h.c0,e h.c1,e h.c2,fun j hj=>(World.frozen?_of_block hb).trans (h.f j hj)⟩
theorem qQE.turn{b:Nat}{x y z:Int}{w w':World}(h:qQE b x y z w)(hb:w'.1[b]? = w.1[b]?):qQE b x y z w' :=
 have e:=fun {o:Nat} {u:Value} (e:w.cell? ⟨b,o,none⟩=some u)=>(cB (w:=w) (w':=w') (a:=⟨b,o,none⟩) hb).trans e
 ⟨e h.c0,e h.c1,e h.c2,fun j hj=>(World.frozen?_of_block hb).trans (h.f j hj)⟩
theorem qQS(b c:Nat)(ln co code x y z:Int)(gv fv:Value)(n:Int)(w:World)(hb:qKx b gv fv n w)(hc:qQE c x y z w)(hne:¬b=c)(hg1:∃ q m k,gv=.slice q m k)(hf1:∃ q m k,fv=.slice q m k) :
 CallsD prog 63 #[.pointer (some ⟨b,0,none⟩), .pointer (some ⟨c,0,none⟩)] (.panicking [{ v:=xO ln co code,recovered:=false }]) w fun e u' w' =>
  e=.returned (.tuple #[])/\u'=.panicking [{ v:=xO ln co code,recovered:=true }]/\qKx b (.slice none 0 0) (.slice none 0 0) 0 w'/\qQE c ln co code w'/\∀ w0:World,Below w0.1.size w0 w->w0.1.size<=b->w0.1.size<=c->Below w0.1.size w0 w':=by
 unfold xO;obtain⟨gq,gm,gk,rfl⟩:=hg1;obtain⟨fq,fm,fk,rfl⟩:=hf1;refine callsD_of_wpS func63 rfl fun c₀ cs hu=>?_
 apply wpS_seq;apply wpS_region;simp[wpOpsS,go_sem,recoverD,hu,ntmps63,Exit.thenS];refine wpS_of_wp ?_;change Code.wp _ _ _ { tmps:=#[.pointer (some ⟨b,0,none⟩), .pointer (some ⟨c,0,none⟩), .iface 97 (.agg #[.int .i64 ln, .int .i64 co, .int .i64 code]), .iface 97 (.agg #[.int .i64 ln, .int .i64 co, .int .i64 code]),undef,undef,undef,undef,undef],defers:=[] } w;have⟨r0,r1,r2,_⟩:=hb.a;have⟨g0,g1,g2,_⟩:=hb.b;have⟨s0,s1,s2,_⟩:=hc.a;have⟨k0,k1,k2,_⟩:=hc.b;have hne':¬c=b:=fun e=>hne e.symm
 have hta:=qYG;go_wp2
 go_region
 refine⟨rfl, .panicking [{ v:=.iface 97 (.agg #[.int .i64 ln, .int .i64 co, .int .i64 code]),recovered:=true }],rfl, .tuple #[],by simp[results,results63],rfl,rfl,⟨?_,?_,?_,?_⟩,⟨?_,?_,?_,?_⟩,fun w0 h h1 h2=>?_⟩;case refine_4=>intro k hk;have:=hb.f k hk;simp[go_sem, *]
 case refine_8=>intro k hk;have:=hc.f k hk;simp[go_sem, *]
 case refine_9=>exact(jR (jR (jR (jR (jR (jR h h1 _) h1 _) h1 _) h2 _) h2 _) h2 _).drew
 all_goals simp[go_sem, *]
theorem checkC_at(t:qQ):qZb t=(yS t.kids ⟨[],[]⟩).bind fun S=>(vG S.gs S.fs t.kids S.fs).bind fun l=>(qVd S.fs).bind fun i=>.ok ⟨S.gs,l,i⟩:=by
 unfold qZb;congr 1
 funext S
 congr 1
 funext l
 unfold qVd;cases qQN qZf 0 S.fs with
 | none=>rfl
 | some p =>
  obtain⟨h,i⟩:=p;simp only;split <;> rfl
theorem qXc{α β:Type}{p:CR α}{f:α->CR β}{b:β}(h:p.bind f=.ok b):∃ a,p=.ok a/\f a=.ok b:=by
 cases p with
 | ok a=>exact⟨a,rfl,h⟩
 | bad x y z=>cases h
theorem qKH:∀ {ts:List qQ} {S S':HdS},yS ts S=.ok S'->S'.fs.length=S.fs.length+qXI ts
 | [],S,S',h=>by rw[yS]at h;injection h with h;subst h;simp[qXI]
 | t :: r,S,S',h=>by
  rw[yS]at h;cases hk:(t.kind == qC)with
  | true =>
   rw[hk]at h;simp only[if_true]at h;cases hp:wF S t with
   | bad a b c=>rw[hp]at h;cases h
   | ok S1 =>
    rw[hp]at h;have:=qKH (show yS r S1=.ok S' from h);have h1:S1.fs.length=S.fs.length+1:=by
     unfold wF at hp;obtain⟨_,_,hp⟩:=qXc hp;obtain⟨_,_,hp⟩:=qXc hp;obtain⟨_,_,hp⟩:=qXc hp;injection hp with hp;subst hp;simp
    have h2:qXI (t :: r)=qXI r+1:=by simp[qXI,List.filter_cons,hk]
    omega
  | false =>
   rw[hk]at h;simp only[bF,if_false]at h;cases hp:qZ9 S t with
   | bad a b c=>rw[hp]at h;cases h
   | ok S1 =>
    rw[hp]at h;have:=qKH (show yS r S1=.ok S' from h);have h1:S1.fs.length=S.fs.length:=by
     rw[qWW]at hp;obtain⟨_,_,hp⟩:=qXc hp;obtain⟨_,_,hp⟩:=qXc hp;obtain⟨_,_,hp⟩:=qXc hp;injection hp with hp;subst hp;rfl
    have h2:qXI (t :: r)=qXI r:=by simp[qXI,List.filter_cons,hk]
    omega
end Go.Proofs.YtiajhekdhhhghaaGreatDoor
