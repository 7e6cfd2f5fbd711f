/- Walks. -/
import Derived.Test.YtiajhekdhhhghaaGreatDoorMai
set_option linter.all false
set_option maxHeartbeats 8000000
set_option maxRecDepth 100000
namespace Go.Proofs.YtiajhekdhhhghaaGreatDoor
open Tryz Go.Proofs.Tryz
open Go Go.RowKit
structure BIn(B L:Nat)(gs:List qI)(fs:List FnM)(FC Mf:Nat)(gv:Value)(Mg Mr F:Nat)(cl:vE)(w:World):Prop where
 c0:w.cell? ⟨B,0,none⟩=some gv
 c1:w.cell? ⟨B,1,none⟩=some (.slice (some ⟨F,0,none⟩) fs.length FC)
 c3:w.cell? ⟨B,3,none⟩=some (.map (some Mg))
 c4:w.cell? ⟨B,4,none⟩=some (.map (some Mf))
 c6:w.cell? ⟨B,6,none⟩=some (.map (some Mr))
 c2:∃ u,w.cell? ⟨B,2,none⟩=some u
 c7:∃ u,w.cell? ⟨B,7,none⟩=some u
 c8:∃ u,w.cell? ⟨B,8,none⟩=some u
 bf:∀ k,k < 9->w.frozen? ⟨B,k,none⟩=false
 frow:w.ownsRow 0 40 6 (.slice (some ⟨F,0,none⟩) fs.length FC) fs.length (xD fnC fs)
 vrow:∀ f∈fs,qQI w 0 f.vars f.vv
 grow:qQI w 0 gs gv
 gm:wY w Mg (gs.map (·.name))
 fm:wY w Mf ((fs.map (·.h)).map (·.name))
 rm:qJs w Mr cl
 cc:w.cell? ⟨cl.c,0,none⟩=some (.pointer (some ⟨B,0,none⟩))
 ce:w.cell? ⟨cl.eq,0,none⟩=some (.func (.func 81) #[] #[.pointer (some ⟨cl.c,0,none⟩)])
 b0:w.cell? ⟨1,0,none⟩=some (.int .i64 1)
 b1:w.cell? ⟨1,1,none⟩=some (.bool false)
 d0:w.cell? ⟨2,0,none⟩=some (.int .i64 64)
 d1:w.cell? ⟨2,1,none⟩=some (.bool false)
 gl:gs.length<=64
 fl:fs.length<=16
 vl:∀ f∈fs,f.vars.length<=64
 par:∀ f∈fs,∃ rest,f.vars=f.h.params++rest
 kb:jX w B 121
 kc:jX w cl.c 135
 ke:jX w cl.eq 136
 lo:L<=F/\4 < L/\L<=B
 lv:∀ j,j < fs.length->∀ g,(fs.getD j noF).vv.ownBlock=some g->L<=g/\some g≠gv.ownBlock/\∀ i,i < fs.length->i≠j->some g≠(fs.getD i noF).vv.ownBlock
 wt:∃ b off cap,qZo b off cap w/\b < L
theorem qJs.kept{w w':World}{b:Nat}{c:vE}(h:qJs w b c)(hb:w'.1[b]? = w.1[b]?):qJs w' b c:=by
 obtain⟨n,D,⟨es,k,h1,h2⟩,h3⟩:=h;exact⟨n,D,⟨es,k,hb.trans h1,h2⟩,h3⟩
theorem qZo.low{b off cap L:Nat}{w w':World}(h:qZo b off cap w)(hb:b < L)(h4:4 < L)(hL:∀ k,k < w.1.size->k < L->w'.1[k]? = w.1[k]?):qZo b off cap w':=by
 have kcell:∀ {b o u},w'.1[b]? = w.1[b]?->w.cell? ⟨b,o,none⟩=some u->w'.cell? ⟨b,o,none⟩=some u:=fun hb hc=>(cB hb).trans hc
 have s4:=hL 4 (qJ h.tg) h4;have sb:w'.1[b]? = w.1[b]?:=hL b (qJ (h.tn 0 (by omega))) hb;exact⟨kcell s4 h.tg,fun i hi=>kcell sb (h.tn i hi),fun i hi=>kcell sb (h.tw i hi),fun i hi=>kcell sb (h.ts i hi)⟩
section
variable {B L:Nat} {gs:List qI} {fs:List FnM} {ci FC Mf:Nat} {gv:Value} {Mg Mo Mr F:Nat} {cl:vE} {w w' w2:World}
theorem qZN(h:∀ f∈fs,qQI w 0 f.vars f.vv){j:Nat}(hj:j < fs.length):qQI w 0 (fs.getD j noF).vars (fs.getD j noF).vv:=by
 rw[yY hj];exact h _ (List.getElem_mem _)
theorem BIn.enter(h:BIn B L gs fs FC Mf gv Mg Mr F cl w)(hi:ci < fs.length)(hMo:w.1.size<=Mo)
 (c7:w2.cell? ⟨B,7,none⟩=some (.pointer (some ⟨F,ci * 6,none⟩))) (c8:w2.cell? ⟨B,8,none⟩=some (.map (some Mo)))
 (cBq:∀ o,o≠7->o≠8->w2.cell? ⟨B,o,none⟩=w.cell? ⟨B,o,none⟩) (kB:jX w2 B 121) (om:wY w2 Mo ((fs.getD ci noF).vars.map (·.name)))
 (st:∀ k,k < w.1.size->k≠B->w2.1[k]? = w.1[k]?):WIn B L gs fs ci FC Mf gv Mg Mo Mr F cl w2:=by
 have kF:jX w F 40:=zE h.frow rfl;have sK:∀ {b S},jX w b S->S≠121->w2.1[b]? = w.1[b]?:=fun k hSq=>st _ k.lt (k.ne h.kb hSq)
 have sM:∀ {b},(∃ es c,w.1[b]? = some (Obj.map es c))->w2.1[b]? = w.1[b]?:=fun k=>st _ (by obtain⟨es,c,k⟩:=k;exact qZF k) (vU k h.kb)
 have sL:∀ b,b < w.1.size->b < L->w2.1[b]? = w.1[b]?:=fun b hb hL=>st b hb (by have:=h.lo;omega)
 have kcell:∀ {b o u},w2.1[b]? = w.1[b]?->w.cell? ⟨b,o,none⟩=some u->w2.cell? ⟨b,o,none⟩=some u:=fun hb hc=>(cB hb).trans hc
 have sV:∀ j,j < fs.length->∀ g,(fs.getD j noF).vv.ownBlock=some g->w2.1[g]? = w.1[g]?:=fun j hj g hg=>sK (zE (qZN h.vrow hj) hg) (by decide)
 have sG:∀ g,gv.ownBlock=some g->w2.1[g]? = w.1[g]?:=fun g hg=>sK (zE h.grow hg) (by decide)
 have r1:=sL 1 (qJ h.b0) (by have:=h.lo;omega);have r2:=sL 2 (qJ h.d0) (by have:=h.lo;omega);obtain⟨b,off,cap,hwt,hbL⟩:=h.wt;have hwt':=hwt.low hbL h.lo.2.1 sL;have hvi:=qZN h.vrow hi;have hMoM:Mo≠Mg/\Mo≠Mf/\Mo≠Mr:=⟨by have:=h.gm.lt;omega,by have:=h.fm.lt;omega,by have:=h.rm.lt;omega⟩;obtain⟨f0,f1,f2,f3,f4,f5⟩:=qZv h.frow hi;rw[<-yY hi]at f4;refine⟨⟨hi,⟨(cBq 0 (by omega) (by omega)).trans h.c0,(cBq 3 (by omega) (by omega)).trans h.c3,(cBq 6 (by omega) (by omega)).trans h.c6,c7,c8,kcell (sK kF (by decide)) f4,zU h.grow sG,zU hvi (sV ci hi),h.gm.kept (sM h.gm.isMap),om,
  h.rm.kept (sM h.rm.isMap),kcell (sK h.kc (by decide)) h.cc,kcell (sK h.ke (by decide)) h.ce,⟨b,off,cap,hwt'⟩,kcell r1 h.b0,kcell r1 h.b1,kcell r2 h.d0,kcell r2 h.d1,h.gl,h.vl _ (by rw[yY hi];exact List.getElem_mem _)⟩,
  (cBq 1 (by omega) (by omega)).trans h.c1,(cBq 4 (by omega) (by omega)).trans h.c4,zU h.frow (fun g hg=>by injection hg with hg;subst hg;exact sK kF (by decide)),fun f hf=>?_,h.fm.kept (sM h.fm.isMap),h.par,h.fl,h.vl⟩,
  kB,h.kc.turn (sK h.kc (by decide)),h.ke.turn (sK h.ke (by decide)),hMoM.1,hMoM.2.1,hMoM.2.2,⟨by have:=h.frow.lt F rfl;have:=h.lo;omega,h.lo.1,h.lo.2.1,h.lo.2.2⟩,fun g hg=>?_,b,off,cap,hwt',hbL⟩
 ·obtain⟨j,hj,rfl⟩:=qZQ hf;exact zU (qZN h.vrow hj) (sV j hj)
 ·obtain⟨a1,a2,a3⟩:=h.lv ci hi g hg;exact⟨a1,a2,fun j hj hne=>a3 j hj hne⟩
def setF(fs:List FnM)(ci:Nat)(own:List qI)(vv bv:Value):List FnM:=fs.set ci { fs.getD ci noF with vars:=own,vv:=vv,bv:=bv }
theorem qWu(h:ci < fs.length)(own:List qI)(vv bv:Value):(setF fs ci own vv bv).getD ci noF={ fs.getD ci noF with vars:=own,vv:=vv,bv:=bv }:=by
 simp[setF,List.getD_eq_getElem?_getD,h]
theorem qZd{j:Nat}(h:j≠ci)(own:List qI)(vv bv:Value):(setF fs ci own vv bv).getD j noF=fs.getD j noF:=by
 simp[setF,List.getD_eq_getElem?_getD,List.getElem?_set,Ne.symm h]
theorem qYk(h:ci < fs.length)(own:List qI)(vv bv:Value):(setF fs ci own vv bv).map (·.h)=fs.map (·.h):=by
 apply List.ext_getElem?;intro i;by_cases hi:i=ci
 ·subst hi;simp[setF,List.getD_eq_getElem?_getD,h]
 ·simp[setF,List.getElem?_set,Ne.symm hi]
theorem qQo(fs:List FnM)(ci:Nat)(own:List qI)(vv bv:Value):(setF fs ci own vv bv).length=fs.length:=by simp[setF]
theorem setF_turn(fs:List FnM)(ci:Nat)(h:ci < fs.length)(own:List qI)(vv bv:Value):setF (xU fs ci own vv) ci own vv bv=setF fs ci own vv bv:=by
 have e:=qZC h own vv;unfold setF;rw[e];unfold xU;rw[List.set_set]
theorem WIn.leave(h:WIn B L gs fs ci FC Mf gv Mg Mo Mr F cl w)(bf:∀ k,k < 9->w.frozen? ⟨B,k,none⟩=false)(c2:∃ u,w.cell? ⟨B,2,none⟩=some u)
 (lv:∀ j,j < fs.length->∀ g,(fs.getD j noF).vv.ownBlock=some g->L<=g/\some g≠gv.ownBlock/\∀ i,i < fs.length->i≠j->some g≠(fs.getD i noF).vv.ownBlock) (bv:Value) :
 BIn B L gs (setF fs ci (fs.getD ci noF).vars (fs.getD ci noF).vv bv) FC Mf gv Mg Mr F cl (w.setCell ⟨F,ci * 6+5,none⟩ bv):=by
 have hi:=h.rd.hi;have e:=h.rd.en;have kF:jX w F 40:=zE h.rd.frow rfl;have st:∀ k,k≠F->(w.setCell ⟨F,ci * 6+5,none⟩ bv).1[k]? = w.1[k]?:=fun k hk=>hS w ⟨F,ci * 6+5,none⟩ bv k hk
 generalize hw2:w.setCell ⟨F,ci * 6+5,none⟩ bv=w2 at *;have sK:∀ {b S},jX w b S->S≠40->w2.1[b]? = w.1[b]?:=fun k hSq=>st _ (k.ne kF hSq)
 have sM:∀ {b},(∃ es c,w.1[b]? = some (Obj.map es c))->w2.1[b]? = w.1[b]?:=fun k=>st _ (vU k kF)
 have sL:∀ b,b < w.1.size->b < L->w2.1[b]? = w.1[b]?:=fun b hb hL=>st b (by have:=h.lo;omega)
 have kcell:∀ {b o u},w2.1[b]? = w.1[b]?->w.cell? ⟨b,o,none⟩=some u->w2.cell? ⟨b,o,none⟩=some u:=fun hb hc=>(cB hb).trans hc
 have sV:∀ j,j < fs.length->∀ g,(fs.getD j noF).vv.ownBlock=some g->w2.1[g]? = w.1[g]?:=fun j hj g hg=>sK (zE (qZN h.rd.vrow hj) hg) (by decide)
 have sG:∀ g,gv.ownBlock=some g->w2.1[g]? = w.1[g]?:=fun g hg=>sK (zE e.grow hg) (by decide)
 have sB:=sK h.kb (by decide);have r1:=sL 1 (qJ e.b0) (by have:=h.lo;omega);have r2:=sL 2 (qJ e.d0) (by have:=h.lo;omega);obtain⟨b,off,cap,hwt,hbL⟩:=h.wt;have hself:=qWu hi (fs.getD ci noF).vars (fs.getD ci noF).vv bv;have hfrow:w2.ownsRow 0 40 6 (.slice (some ⟨F,0,none⟩) fs.length FC) fs.length (xD fnC (setF fs ci (fs.getD ci noF).vars (fs.getD ci noF).vv bv)):=by
  have hfl:xD fnC (setF fs ci (fs.getD ci noF).vars (fs.getD ci noF).vv bv)=(xD fnC fs).set (ci * 6+5) bv:=by
   unfold setF;refine qVC qZu fs ci 5 _ bv hi (by omega) ?_;rw[yY hi];rfl
  refine⟨by rw[qVB qZu,qQo], .inr ?_⟩;rcases h.rd.frow.2 with⟨hx,_⟩ | ⟨g,cp,cur,hs,hb,hg,h1,h2,h3,h4⟩
  ·cases hx
  ·injection hs with hs1 hs2 hs3;injection hs1 with hs1;injection hs1 with hs1 _ _;subst hs1 hs3;refine⟨F,FC,cur.setIfInBounds (ci * 6+5) bv,rfl,hb,?_,h1,h2,by simpa using h3,by rw[hfl,<-h4];simp[List.take_set]⟩;rw[<-hw2];exact Lib.heap_setCell_same hg _
 have hvr:∀ j,j < fs.length->qQI w2 0 ((setF fs ci (fs.getD ci noF).vars (fs.getD ci noF).vv bv).getD j noF).vars ((setF fs ci (fs.getD ci noF).vars (fs.getD ci noF).vv bv).getD j noF).vv:=fun j hj=>by
  have hr:=zU (qZN h.rd.vrow hj) (sV j hj);by_cases hjc:j=ci
  ·subst hjc;rw[hself];exact hr
  ·rw[qZd hjc];exact hr
 have hvv:∀ j,((setF fs ci (fs.getD ci noF).vars (fs.getD ci noF).vv bv).getD j noF).vv=(fs.getD j noF).vv:=fun j=>by
  by_cases hjc:j=ci
  ·subst hjc;rw[hself]
  ·rw[qZd hjc]
 have hvs:∀ f∈setF fs ci (fs.getD ci noF).vars (fs.getD ci noF).vv bv,∃ f'∈fs,f.vars=f'.vars/\f.h=f'.h:=fun f hf=>by
  obtain⟨j,hj,rfl⟩:=qZQ hf;rw[qQo]at hj;refine⟨fs.getD j noF,by rw[yY hj];exact List.getElem_mem _,?_⟩;by_cases hjc:j=ci
  ·subst hjc;rw[hself];exact⟨rfl,rfl⟩
  ·rw[qZd hjc];exact⟨rfl,rfl⟩
 refine⟨kcell sB e.c0,by rw[qQo];exact kcell sB h.rd.c1,kcell sB e.c3,kcell sB h.rd.c4,kcell sB e.c6,by obtain⟨u,hu⟩:=c2;exact⟨u,kcell sB hu⟩,⟨_,kcell sB e.c7⟩,⟨_,kcell sB e.c8⟩,fun k hk=>(World.frozen?_of_block sB).trans (bf k hk),by rw[qQo];exact hfrow,fun f hf=>?_,zU e.grow sG,e.gm.kept (sM e.gm.isMap),?_,e.rm.kept (sM e.rm.isMap),
  kcell (sK h.kc (by decide)) e.cc,kcell (sK h.ke (by decide)) e.ce,kcell r1 e.b0,kcell r1 e.b1,kcell r2 e.d0,kcell r2 e.d1,e.gl,by rw[qQo];exact h.rd.fl,fun f hf=>?_,fun f hf=>?_,h.kb.turn sB,h.kc.turn (sK h.kc (by decide)),h.ke.turn (sK h.ke (by decide)),⟨h.lo.2.1,h.lo.2.2.1,h.lo.2.2.2⟩,fun j hj g hg=>?_,b,off,cap,hwt.low hbL h.lo.2.2.1 sL,hbL⟩
 ·obtain⟨j,hj,rfl⟩:=qZQ hf;rw[qQo]at hj;exact hvr j hj
 ·rw[qYk hi];exact h.rd.fm.kept (sM h.rd.fm.isMap)
 ·obtain⟨f',hf',e1,_⟩:=hvs f hf;rw[e1];exact h.rd.vl f' hf'
 ·obtain⟨f',hf',e1,e2⟩:=hvs f hf;rw[e1,e2];exact h.rd.par f' hf'
 ·rw[qQo]at hj;rw[hvv]at hg;obtain⟨a1,a2,a3⟩:=lv j hj g hg;refine⟨a1,a2,fun i hi' hne=>?_⟩;rw[qQo]at hi';rw[hvv];exact a3 i hi' hne
theorem lv_turn{own:List qI}{vv':Value}(lv:∀ j,j < fs.length->∀ g,(fs.getD j noF).vv.ownBlock=some g->L<=g/\some g≠gv.ownBlock/\∀ i,i < fs.length->i≠j->some g≠(fs.getD i noF).vv.ownBlock)
 (hi:ci < fs.length) (hvr:∀ f∈fs,qQI w 0 f.vars f.vv) (hgr:qQI w 0 gs gv) (hL:L<=w.1.size) (hn:vW vv' (fs.getD ci noF).vv w) :
 ∀ j,j < (xU fs ci own vv').length->∀ g,((xU fs ci own vv').getD j noF).vv.ownBlock=some g->L<=g/\some g≠gv.ownBlock/\∀ i,i < (xU fs ci own vv').length->i≠j->some g≠((xU fs ci own vv').getD i noF).vv.ownBlock:=by
 intro j hj g hg;rw[kW]at *;have hvlt:∀ i,i < fs.length->∀ g,(fs.getD i noF).vv.ownBlock=some g->g < w.1.size:=fun i hi g hg=>((qZN hvr hi).lt g hg).2
 by_cases hjc:j=ci
 ·subst hjc;rw[qZC hi]at hg;change vv'.ownBlock=some g at hg;rcases hn with hn | ⟨g',hg',hn⟩
  ·rw[hn]at hg;obtain⟨a1,a2,a3⟩:=lv j hj g hg;exact⟨a1,a2,fun i hi' hne=>by rw[wV hne];exact a3 i hi' hne⟩
  ·rw[hn]at hg;injection hg with hg;subst hg;refine⟨by omega,fun e=>by have:=(hgr.lt g' e.symm).2;omega,fun i hi' hne e=>?_⟩;rw[wV hne]at e;have:=hvlt i hi' g' e.symm;omega
 ·rw[wV hjc]at hg;obtain⟨a1,a2,a3⟩:=lv j hj g hg;refine⟨a1,a2,fun i hi' hne e=>?_⟩;by_cases hic:i=ci
  ·subst hic;rw[qZC hi]at e;change some g=vv'.ownBlock at e;rcases hn with hn | ⟨g',hg',hn⟩
   ·exact a3 i hi' hne (e.trans hn)
   ·rw[hn]at e;injection e with e;have:=hvlt j hj g hg;omega
  ·rw[wV hic]at e;exact a3 i hi' hne e
end
structure qJo(B F:Nat)(vv:Value)(w w':World):Prop where
 os:w'.os=w.os
 tape:w'.tape=w.tape
 output:w'.output=w.output
 size:w.1.size<=w'.1.size
 block:∀ k,k < w.1.size->k≠B->k≠F->some k≠vv.ownBlock->w'.1[k]? = w.1[k]?
def qKR(B L:Nat)(gs:List qI)(fs:List FnM)(FC Mf:Nat)(gv:Value)(Mg Mr F:Nat)(cl:vE)(ci:Nat)(p:CR (List Sx×List qI))(w:World)(e:Ending)(w':World):Prop :=
 match p with
 | .ok (ss,own')=>∃ vv' bv,e=.returned (.tuple #[])/\BIn B L gs (setF fs ci own' vv' bv) FC Mf gv Mg Mr F cl w'/\qJo B F (fs.getD ci noF).vv w w'/\vW vv' (fs.getD ci noF).vv w/\jE w' (fun g=>w.1.size<=g/\some g≠vv'.ownBlock) ss bv
 | .bad ln co code=>e=.panicked [{ v:=xO ln co code,recovered:=false }]/\qJo B F (fs.getD ci noF).vv w w'
def qYB(l:List qI):Prop:=∀ k (h:k < l.length),qZc l[k].name 0 ((l.take k).map (·.name))=none/\l[k].name.length<=1000000
theorem qKR.okI{B L:Nat}{gs:List qI}{fs:List FnM}{FC Mf:Nat}{gv:Value}{Mg Mr F:Nat}{cl:vE}{ci:Nat}{p:CR (List Sx×List qI)}{w w':World}{ss:List Sx}{own':List qI}{vv' bv:Value}(hp:p=.ok (ss,own'))(h1:BIn B L gs (setF fs ci own' vv' bv) FC Mf gv Mg Mr F cl w')(h2:qJo B F (fs.getD ci noF).vv w w')(h3:vW vv' (fs.getD ci noF).vv w)(h4:jE w' (fun g=>w.1.size<=g/\some g≠vv'.ownBlock) ss bv):qKR B L gs fs FC Mf gv Mg Mr F cl ci p w (.returned (.tuple #[])) w':=by
 rw[hp];exact⟨vv',bv,rfl,h1,h2,h3,h4⟩
theorem qKR.badI{B L:Nat}{gs:List qI}{fs:List FnM}{FC Mf:Nat}{gv:Value}{Mg Mr F:Nat}{cl:vE}{ci:Nat}{p:CR (List Sx×List qI)}{w w':World}{ln co code:Int}(hp:p=.bad ln co code)(h2:qJo B F (fs.getD ci noF).vv w w'):qKR B L gs fs FC Mf gv Mg Mr F cl ci p w (.panicked [{ v:=xO ln co code,recovered:=false }]) w':=by
 rw[hp];exact⟨rfl,h2⟩
theorem qYI{fs:List FnM}{ci:Nat}(h:ci < fs.length):fs.getD ci noF∈fs:=by rw[yY h];exact List.getElem_mem _
def BoRel(vs:List qI)(Mo:Nat)(W:World)(i:Value)(wr:World):Prop :=
 ∃ k:Nat,k<=vs.length/\i=.int .i64 k/\wY wr Mo ((vs.take k).map (·.name))/\W.grownBy wr (some Mo)
theorem take_name{vs:List qI}{k:Nat}(h:k < vs.length):(vs.take (k+1)).map (·.name)=(vs.take k).map (·.name)++[vs[k].name]:=by
 rw[List.take_succ_eq_append_getElem h,List.map_append];rfl
theorem body_any(B L:Nat)(gs:List qI)(fs:List FnM)(FC Mf:Nat)(gv:Value)(Mg Mr F:Nat)(cl:vE)(ci:Nat)(t:qQ)(v:Value)(w:World)(h:BIn B L gs fs FC Mf gv Mg Mr F cl w)(hi:ci < fs.length)(hL:L<=w.1.size)(hl:xZ w (· < L) t v)(hn:qUz t)(hd:qYB (fs.getD ci noF).vars) :
 Calls prog 87 #[.pointer (some ⟨B,0,none⟩), .pointer (some ⟨F,ci * 6,none⟩),qZ t v] w (qKR B L gs fs FC Mf gv Mg Mr F cl ci (blC gs (fs.map (·.h)) (fs.getD ci noF).h.t t (fs.getD ci noF).vars) w):=by
 obtain⟨q,c,rfl,hc1,hc2,hK⟩:=hl.kids;have H0:=hI h;have HI:=hI hi;obtain⟨u7,c7⟩:=h.c7;obtain⟨u8,c8⟩:=h.c8;have b7:=h.bf 7 (by omega);have b8:=h.bf 8 (by omega);have hB:B < w.1.size:=qJ h.c0;obtain⟨f0,f1,f2,f3,f4,f5⟩:=qZv h.frow hi;rw[<-yY hi]at f4;have hF:F < w.1.size:=qJ f4;have hFB:¬F=B:=fun e=>(zE h.frow rfl:jX w F 40).ne h.kb (by decide) e
 have hBF:¬B=F:=fun e=>hFB e.symm
 have hvr:=qZN h.vrow hi;obtain⟨vq,vc,hvv⟩:=qZL hvr;rw[hvv]at f4 hvr;have HVV:=hI hvv;obtain⟨vs,hvs⟩:∃ vs,(fs.getD ci noF).vars=vs:=⟨_,rfl⟩;rw[hvs]at f4 hvr hd;have HVS:=hI hvs;have hbl:=h.vl _ (qYI hi);rw[hvs]at hbl;have HVR:=hI hvr;have HD:=hI hd;have HLI:=hI hl;have HBO:=hI hn;have hBw:¬B=w.1.size:=by omega
 have hwB:¬w.1.size=B:=by omega
 have hB1:¬B=w.1.size+1:=by omega
 have h1B:¬w.1.size+1=B:=by omega
 have HKB:=hI h.kb;have HBF:=hI h.bf;have HC2:=hI h.c2
 -- the world at the loop
 have HW1:=hI (show ∀ b,b≠B->((w.setCell ⟨B,7,none⟩ (.pointer (some ⟨F,ci * 6,none⟩))).setCell ⟨B,8,none⟩ (.map (some (w.1.size+1)))).1[b]? = w.1[b]? from fun b hb=>(hS _ ⟨B,8,none⟩ _ b hb).trans (hS _ ⟨B,7,none⟩ _ b hb));have hsz1:((w.setCell ⟨B,7,none⟩ (.pointer (some ⟨F,ci * 6,none⟩))).setCell ⟨B,8,none⟩ (.map (some (w.1.size+1)))).1.size=w.1.size:=by simp
 have HC7:=hI (show((w.setCell ⟨B,7,none⟩ (.pointer (some ⟨F,ci * 6,none⟩))).setCell ⟨B,8,none⟩ (.map (some (w.1.size+1)))).cell? ⟨B,7,none⟩=some (.pointer (some ⟨F,ci * 6,none⟩)) by simp[go_sem,c7,c8]);have HC8:=hI (show((w.setCell ⟨B,7,none⟩ (.pointer (some ⟨F,ci * 6,none⟩))).setCell ⟨B,8,none⟩ (.map (some (w.1.size+1)))).cell? ⟨B,8,none⟩=some (.map (some (w.1.size+1))) by simp[go_sem,c7,c8]);have HCB:=hI (show ∀ o,o≠7->o≠8->((w.setCell ⟨B,7,none⟩ (.pointer (some ⟨F,ci * 6,none⟩))).setCell ⟨B,8,none⟩ (.map (some (w.1.size+1)))).cell? ⟨B,o,none⟩=w.cell? ⟨B,o,none⟩from fun o h7 h8=>by simp[go_sem,Ne.symm h7,Ne.symm h8,h7,h8]);have HFZ:=hI (show ∀ o,o < 9->((w.setCell ⟨B,7,none⟩ (.pointer (some ⟨F,ci * 6,none⟩))).setCell ⟨B,8,none⟩ (.map (some (w.1.size+1)))).frozen? ⟨B,o,none⟩=false from fun o ho=>by have:=HBF.o o ho;simp[go_sem,this]);have HKB1:=hI (show jX ((w.setCell ⟨B,7,none⟩ (.pointer (some ⟨F,ci * 6,none⟩))).setCell ⟨B,8,none⟩ (.map (some (w.1.size+1)))) B 121 from(HKB.o.set _ _ _).set _ _ _);obtain⟨k,x,m,ln,co,ks⟩:=t;have HBB:=hI (bal (bal (Below.refl ((w.setCell ⟨B,7,none⟩ (.pointer (some ⟨F,ci * 6,none⟩))).setCell ⟨B,8,none⟩ (.map (some (w.1.size+1)))).1.size ((w.setCell ⟨B,7,none⟩ (.pointer (some ⟨F,ci * 6,none⟩))).setCell ⟨B,8,none⟩ (.map (some (w.1.size+1))))) (qB (.mk k x m ln co ks) (.slice q ks.length c))) (.map #[] 0));have hnm:=wY.made (((w.setCell ⟨B,7,none⟩ (.pointer (some ⟨F,ci * 6,none⟩))).setCell ⟨B,8,none⟩ (.map (some (w.1.size+1)))).alloc (qB (.mk k x m ln co ks) (.slice q ks.length c)));rw[show(((w.setCell ⟨B,7,none⟩ (.pointer (some ⟨F,ci * 6,none⟩))).setCell ⟨B,8,none⟩ (.map (some (w.1.size+1)))).alloc (qB (.mk k x m ln co ks) (.slice q ks.length c))).1.size=w.1.size+1 by simp]at hnm;have HNM:=hI hnm;have HND:=hI (show Bx w.1.size (.mk k x m ln co ks) (.slice q ks.length c) ((((w.setCell ⟨B,7,none⟩ (.pointer (some ⟨F,ci * 6,none⟩))).setCell ⟨B,8,none⟩ (.map (some (w.1.size+1)))).alloc (qB (.mk k x m ln co ks) (.slice q ks.length c))).alloc (.map #[] 0))from by
  have hh:=(Bx.new (.mk k x m ln co ks) (.slice q ks.length c) ((w.setCell ⟨B,7,none⟩ (.pointer (some ⟨F,ci * 6,none⟩))).setCell ⟨B,8,none⟩ (.map (some (w.1.size+1))))).below (bal (Below.refl _ _) (.map #[] 0));rw[hsz1]at hh;exact hh)
 clear h hl hK hvv f0 f1 f2 f3 f5 hn hnm hi hvs hvr hd;simp only[qZ,qB,qS,qQ.kind,qQ.text,qQ.num,qQ.line,qQ.col,qQ.kids]at *;have hmm:=@run_makeMap prog;go_enter func87,ntmps87
 go_wp2
 clear hmm;have HSZ:=hI (show((((w.setCell ⟨B,7,none⟩ (.pointer (some ⟨F,ci * 6,none⟩))).setCell ⟨B,8,none⟩ (.map (some (w.1.size+1)))).alloc (.cells #[.string ⟨k.toArray⟩, .string ⟨x.toArray⟩, .int .u64 m, .int .i64 ln, .int .i64 co, .slice q ks.length c] 57)).alloc (.map #[] 0)).1.size=w.1.size+2 by simp);have HBW:=hI (show ∀ b,b < w.1.size->b≠B->((((w.setCell ⟨B,7,none⟩ (.pointer (some ⟨F,ci * 6,none⟩))).setCell ⟨B,8,none⟩ (.map (some (w.1.size+1)))).alloc (.cells #[.string ⟨k.toArray⟩, .string ⟨x.toArray⟩, .int .u64 m, .int .i64 ln, .int .i64 co, .slice q ks.length c] 57)).alloc (.map #[] 0)).1[b]? = w.1[b]? from fun b hb hne=>(HBB.o.block b (by rw[hsz1];exact hb)).trans (HW1.o b hne));have HEB:=hI (show((((w.setCell ⟨B,7,none⟩ (.pointer (some ⟨F,ci * 6,none⟩))).setCell ⟨B,8,none⟩ (.map (some (w.1.size+1)))).alloc (.cells #[.string ⟨k.toArray⟩, .string ⟨x.toArray⟩, .int .u64 m, .int .i64 ln, .int .i64 co, .slice q ks.length c] 57)).alloc (.map #[] 0)).1[B]? = ((w.setCell ⟨B,7,none⟩ (.pointer (some ⟨F,ci * 6,none⟩))).setCell ⟨B,8,none⟩ (.map (some (w.1.size+1)))).1[B]? from HBB.o.block B (by rw[hsz1];exact hB));have HFR:=hI (show((((w.setCell ⟨B,7,none⟩ (.pointer (some ⟨F,ci * 6,none⟩))).setCell ⟨B,8,none⟩ (.map (some (w.1.size+1)))).alloc (.cells #[.string ⟨k.toArray⟩, .string ⟨x.toArray⟩, .int .u64 m, .int .i64 ln, .int .i64 co, .slice q ks.length c] 57)).alloc (.map #[] 0)).os=w.os/\((((w.setCell ⟨B,7,none⟩ (.pointer (some ⟨F,ci * 6,none⟩))).setCell ⟨B,8,none⟩ (.map (some (w.1.size+1)))).alloc (.cells #[.string ⟨k.toArray⟩, .string ⟨x.toArray⟩, .int .u64 m, .int .i64 ln, .int .i64 co, .slice q ks.length c] 57)).alloc (.map #[] 0)).tape=w.tape/\((((w.setCell ⟨B,7,none⟩ (.pointer (some ⟨F,ci * 6,none⟩))).setCell ⟨B,8,none⟩ (.map (some (w.1.size+1)))).alloc (.cells #[.string ⟨k.toArray⟩, .string ⟨x.toArray⟩, .int .u64 m, .int .i64 ln, .int .i64 co, .slice q ks.length c] 57)).alloc (.map #[] 0)).output=w.output from⟨rfl,rfl,rfl⟩);generalize ((((w.setCell ⟨B,7,none⟩ (.pointer (some ⟨F,ci * 6,none⟩))).setCell ⟨B,8,none⟩ (.map (some (w.1.size+1)))).alloc (.cells #[.string ⟨k.toArray⟩, .string ⟨x.toArray⟩, .int .u64 m, .int .i64 ln, .int .i64 co, .slice q ks.length c] 57)).alloc (.map #[] 0))=W at *;generalize ((w.setCell ⟨B,7,none⟩ (.pointer (some ⟨F,ci * 6,none⟩))).setCell ⟨B,8,none⟩ (.map (some (w.1.size+1))))=W1 at *;have c8:=(cB HEB.o).trans HC8.o;have hsW:=HSZ.o;clear f4 c7 b7 b8 hsz1;have HSZ':=HSZ;go_loopw [21] (fun i wr=>BoRel vs (w.1.size+1) W i wr) (fun i _=>vs.length - (intOf i).toNat)
 case atStart=>exact⟨0,Nat.zero_le _,rfl,HNM.o,jS _ _⟩
 case round =>
  obtain⟨j,hj,rfl,hm,hg⟩:=hrel;have HM:=hI hm;have HG:=hI hg;have hgs:=hg.size;have hBr:wr.1[B]? = W.1[B]?:=hg.block B (by omega) (fun e=>by injection e with e;omega);have c8:=(cB hBr).trans c8;have HBr:=hI hBr;clear hm hg hBr;by_cases hlt:j < vs.length
  ·obtain⟨g,c',hvq,e0,e1,e2,e3⟩:=qKe (zU HVR.o (w':=wr) (fun g hg'=>by
    have hk:=zE HVR.o hg';have hlt:=hk.lt;exact(HG.o.block g (by omega) (fun e=>by injection e with e;omega)).trans (HBW.o g hlt (hk.ne HKB.o (by decide))))) hlt
   injection hvq with hvq _ hvc;subst hvq hvc;have HDJ:=hI (HD.o j hlt);have HTN:=hI (take_name hlt);have hjl:(j:Int) < (vs.length:Nat):=by omega
   generalize hDj:vs[j]=D at *;clear hDj;have HVZ:=hI (qQB.new D wr);have hz:=bal (Below.refl wr.1.size wr) (.cells (qQe D).toArray 42);have HMZ:=hI (HM.o.below hz);have c8Z:=kP hz c8;have HZ:=hI hz;have hszZ:(wr.alloc (.cells (qQe D).toArray 42)).1.size=wr.1.size+1:=by simp
   unfold qQe at HVZ HMZ HZ c8Z hszZ;clear hz;go_wp2
   clear c8 e0 e1 e2 e3;generalize (wr.alloc _)=Z at *;have c8:=c8Z;clear c8Z;have z0:=HVZ.o.c0;obtain⟨w6,hrun,hm6,hg6⟩:=(HMZ.o.below (Below.refl _ _).drew).store D.name (by have:=HDJ.o.2;unfold maxLen;omega) HDJ.o.1 (by rw[List.length_map,List.length_take];omega);have hlen:(((vs.take j).map (·.name)).length:Int)=(j:Nat):=by rw[List.length_map,List.length_take,Nat.min_eq_left hj]
   rw[hlen]at hrun;refine wRg (S:=fun w'=>Below Z.1.size Z w') 7 ?_;refine wTk 0 26 (.pointer (some ⟨B,0,none⟩)) ?_ (bD Z) ?_
   ·intro _ y;go_simp
   refine wTk 1 27 (.pointer (some ⟨B,0,none⟩)) ?_ (bD Z) ?_
   ·intro _ y;go_simp
   refine wTk 2 28 (.pointer (some ⟨B,8,none⟩)) ?_ (bD Z) ?_
   ·intro _ y;go_simp
   refine wTk 3 29 (.map (some (w.1.size+1))) ?_ (bD Z) ?_
   ·intro _ y;have c8:=kP y c8;have z0:=kP y z0;go_simp
   refine wTk 4 30 (.pointer (some ⟨wr.1.size,0,none⟩)) ?_ (bD Z) ?_
   ·intro _ y;go_simp
   refine wTk 5 31 (.string ⟨D.name.toArray⟩) ?_ (bD Z) ?_
   ·intro _ y;have c8:=kP y c8;have z0:=kP y z0;go_simp
   refine wTk 6 32 (.int .i64 j) ?_ (bD Z) ?_
   ·intro _ y;go_simp
   refine wOn 7 fun K hK=>?_
   go_simp;refine kD hK ?_;clear hK K;refine wDn ?_ _;have HM6:=hI hm6;have HG6:=hI (qR HG.o (qR (zV HZ.o _) (show Z.grownBy w6 (some (w.1.size+1))from⟨hg6.os,hg6.tape,hg6.output,hg6.size,hg6.block⟩)));clear hrun hm6 hg6 c8 z0;go_wp2
   go_roundw
   case rel=>exact⟨j+1,hlt,by go_num,by rw[HTN.o];exact HM6.o,HG6.o⟩
   case measure=>simp[intOf];omega
  ·have hje:j=vs.length:=by omega
   subst hje;rw[List.take_of_length_le (Nat.le_refl _)]at HM;have HBLK:=hI (show ∀ b,b < w.1.size->b≠B->wr.1[b]? = w.1[b]? from fun b hb hne=>(HG.o.block b (by omega) (fun e=>by injection e with e;omega)).trans (HBW.o b hb hne));have HBB':=hI (HBr.o.trans HEB.o);have hWI:WIn B L gs fs ci FC Mf gv Mg (w.1.size+1) Mr F cl wr:=by
    refine H0.o.enter HI.o (by omega) ((cB HBB'.o).trans HC7.o) ((cB HBB'.o).trans HC8.o) (fun o h7 h8=>(cB HBB'.o).trans (HCB.o o h7 h8)) (HKB1.o.turn HBB'.o) (by rw[HVS.o];exact HM.o) HBLK.o
   have HWI:=hI hWI;have HND':=hI (show Bx w.1.size (.mk k x m ln co ks) (.slice q ks.length c) wr from(HG.o.block _ (by omega) (fun e=>by injection e with e;omega)).trans HND.o);obtain⟨n0,n1,n2,n3,n4,n5⟩:=HND'.o.cells;have HLIr:=hI (show xZ wr (· < L) (.mk k x m ln co ks) (.slice q ks.length c)from xZ.move (fun g hg hok=>⟨hok,HBLK.o g (by omega) (by have:=H0.o.lo;have:g < L:=hok;omega)⟩) _ _ HLI.o);have HBC:=hI (HBO.o ⟨B,L,gs,ci,FC,Mf,gv,Mg,w.1.size+1,Mr,F,cl⟩ fs (.slice q ks.length c) wr hWI (by show L<=_;omega) HLIr.o);simp only[qZ,qS,qQ.kind,qQ.text,qQ.num,qQ.line,qQ.col,qQ.kids]at HBC;clear hWI c8;go_wp2_with fail
   refine(HBC.o).mono ?_;rintro e w5 hX;have hvw:∀ g,(fs.getD ci noF).vv.ownBlock=some g->jX w g 42/\g < w.1.size:=fun g hg=>⟨zE (qZN H0.o.vrow HI.o) hg,((qZN H0.o.vrow HI.o).lt g hg).2⟩
   have hBv:some B≠(fs.getD ci noF).vv.ownBlock:=fun e=>(HKB.o.ne (hvw B e.symm).1 (by decide)) rfl
   have hturn:∀ w5,yX F (w.1.size+1) (fs.getD ci noF).vv wr w5->qJo B F (fs.getD ci noF).vv w w5:=fun w5 hT=>⟨(hT.os.trans HG.o.os).trans HFR.o.1,(hT.tape.trans HG.o.tape).trans HFR.o.2.1,(hT.output.trans HG.o.output).trans HFR.o.2.2,by have:=hT.size;omega,fun b hb hB hF hv=>(hT.block b (by omega) hF (by omega) hv).trans (HBLK.o b hb hB)⟩
   rcases hX.cases with⟨ss,own',u,vv',hp,rfl,hM5,hT5,hR5,hls⟩ | ⟨l',c',code,hp,rfl,hT5⟩;rotate_left
   ·exact⟨rfl,qKR.badI hp (hturn _ hT5)⟩
   obtain⟨uq,uc,rfl⟩:=hls.shape;have hM5':WIn B L gs (xU fs ci own' vv') ci FC Mf gv Mg (w.1.size+1) Mr F cl w5:=hM5;have hsB:w5.1[B]? = wr.1[B]?:=hT5.block B (by omega) hBF hB1 hBv;have hlenT:=kW fs ci own' vv';have hfr:=hM5'.rd.frow;have hf5:∃ bo,w5.cell? ⟨F,ci * 6+5,none⟩=some bo:=by
    obtain⟨f0,f1,f2,f3,f4,f5⟩:=qZv hfr (i:=ci) (by rw[hlenT];exact HI.o);exact⟨_,f5⟩
   obtain⟨bo,f5⟩:=hf5;have ff5:w5.frozen? ⟨F,ci * 6+5,none⟩=false:=qYb hfr rfl _;have hR:=vW.low (show vW vv' (fs.getD ci noF).vv wr from hR5) (show w.1.size<=wr.1.size by omega);have HBI:=hI (show BIn B L gs (setF fs ci own' vv' (.slice uq ss.length uc)) FC Mf gv Mg Mr F cl (w5.setCell ⟨F,ci * 6+5,none⟩ (.slice uq ss.length uc))from by
    have:=hM5'.leave (fun k hk=>(World.frozen?_of_block (hsB.trans HBB'.o)).trans (HFZ.o k hk)) (by
     obtain⟨u2,hu2⟩:=HC2.o;exact⟨u2,((cB (hsB.trans HBB'.o)).trans (HCB.o 2 (by omega) (by omega))).trans hu2⟩) (lv_turn H0.o.lv HI.o H0.o.vrow H0.o.grow hL hR) (.slice uq ss.length uc)
    rw[qZC HI.o,setF_turn fs ci HI.o]at this;exact this)
   have HT:=hI (hturn _ hT5);have HR:=hI hR;have HLS:=hI hls;have HP:=hI hp;have hFw5:F < w5.1.size:=by have:=hT5.size;omega
   have hsr5:=hT5.size;clear hX hp hM5 hM5' hT5 hR5 hR hls hturn hsB hfr hlenT n0 n1 n2 n3 n4 n5 HBC;go_wp2
   go_end0;refine qKR.okI HP.o HBI.o ⟨HT.o.os,HT.o.tape,HT.o.output,by simpa using HT.o.size,fun b hb h1 h2 h3=>(hS w5 ⟨F,ci * 6+5,none⟩ (.slice uq ss.length uc) b h2).trans (HT.o.block b hb h1 h2 h3)⟩ HR.o ?_;exact jE.move HLS.o (fun g hg hok=>⟨⟨by omega,hok.2⟩,hS w5 ⟨F,ci * 6+5,none⟩ (.slice uq ss.length uc) g (by show g≠F;omega)⟩)
theorem BIn.below{B L:Nat}{gs:List qI}{fs:List FnM}{FC Mf:Nat}{gv:Value}{Mg Mr F:Nat}{cl:vE}{w w':World}(h:BIn B L gs fs FC Mf gv Mg Mr F cl w)(hb:Below w.1.size w w'):BIn B L gs fs FC Mf gv Mg Mr F cl w' :=
 have k:∀ {p:Addr} {v:Value},w.cell? p=some v->w'.cell? p=some v:=fun e=>kP hb e
 have kk:∀ {b T},jX w b T->jX w' b T:=fun e=>e.turn (hb.block _ e.lt)
 ⟨k h.c0,k h.c1,k h.c3,k h.c4,k h.c6,by obtain⟨u,hu⟩:=h.c2;exact⟨u,k hu⟩,by obtain⟨u,hu⟩:=h.c7;exact⟨u,k hu⟩,by obtain⟨u,hu⟩:=h.c8;exact⟨u,k hu⟩,fun j hj=>(hb.frozen (p:=⟨B,j,none⟩) (show B < w.1.size from qJ h.c0)).trans (h.bf j hj),zU h.frow (fun g hg=>hb.block g (h.frow.lt g hg).2),fun f hf=>zU (h.vrow f hf) (fun g hg=>hb.block g ((h.vrow f hf).lt g hg).2),zU h.grow (fun g hg=>hb.block g (h.grow.lt g hg).2),h.gm.below hb,h.fm.below hb,h.rm.below hb,k h.cc,k h.ce,k h.b0,k h.b1,k h.d0,k h.d1,h.gl,h.fl,h.vl,h.par,kk h.kb,kk h.kc,kk h.ke,h.lo,h.lv,by obtain⟨b,off,cap,hw,hbL⟩:=h.wt;exact⟨b,off,cap,hw.below hb,hbL⟩⟩
def qXI(l:List qQ):Nat:=(l.filter (fun t=>t.kind == qC)).length
theorem qY2{l:List qQ}{k:Nat}(h:k < l.length):qXI (l.take (k+1))=qXI (l.take k)+(if l[k].kind == qC then 1 else 0):=by
 unfold qXI;rw[List.take_succ_eq_append_getElem h,List.filter_append,lL];cases hk:(l[k].kind == qC) <;> simp[List.filter_cons,hk]
theorem cntF_le(l:List qQ)(k:Nat):qXI (l.take k)<=qXI l:=by
 unfold qXI;exact(List.Sublist.filter _ (List.take_sublist k l)).length_le
theorem cntF_lt{l:List qQ}{k:Nat}(h:k < l.length)(hk:(l[k].kind == qC)=true):qXI (l.take k) < qXI l:=by
 have:=qY2 h;rw[hk,if_pos rfl]at this;have:=cntF_le l (k+1);omega
def yE(t:qQ):qQ:=t.kids.getLastD (.mk [] [] 0 0 0 [])
theorem last_at{t:qQ}{p:Nat}(hp:t.kids.length=p+1):t.kids[p]'(by omega)=yE t:=by
 have hne:t.kids≠[]:=by intro e;rw[e]at hp;simp at hp
 unfold yE;rw[List.getLastD_eq_getLast?,List.getLast?_eq_some_getLast hne];simp[List.getLast_eq_getElem,hp]
def mkD(f:FnM)(b:List Sx):qQ2:=⟨f.h.name,f.h.t,f.h.params.length,f.vars,b⟩
def qXt:List FnM->List (List Sx)->List qQ2
 | f :: fs,b :: bs=>mkD f b :: qXt fs bs
 | _,_=>[]
theorem qPU:∀ (fs:List FnM) (bs:List (List Sx)) (f:FnM) (b:List Sx) (_:bs.length < fs.length),qXt (fs.set bs.length f) (bs++[b])=qXt fs bs++[mkD f b]
 | _ :: fs,[],f,b,_=>by cases fs <;> rfl
 | _ :: fs,_ :: bs,f,b,h=>by
  have:=qPU fs bs f b (by simpa using h);simp only[lO,List.set_cons_succ,lC,qXt,this]
 | [],_,_,_,h=>by simp at h
theorem qVf:∀ (fs:List FnM) (bs:List (List Sx)),bs.length<=fs.length->(qXt fs bs).length=bs.length
 | _,[],_=>by simp[qXt]
 | _ :: fs,_ :: bs,h=>by
  have:=qVf fs bs (by simpa using h);simp[qXt,this]
 | [],_ :: _,h=>by simp at h
theorem qUE{gs:List qI}{H:List kI}{ts:List qQ}{k j:Nat}(h:k < ts.length)(hk:(ts[k].kind == qC)=true)(hj:j < H.length):vG gs H (ts.drop k) (H.drop j)=(blC gs H H[j].t (yE ts[k]) H[j].params).bind fun b=>(vG gs H (ts.drop (k+1)) (H.drop (j+1))).bind fun l=>.ok (⟨H[j].name,H[j].t,H[j].params.length,b.2,b.1⟩ :: l):=by
 rw[List.drop_eq_getElem_cons h,List.drop_eq_getElem_cons hj,vG,hk];rfl
theorem qYF{gs:List qI}{H:List kI}{ts:List qQ}{k:Nat}{hs:List kI}(h:k < ts.length)(hk:(ts[k].kind == qC)=false):vG gs H (ts.drop k) hs=vG gs H (ts.drop (k+1)) hs:=by
 rw[List.drop_eq_getElem_cons h,vG.eq_def];simp only[hk];rfl
theorem CR.bind_ok{α:Type}(p:CR α):(p.bind fun a=>.ok a)=p:=by cases p <;> rfl
structure jW(L:Nat)(w w':World):Prop where
 os:w'.os=w.os
 tape:w'.tape=w.tape
 output:w'.output=w.output
 size:w.1.size<=w'.1.size
 block:∀ k,k < w.1.size->k < L->w'.1[k]? = w.1[k]?
theorem jW.trans{L:Nat}{u v w:World}(h:jW L u v)(k:jW L v w):jW L u w:=⟨k.os.trans h.os,k.tape.trans h.tape,k.output.trans h.output,Nat.le_trans h.size k.size,fun b hb hL=>(k.block b (Nat.lt_of_lt_of_le hb h.size) hL).trans (h.block b hb hL)⟩
theorem jW.refl(L:Nat)(w:World):jW L w w:=⟨rfl,rfl,rfl,Nat.le_refl _,fun _ _ _=>rfl⟩
theorem jW.of_below{L:Nat}{w w':World}(h:Below w.1.size w w'):jW L w w':=⟨h.os,h.tape,h.output,h.size,fun b hb _=>h.block b hb⟩
theorem jW.below{L:Nat}{w w':World}(h:jW L w w')(hL:w.1.size<=L):Below w.1.size w w':=⟨h.os,h.tape,h.output,h.size,fun b hb=>h.block b hb (by omega)⟩
def qJn(w:World)(lo:Nat)(fs:List FnM)(bs:List (List Sx)):Prop:=∀ i,i < bs.length->jE w (fun g=>lo<=g/\∀ j,j < fs.length->some g≠(fs.getD j noF).vv.ownBlock) (bs.getD i []) (fs.getD i noF).bv
def qKw(B L:Nat)(gs:List qI)(fs0:List FnM)(FC Mf:Nat)(gv:Value)(Mg Mr F:Nat)(cl:vE)(p:CR (List qQ2))(w:World)(e:Ending)(w':World):Prop :=
 match p with
 | .ok l=>∃ fs bs,e=.returned (.tuple #[])/\l=qXt fs bs/\bs.length=fs.length/\fs.length=fs0.length/\fs.map (fun f=>f.h)=fs0.map (fun f=>f.h)/\BIn B L gs fs FC Mf gv Mg Mr F cl w'/\qJn w' w.1.size fs bs/\jW L w w'
 | .bad ln co code=>e=.panicked [{ v:=xO ln co code,recovered:=false }]/\jW L w w'
theorem qKR.cases{B L:Nat}{gs:List qI}{fs:List FnM}{FC Mf:Nat}{gv:Value}{Mg Mr F:Nat}{cl:vE}{ci:Nat}{p:CR (List Sx×List qI)}{w w':World}{e:Ending}(h:qKR B L gs fs FC Mf gv Mg Mr F cl ci p w e w') :
 (∃ ss own' vv' bv,p=.ok (ss,own')/\e=.returned (.tuple #[])/\BIn B L gs (setF fs ci own' vv' bv) FC Mf gv Mg Mr F cl w'/\qJo B F (fs.getD ci noF).vv w w'/\vW vv' (fs.getD ci noF).vv w/\jE w' (fun g=>w.1.size<=g/\some g≠vv'.ownBlock) ss bv)\/∃ ln co code,p=.bad ln co code/\e=.panicked [{ v:=xO ln co code,recovered:=false }]/\qJo B F (fs.getD ci noF).vv w w':=by
 cases p with
 | ok a=>obtain⟨ss,own'⟩:=a;obtain⟨vv',bv,h1,h2,h3,h4,h5⟩:=h;exact .inl ⟨ss,own',vv',bv,rfl,h1,h2,h3,h4,h5⟩
 | bad ln co code=>exact .inr ⟨ln,co,code,rfl,h.1,h.2⟩
theorem qKw.okI{B L:Nat}{gs:List qI}{fs0:List FnM}{FC Mf:Nat}{gv:Value}{Mg Mr F:Nat}{cl:vE}{p:CR (List qQ2)}{w w':World}{fs:List FnM}{bs:List (List Sx)}(hp:p=.ok (qXt fs bs))(h0:bs.length=fs.length)(h1:fs.length=fs0.length)(h2:fs.map (fun f=>f.h)=fs0.map (fun f=>f.h))(h3:BIn B L gs fs FC Mf gv Mg Mr F cl w')(h4:qJn w' w.1.size fs bs)(h5:jW L w w'):qKw B L gs fs0 FC Mf gv Mg Mr F cl p w (.returned (.tuple #[])) w':=by
 rw[hp];exact⟨fs,bs,rfl,rfl,h0,h1,h2,h3,h4,h5⟩
theorem qKw.badI{B L:Nat}{gs:List qI}{fs0:List FnM}{FC Mf:Nat}{gv:Value}{Mg Mr F:Nat}{cl:vE}{p:CR (List qQ2)}{w w':World}{ln co code:Int}(hp:p=.bad ln co code)(h:jW L w w'):qKw B L gs fs0 FC Mf gv Mg Mr F cl p w (.panicked [{ v:=xO ln co code,recovered:=false }]) w':=by
 rw[hp];exact⟨rfl,h⟩
theorem qJn.below{w w':World}{lo:Nat}{fs:List FnM}{bs:List (List Sx)}(h:qJn w lo fs bs)(hb:Below w.1.size w w'):qJn w' lo fs bs:=fun i hi=>jE.move (h i hi) (fun g hg hok=>⟨hok,hb.block g hg⟩)
theorem qJo.low{B L:Nat}{gs:List qI}{fs:List FnM}{FC Mf:Nat}{gv:Value}{Mg Mr F:Nat}{cl:vE}{w0 w w':World}{j:Nat}(h:qJo B F (fs.getD j noF).vv w w')(hB:BIn B L gs fs FC Mf gv Mg Mr F cl w0)(hj:j < fs.length):jW L w w' :=
 ⟨h.os,h.tape,h.output,h.size,fun k hk hL=>h.block k hk (by have:=hB.lo;omega) (by have:=hB.lo;omega) (fun e=>by have:=(hB.lv j hj k e.symm).1;omega)⟩
theorem qJn.more{B L:Nat}{gs:List qI}{fs:List FnM}{FC Mf:Nat}{gv:Value}{Mg Mr F:Nat}{cl:vE}{w w':World}{lo j:Nat}{bs:List (List Sx)}{ss:List Sx}{own:List qI}{vv' bv:Value}(hB:BIn B L gs fs FC Mf gv Mg Mr F cl w)(h:qJn w lo fs bs)(hlo:B < lo/\F < lo/\lo<=w.1.size)(hj:bs.length=j)(hjf:j < fs.length)
 (hT:qJo B F (fs.getD j noF).vv w w') (hR:vW vv' (fs.getD j noF).vv w) (hs:jE w' (fun g=>w.1.size<=g/\some g≠vv'.ownBlock) ss bv):qJn w' lo (setF fs j own vv' bv) (bs++[ss]):=by
 have hvl:∀ i,i < fs.length->∀ g,(fs.getD i noF).vv.ownBlock=some g->g < w.1.size:=fun i hi g hg=>((qZN hB.vrow hi).lt g hg).2
 intro i hi;rw[lL,hj]at hi;simp only[lO,lZ]at hi;by_cases hij:i=j
 ·subst hij;rw[show(bs++[ss]).getD i []=ss by simp[List.getD_eq_getElem?_getD,<-hj],qWu hjf];refine jE.move hs (fun g hg hok=>⟨⟨by omega,fun i' hi'=>?_⟩,rfl⟩);rw[qQo]at hi';by_cases hii:i'=i
  ·subst hii;rw[qWu hjf];exact hok.2
  ·rw[qZd hii];exact fun e=>by have:=hvl i' hi' g e.symm;omega
 ·have hib:i < bs.length:=by omega
  rw[show(bs++[ss]).getD i []=bs.getD i [] by simp[List.getD_eq_getElem?_getD,List.getElem?_append_left hib],qZd hij];refine jE.move (h i hib) (fun g hg hok=>⟨⟨hok.1,fun i' hi' e=>?_⟩,hT.block g hg (by omega) (by omega) (hok.2 j hjf)⟩);rw[qQo]at hi';by_cases hii:i'=j
  ·subst hii;rw[qWu hjf]at e;change some g=vv'.ownBlock at e;rcases hR with hR | ⟨g',hg',hR⟩
   ·exact hok.2 i' hjf (e.trans hR)
   ·rw[hR]at e;injection e with e;omega
  ·rw[qZd hii]at e;exact hok.2 i' hi' e
theorem outD_more{fs:List FnM}{bs:List (List Sx)}{ss:List Sx}{j:Nat}{own:List qI}{vv bv:Value}(hj:bs.length=j)(hjf:j < fs.length):qXt (setF fs j own vv bv) (bs++[ss])=qXt fs bs++[mkD { fs.getD j noF with vars:=own,vv:=vv,bv:=bv } ss]:=by
 subst hj;exact qPU fs bs _ _ hjf
theorem mkD_eq{fs fs0:List FnM}{bs:List (List Sx)}{ss:List Sx}{j:Nat}{own:List qI}{vv bv:Value}(hs:∀ j,bs.length<=j->j < fs.length->fs.getD j noF=fs0.getD j noF)(hj:bs.length=j)(hjf:j < fs.length)(h0:j < fs0.length) :
 mkD { fs.getD j noF with vars:=own,vv:=vv,bv:=bv } ss=⟨(fs0.map (fun f:FnM=>f.h))[j]'(by simpa using h0) |>.name,((fs0.map (fun f:FnM=>f.h))[j]'(by simpa using h0)).t,((fs0.map (fun f:FnM=>f.h))[j]'(by simpa using h0)).params.length,own,ss⟩:=by
 rw[hs j (by omega) hjf,yY h0];simp[mkD]
theorem qPk(p:CR (List qQ2))(o o2:List qQ2)(n:List UInt8)(t:Ty)(m:Int)(own:List qI)(ss:List Sx)(h:o2=o++[⟨n,t,m,own,ss⟩]):((CR.ok (ss,own)).bind fun b=>p.bind fun l=>CR.ok (qQ2.mk n t m b.2 b.1 :: l)).bind (fun l=>.ok (o++l))=p.bind fun l=>.ok (o2++l):=by
 subst h;cases p <;> simp[CR.bind]
def BsRel(B L:Nat)(gs:List qI)(fs0:List FnM)(FC Mf:Nat)(gv:Value)(Mg Mr F:Nat)(cl:vE)(ts:List qQ)(W:World)(nx i:Value)(wr:World):Prop :=
 ∃ (k:Nat) (fs:List FnM) (bs:List (List Sx)),k<=ts.length/\i=.int .i64 k/\nx=.int .i64 bs.length/\bs.length=qXI (ts.take k)/\fs.length=fs0.length/\fs.map (fun f=>f.h)=fs0.map (fun f=>f.h)/\(∀ j,bs.length<=j->j < fs.length->fs.getD j noF=fs0.getD j noF) /\
  BIn B L gs fs FC Mf gv Mg Mr F cl wr/\qJn wr W.1.size fs bs/\jW L W wr /\
  vG gs (fs0.map (fun f=>f.h)) ts (fs0.map (fun f=>f.h))=(vG gs (fs0.map (fun f=>f.h)) (ts.drop k) ((fs0.map (fun f=>f.h)).drop bs.length)).bind fun l=>.ok (qXt fs bs++l)
theorem qLU(B L:Nat)(gs:List qI)(fs0:List FnM)(FC Mf:Nat)(gv:Value)(Mg Mr F:Nat)(cl:vE)(ts:List qQ)(q:Option Addr)(c:Nat)(W:World)(h:BIn B L gs fs0 FC Mf gv Mg Mr F cl W)(hL:L<=W.1.size)(hK:yD L W ts q)(hlen:ts.length<=1000000)
 (hcnt:qXI ts=fs0.length) (hpar:∀ f∈fs0,f.vars=f.h.params/\qYB f.h.params) (hbo:∀ t∈ts,(t.kind == qC)=true->t.kids≠[]/\t.kids.length<=1000000/\qUz (yE t)) :
 Calls prog 66 #[.pointer (some ⟨B,0,none⟩), .slice q ts.length c] W (qKw B L gs fs0 FC Mf gv Mg Mr F cl (vG gs (fs0.map (fun f=>f.h)) ts (fs0.map (fun f=>f.h))) W):=by
 have H0:=hI h;have HK:=hI hK;have HPAR:=hI hpar;have HBO:=hI hbo;have HCN:=hI hcnt;have hBW:B < W.1.size:=qJ h.c0;have hFW:F < W.1.size:=(h.frow.lt F rfl).2;clear h hK hpar hbo hcnt;go_enter func66,ntmps66
 go_wp2
 go_loopw [4,9] (fun nx i wr=>BsRel B L gs fs0 FC Mf gv Mg Mr F cl ts W nx i wr) (fun _ i _=>ts.length - (intOf i).toNat)
 case atStart=>exact⟨0,fs0,[],Nat.zero_le _,rfl,rfl,rfl,rfl,rfl,fun _ _ _=>rfl,H0.o,fun i hi=>by simp at hi,jW.refl _ _,by rw[List.drop_zero];cases fs0 <;> exact(CR.bind_ok _).symm⟩
 case round =>
  obtain⟨k,fs,bs,hk,rfl,rfl,hbs,hfl,hfh,hsame,hB,hLF,hT,hP⟩:=hrel;have HB:=hI hB;have HLF:=hI hLF;have HT:=hI hT;have HP:=hI hP;have HBS:=hI hbs;have HFL:=hI hfl;have HFH:=hI hfh;have HSM:=hI hsame;have hts:=hT.size;clear hB hLF hT hP hbs hfl hfh hsame;obtain⟨j,hj⟩:∃ j,bs.length=j:=⟨_,rfl⟩;have HJ:=hI hj;rw[hj];clear hj;by_cases hlt:k < ts.length
  ·obtain⟨g,off,rfl,hRN⟩:=(HK.o.low hL HT.o.block).resolve_left (fun e=>by rw[e]at hlt;simp at hlt);obtain⟨qa,na,ca,hla,hca⟩:=hRN.2 k hlt;have⟨k0,k1,k2,k3,k4,k5,_⟩:=hca.a;have hmem:ts[k]∈ts:=List.getElem_mem hlt;have HMEM:=hI hmem;have HNB:=hI (Bx.new ts[k] (.slice qa na ca) wr);have HBA:=hI (bal (Below.refl wr.1.size wr) (qB ts[k] (.slice qa na ca)));have hszA:(wr.alloc (qB ts[k] (.slice qa na ca))).1.size=wr.1.size+1:=by simp
   have HLA:=hI (show xZ (wr.alloc (qB ts[k] (.slice qa na ca))) (· < L) ts[k] (.slice qa na ca)from xZ.move (fun g hg hok=>⟨hok,HBA.o.block g hg⟩) _ _ hla);have HB2:=hI (HB.o.below HBA.o);have HCS:=hI (qY2 hlt);have HLT:=hI (cntF_lt hlt);have HFU:=hI (qUE (gs:=gs) (H:=fs0.map (fun f=>f.h)) (j:=j) hlt);have HOT:=hI (qYF (gs:=gs) (H:=fs0.map (fun f=>f.h)) (hs:=(fs0.map (fun f=>f.h)).drop j) hlt);have HBK:=hI (HBO.o ts[k] hmem);have hkl:(k:Int) < (ts.length:Nat):=by omega
   clear hca hla hRN hmem;generalize hu:ts[k]=u at *;clear hu;obtain⟨uk,ux,um,ul,uc,uks⟩:=u;cases hkf:(uk == qC);case true =>
    have hkf':((qQ.mk uk ux um ul uc uks).kind == qC)=true:=hkf;have HCS:=hI (HCS.o.trans (by rw[hkf'];rfl:_=qXI (ts.take k)+1));have hjlt:j < fs0.length:=by have:=HLT.o hkf';rw[HCN.o,<-HBS.o,HJ.o]at this;exact this
    have hjf:j < fs.length:=by rw[HFL.o];exact hjlt
    obtain⟨hne,hkl2,hbl⟩:=HBK.o hkf';simp only[qQ.kids]at hne hkl2;obtain⟨p,hp⟩:∃ p,uks.length=p+1:=⟨uks.length - 1,by have:=List.length_pos_iff.2 hne;omega⟩;obtain⟨qb,cb,e,hnc,_,hKK⟩:=HLA.o.kids;injection e with e1 e2 e3;subst e1 e3;simp only[qQ.kids]at e2 hnc hKK;subst e2;obtain⟨g2,off2,rfl,hR2⟩:=hKK.resolve_left hne;obtain⟨lq,ln2,lcp,hll,hlc⟩:=hR2.2 p (by omega);have HLT2:=hI (show uks[p]'(by omega)=yE (.mk uk ux um ul uc uks)from last_at (t:=.mk uk ux um ul uc uks) hp);have HFU:=hI (HFU.o hkf' (by simpa using hjlt));have HBLO:=hI hbl;have hsj:fs.getD j noF=fs0.getD j noF:=HSM.o j (by rw[HJ.o];exact Nat.le_refl _) hjf;have hpj:=HPAR.o fs0[j] (List.getElem_mem hjlt);have HDI:=hI (show qYB (fs.getD j noF).vars by rw[hsj,yY hjlt,hpj.1];exact hpj.2);have HPE:=hI (show blC gs (fs.map (fun f=>f.h)) (fs.getD j noF).h.t (yE (.mk uk ux um ul uc uks)) (fs.getD j noF).vars=blC gs (fs0.map (fun f=>f.h)) ((fs0.map (fun f:FnM=>f.h))[j]'(by simpa using hjlt)).t (yE (.mk uk ux um ul uc uks)) ((fs0.map (fun f:FnM=>f.h))[j]'(by simpa using hjlt)).params by
     rw[hsj,yY hjlt,hpj.1,HFH.o];simp)
    clear hsj hpj;rw[HLT2.o]at hll hlc;have HLL:=hI hll;generalize hlast:yE (.mk uk ux um ul uc uks)=lt at *;clear hlast;obtain⟨lk,lx,lm,ll,lc,lks⟩:=lt;have HLC:=hI hlc;rw[hp]at *;have hpb:p < 1000000:=by omega
    have hpi:(p:Int) < ((p+1:Nat):Int):=by omega
    have hjI:(j:Int) < (fs.length:Nat):=by omega
    have hfl16:=HB.o.fl;unfold qC at hkf;clear hp hne hkl2 hbl hll hlc hkf' hR2 hKK;simp only[qS,qZ,qB,qQ.kind,qQ.text,qQ.num,qQ.line,qQ.col,qQ.kids]at *;go_wp2
    generalize (wr.alloc _)=Z at *;obtain⟨n0,n1,n2,n3,n4,n5⟩:=HNB.o.cells;have c1:=HB2.o.c1;have⟨k0,k1,k2,k3,k4,k5,_⟩:=HLC.o.a;simp only[qQ.kind,qQ.text,qQ.num,qQ.line,qQ.col]at k0 k1 k2 k3 k4 k5;refine wRg (S:=fun w'=>Below Z.1.size Z w') 16 ?_;refine wTk 0 16 (.pointer (some ⟨B,0,none⟩)) ?_ (bD Z) ?_
    ·intro _ y;go_simp
    refine wTk 1 17 (.pointer (some ⟨B,0,none⟩)) ?_ (bD Z) ?_
    ·intro _ y;go_simp
    refine wTk 2 18 (.pointer (some ⟨B,0,none⟩)) ?_ (bD Z) ?_
    ·intro _ y;go_simp
    refine wTk 3 19 (.pointer (some ⟨B,0,none⟩)) ?_ (bD Z) ?_
    ·intro _ y;go_simp
    refine wTk 4 20 (.pointer (some ⟨B,1,none⟩)) ?_ (bD Z) ?_
    ·intro _ y;go_simp
    refine wTk 5 21 (.slice (some ⟨F,0,none⟩) fs.length FC) ?_ (bD Z) ?_
    ·intro _ y;have c1:=kP y c1;go_simp
    refine wTk 6 22 (.int .i64 j) ?_ (bD Z) ?_
    ·intro _ y;go_simp
    refine wTk 7 23 (.pointer (some ⟨F,j * 6,none⟩)) ?_ (bD Z) ?_
    ·intro _ y;go_simp
    refine wTk 8 24 (.pointer (some ⟨wr.1.size,5,none⟩)) ?_ (bD Z) ?_
    ·intro _ y;go_simp
    refine wTk 9 25 (.slice (some ⟨g2,off2,none⟩) (p+1) ca) ?_ (bD Z) ?_
    ·intro _ y;have n5:=kP y n5;go_simp
    refine wTk 10 26 (.pointer (some ⟨wr.1.size,5,none⟩)) ?_ (bD Z) ?_
    ·intro _ y;go_simp
    refine wTk 11 27 (.slice (some ⟨g2,off2,none⟩) (p+1) ca) ?_ (bD Z) ?_
    ·intro _ y;have n5:=kP y n5;go_simp
    refine wTk 12 28 (.int .i64 (p+1:Nat)) ?_ (bD Z) ?_
    ·intro _ y;go_simp
    refine wTk 13 29 (.int .i64 p) ?_ (bD Z) ?_
    ·intro _ y;clear y;have hwp:IntKind.i64.wrap (((p+1:Nat):Int) - 1)=(p:Nat):=by rw[IntWalk.i64_in _ (by omega)];omega
     have hwq:IntKind.i64.wrap (p:Nat)=(p:Nat):=IntWalk.i64_in _ (by omega);go_simp
    refine wTk 14 30 (.pointer (some ⟨g2,off2+p * 6,none⟩)) ?_ (bD Z) ?_
    ·intro _ y;go_simp;intro h;omega
    refine wTk 15 31 (.agg #[.string ⟨lk.toArray⟩, .string ⟨lx.toArray⟩, .int .u64 lm, .int .i64 ll, .int .i64 lc, .slice lq ln2 lcp]) ?_ (bD Z) ?_
    ·intro _ y;obtain⟨k0,k1,k2,k3,k4,k5⟩:=kP6 y k0 k1 k2 k3 k4 k5;go_simp
    refine wOn 16 fun K hK=>?_
    go_simp;refine(body_any B L gs fs FC Mf gv Mg Mr F cl j (.mk lk lx lm ll lc lks) (.slice lq ln2 lcp) _ (HB2.o.below (Below.refl _ _).drew) hjf (by simp;omega) (HLL.o.keep (Below.refl _ _).drew) HBLO.o HDI.o).mono ?_;rintro e w7 hX;rcases hX.cases with⟨ss,own',vv',bv,hp,rfl,hB7,hT7,hR7,hls⟩ | ⟨l',c',code,hp,rfl,hT7⟩;rotate_left
    ·exact⟨rfl,qKw.badI (ln:=l') (co:=c') (code:=code) (by rw[HP.o,HJ.o,HFU.o,<-HPE.o,hp];rfl) ((HT.o.trans (jW.of_below HBA.o)).trans ((show qJo B F (fs.getD j noF).vv Z w7 from⟨hT7.os,hT7.tape,hT7.output,hT7.size,hT7.block⟩).low HB2.o hjf))⟩
    have hT7:qJo B F (fs.getD j noF).vv Z w7:=⟨hT7.os,hT7.tape,hT7.output,hT7.size,hT7.block⟩;have hR7:vW vv' (fs.getD j noF).vv Z:=hR7;have hls:jE w7 (fun g=>Z.1.size<=g/\some g≠vv'.ownBlock) ss bv:=hls;have HB7:=hI hB7;have HTL:=hI ((HT.o.trans (jW.of_below HBA.o)).trans (hT7.low HB2.o hjf));have HLF7:=hI (qJn.more (own:=own') HB2.o (HLF.o.below HBA.o) (by omega) HJ.o hjf hT7 hR7 hls);have HPQ:=hI (HP.o.trans (by rw[HJ.o,HFU.o,<-HPE.o,hp];exact qPk _ _ _ _ _ _ _ _ (by rw[outD_more HJ.o hjf,mkD_eq HSM.o HJ.o hjf hjlt]):_=(vG gs (fs0.map (fun f=>f.h)) (ts.drop (k+1)) ((fs0.map (fun f=>f.h)).drop (j+1))).bind fun l=>.ok (qXt (setF fs j own' vv' bv) (bs++[ss])++l)));have HSZ:=hI (show(bs++[ss]).length=j+1 by rw[lL,HJ.o];rfl);refine kD hK ?_;clear hK K hX hp hB7 hT7 hR7 hls;try simp only[Act.put,pZa,pZb,pZc]
    refine wDn ?_ _;clear n0 n1 n2 n3 n4 n5 c1 k0 k1 k2 k3 k4 k5;go_wp2
    refine⟨⟨k+1,setF fs j own' vv' bv,bs++[ss],by omega,rfl,by rw[HSZ.o];rfl,by rw[HSZ.o,HCS.o,<-HBS.o,HJ.o],by rw[qQo];exact HFL.o,by rw[show(setF fs j own' vv' bv).map (fun f=>f.h)=fs.map (fun f=>f.h)from qYk hjf _ _ _];exact HFH.o,fun i hi hil=>?_,HB7.o,HLF7.o,HTL.o,by rw[HSZ.o];exact HPQ.o⟩,by simp[intOf];omega⟩;rw[HSZ.o]at hi;rw[qQo]at hil;rw[qZd (by omega)];exact HSM.o i (by rw[HJ.o];omega) hil
   case false =>
    have hkf':((qQ.mk uk ux um ul uc uks).kind == qC)=false:=hkf;have HCS:=hI (HCS.o.trans (by rw[hkf'];rfl:_=qXI (ts.take k)));have HOT:=hI (HOT.o hkf');obtain⟨qb,cb,e,hnc,_,hKK⟩:=HLA.o.kids;injection e with e1 e2 e3;subst e1 e2 e3;unfold qC at hkf;clear hkf' hKK;simp only[qS,qZ,qB,qQ.kind,qQ.text,qQ.num,qQ.line,qQ.col,qQ.kids]at *;go_wp2
    refine⟨⟨k+1,fs,bs,by omega,rfl,by rw[HJ.o],by rw[HCS.o];exact HBS.o,HFL.o,HFH.o,HSM.o,HB2.o,HLF.o.below HBA.o,HT.o.trans (jW.of_below HBA.o),by rw[HP.o,HJ.o,HOT.o]⟩,by simp[intOf];omega⟩
  ·have hke:k=ts.length:=by omega
   subst hke;have hPP:=HP.o;rw[List.drop_length,vG]at hPP;have HPP:=hI (hPP.trans (by simp only[CR.bind,lA]:_=.ok (qXt fs bs)));have HBL:=hI (show bs.length=fs.length by rw[HBS.o,List.take_length,HCN.o,HFL.o]);clear hPP;go_wp2
   go_end0;exact qKw.okI HPP.o HBL.o HFL.o HFH.o HB.o HLF.o HT.o
structure HIn(B L:Nat)(gs:List qI)(fs:List FnM)(gv fv:Value)(Mg Mf Mr:Nat)(cl:vE)(cn:Int)(w:World):Prop where
 c0:w.cell? ⟨B,0,none⟩=some gv
 c1:w.cell? ⟨B,1,none⟩=some fv
 c2:∃ u,w.cell? ⟨B,2,none⟩=some u
 c3:w.cell? ⟨B,3,none⟩=some (.map (some Mg))
 c4:w.cell? ⟨B,4,none⟩=some (.map (some Mf))
 c5:w.cell? ⟨B,5,none⟩=some (.int .i64 cn)
 c6:w.cell? ⟨B,6,none⟩=some (.map (some Mr))
 c7:∃ u,w.cell? ⟨B,7,none⟩=some u
 c8:∃ u,w.cell? ⟨B,8,none⟩=some u
 bf:∀ k,k < 9->w.frozen? ⟨B,k,none⟩=false
 grow:qQI w L gs gv
 frow:w.ownsRow L 40 6 fv fs.length (xD fnC fs)
 vrow:∀ f∈fs,qQI w L f.vars f.vv
 gm:wY w Mg (gs.map (·.name))
 fm:wY w Mf ((fs.map (fun f=>f.h)).map (·.name))
 rm:qJs w Mr cl
 cc:w.cell? ⟨cl.c,0,none⟩=some (.pointer (some ⟨B,0,none⟩))
 ce:w.cell? ⟨cl.eq,0,none⟩=some (.func (.func 81) #[] #[.pointer (some ⟨cl.c,0,none⟩)])
 b0:w.cell? ⟨1,0,none⟩=some (.int .i64 1)
 b1:w.cell? ⟨1,1,none⟩=some (.bool false)
 d0:w.cell? ⟨2,0,none⟩=some (.int .i64 64)
 d1:w.cell? ⟨2,1,none⟩=some (.bool false)
 cg:yV gs<=64
 fl:fs.length<=16
 par:∀ f∈fs,f.vars=f.h.params/\qYB f.h.params/\f.h.params.length<=64
 kb:jX w B 121
 kc:jX w cl.c 135
 ke:jX w cl.eq 136
 mne:Mg≠Mf/\Mg≠Mr/\Mf≠Mr
 lo:4 < L/\L<=B/\L<=Mg/\L<=Mf
 lv:∀ j,j < fs.length->∀ g,(fs.getD j noF).vv.ownBlock=some g->some g≠gv.ownBlock/\∀ i,i < fs.length->i≠j->some g≠(fs.getD i noF).vv.ownBlock
 wt:∃ b off cap,qZo b off cap w/\b < L
theorem HIn.a{B L:Nat}{gs:List qI}{fs:List FnM}{gv fv:Value}{Mg Mf Mr:Nat}{cl:vE}{cn:Int}{w:World}(h:HIn B L gs fs gv fv Mg Mf Mr cl cn w):w.cell? ⟨B,0,none⟩=some gv/\w.cell? ⟨B,1,none⟩=some fv/\(∃ u,w.cell? ⟨B,2,none⟩=some u)/\w.cell? ⟨B,3,none⟩=some (.map (some Mg))/\w.cell? ⟨B,4,none⟩=some (.map (some Mf))/\w.cell? ⟨B,5,none⟩=some (.int .i64 cn)/\w.cell? ⟨B,6,none⟩=some (.map (some Mr))/\(∃ u,w.cell? ⟨B,7,none⟩=some u)/\(∃ u,w.cell? ⟨B,8,none⟩=some u)/\True:=⟨h.c0,h.c1,h.c2,h.c3,h.c4,h.c5,h.c6,h.c7,h.c8,trivial⟩
theorem qPE(l:List Int)(a:Int):l.foldl (·+·) a=a+l.foldl (·+·) 0:=by
 induction l generalizing a with
 | nil=>simp
 | cons x r ih=>rw[List.foldl_cons,List.foldl_cons,ih (a+x),ih (0+x)];omega
theorem qWM(l:List qI)(v:qI):yV (l++[v])=yV l+max v.size 1:=by
 unfold yV;rw[List.map_append,List.foldl_append];rfl
theorem qJ4:∀ (l:List qI),(l.length:Int)<=yV l
 | []=>by simp[yV]
 | v :: r=>by
  have:=qJ4 r;unfold yV at *;rw[List.map_cons,List.foldl_cons,qPE];simp only[lO];omega
section
variable {B L:Nat} {gs:List qI} {fs:List FnM} {gv fv:Value} {Mg Mf Mr:Nat} {cl:vE} {cn:Int} {w w':World}
theorem HIn.gl(h:HIn B L gs fs gv fv Mg Mf Mr cl cn w):gs.length<=64:=by have:=qJ4 gs;have:=h.cg;omega
theorem HIn.below(h:HIn B L gs fs gv fv Mg Mf Mr cl cn w)(hb:Below w.1.size w w'):HIn B L gs fs gv fv Mg Mf Mr cl cn w' :=
 have k:∀ {p:Addr} {v:Value},w.cell? p=some v->w'.cell? p=some v:=fun e=>kP hb e
 have kk:∀ {b T},jX w b T->jX w' b T:=fun e=>e.turn (hb.block _ e.lt)
 ⟨k h.c0,k h.c1,by obtain⟨u,hu⟩:=h.c2;exact⟨u,k hu⟩,k h.c3,k h.c4,k h.c5,k h.c6,by obtain⟨u,hu⟩:=h.c7;exact⟨u,k hu⟩,by obtain⟨u,hu⟩:=h.c8;exact⟨u,k hu⟩,fun j hj=>(hb.frozen (p:=⟨B,j,none⟩) (show B < w.1.size from qJ h.c0)).trans (h.bf j hj),zU h.grow (fun g hg=>hb.block g (h.grow.lt g hg).2),zU h.frow (fun g hg=>hb.block g (h.frow.lt g hg).2),fun f hf=>zU (h.vrow f hf) (fun g hg=>hb.block g ((h.vrow f hf).lt g hg).2),h.gm.below hb,h.fm.below hb,h.rm.below hb,k h.cc,k h.ce,k h.b0,k h.b1,k h.d0,k h.d1,h.cg,h.fl,h.par,kk h.kb,kk h.kc,kk h.ke,h.mne,h.lo,h.lv,by obtain⟨b,off,cap,hw,hbL⟩:=h.wt;exact⟨b,off,cap,hw.below hb,hbL⟩⟩
theorem HIn.wtab(h:HIn B L gs fs gv fv Mg Mf Mr cl cn w):qKi w:=by obtain⟨b,off,cap,hw,_⟩:=h.wt;exact⟨b,off,cap,hw⟩
theorem HIn.bin{q:Option Addr}{n c F FC:Nat}(h:HIn B L gs fs (.slice q n c) (.slice (some ⟨F,0,none⟩) fs.length FC) Mg Mf Mr cl cn w):BIn B L gs fs FC Mf (.slice q n c) Mg Mr F cl w :=
 ⟨h.c0,h.c1,h.c3,h.c4,h.c6,h.c2,h.c7,h.c8,h.bf,qX2 h.frow (Nat.zero_le _),fun f hf=>qX2 (h.vrow f hf) (Nat.zero_le _),qX2 h.grow (Nat.zero_le _),h.gm,h.fm,h.rm,h.cc,h.ce,h.b0,h.b1,h.d0,h.d1,h.gl,h.fl,fun f hf=>by rw[(h.par f hf).1];exact(h.par f hf).2.2,fun f hf=>⟨[],by rw[(h.par f hf).1,lA]⟩,h.kb,h.kc,h.ke,⟨(h.frow.lt F rfl).1,h.lo.1,h.lo.2.1⟩,
  fun j hj g hg=>⟨by
   have hr:qQI w L (fs.getD j noF).vars (fs.getD j noF).vv:=by rw[yY hj];exact h.vrow _ (List.getElem_mem _)
   exact(hr.lt g hg).1,(h.lv j hj g hg).1,(h.lv j hj g hg).2⟩,h.wt⟩
end
theorem qWf(B L:Nat)(gs:List qI)(fs:List FnM)(gv fv:Value)(Mg Mf Mr:Nat)(cl:vE)(cn:Int)(t:qQ)(v:Value)(w:World)(h:HIn B L gs fs gv fv Mg Mf Mr cl cn w)(hx:t.text.length<=1000000)(hv:∃ q c,v=.slice q t.kids.length c) :
 Calls prog 98 #[.pointer (some ⟨B,0,none⟩),qZ t v] w (zP (yF ⟨gs,fs.map (fun f=>f.h)⟩ t) (fun _ u _=>u=.tuple #[]) w):=by
 obtain⟨q,c,rfl⟩:=hv;have HB:=hI (bal (Below.refl w.1.size w) (qB t (.slice q t.kids.length c)));have H2:=hI (h.below HB.o);have HN:=hI (Bx.new t (.slice q t.kids.length c) w);have hsz:(w.alloc (qB t (.slice q t.kids.length c))).1.size=w.1.size+1:=by simp
 have HNY:=hI (fun cd w'=>qQl t (.slice q t.kids.length c) cd w');have HNN:=hI (fun cd w'=>qQ5 t (.slice q t.kids.length c) cd w');have HP:=hI (show yF ⟨gs,fs.map (fun f=>f.h)⟩ t=jQ ((qQj t.text 0 gs).isNone && (qQN t.text 0 (fs.map (fun f=>f.h))).isNone) t 40 from rfl);clear h;obtain⟨k,x,m,ln,co,ks⟩:=t;simp only[qZ,qB,qS,qQ.kind,qQ.text,qQ.num,qQ.line,qQ.col,qQ.kids]at *;go_enter func98,ntmps98
 go_wp2
 generalize (w.alloc _)=W at *;obtain⟨n0,n1,n2,n3,n4,n5⟩:=HN.o.cells;have c3:=H2.o.c3;have c4:=H2.o.c4;have hlk:=(H2.o.gm.below (Below.refl _ _).drew).look x (by unfold maxLen;omega);have hlk2:=(H2.o.fm.below (Below.refl _ _).drew.drew).look x (by unfold maxLen;omega);have hcases:(∃ b i,(qQj x 0 gs).isNone=!b/\qVh x (gs.map (·.name))=b/\qVi x (gs.map (·.name))=i)/\∃ b i,(qQN x 0 (fs.map (fun f=>f.h))).isNone=!b/\qVh x ((fs.map (fun f=>f.h)).map (·.name))=b/\qVi x ((fs.map (fun f=>f.h)).map (·.name))=i:=by
  constructor
  ·cases hl:qQj x 0 gs with
   | none=>obtain⟨e1,e2⟩:=qXq hl;exact⟨false,_,rfl,e1,rfl⟩
   | some p=>obtain⟨p1,p2⟩:=p;obtain⟨e1,e2,_⟩:=qJL hl;exact⟨true,_,rfl,e1,rfl⟩
  ·cases hl:qQN x 0 (fs.map (fun f=>f.h))with
   | none=>obtain⟨e1,e2⟩:=qKJ hl;exact⟨false,_,rfl,e1,rfl⟩
   | some p=>obtain⟨p1,p2⟩:=p;obtain⟨e1,e2,_⟩:=qJK hl;exact⟨true,_,rfl,e1,rfl⟩
 obtain⟨⟨b1,i1,g1,g2,g3⟩,b2,i2,g4,g5,g6⟩:=hcases;rw[g2,g3]at hlk;rw[g5,g6]at hlk2;have HPP:=hI (HP.o.trans (by rw[g1,g4]:_=jQ (!b1 && !b2) (.mk k x m ln co ks) 40));clear g1 g2 g3 g4 g5 g6 HP;go_region
 clear hlk;go_wp2
 go_region
 clear hlk2;cases b1 <;> cases b2
 ·go_wp2_with fail
  refine(HNY.o _ _).mono ?_;rintro e w3 ⟨rfl,hb3⟩;go_wp2
  go_end0;exact zP.okI (a:=()) HPP.o rfl (HB.o.trans ((zF (zF hb3)).mono (by omega)))
 all_goals
  go_wp2_with fail
  refine(HNN.o _ _).mono ?_;rintro e w3 ⟨rfl,hb3⟩;exact⟨rfl,zP.badI HPP.o ⟨rfl,HB.o.trans ((zF (zF hb3)).mono (by omega))⟩⟩
def wP(B L:Nat)(Mg Mf Mr:Nat)(cl:vE)(p:CR HdS)(w:World)(e:Ending)(w':World):Prop :=
 match p with
 | .ok S=>e=.returned (.tuple #[])/\∃ fs gv fv,S.fs=fs.map (fun f=>f.h)/\HIn B L S.gs fs gv fv Mg Mf Mr cl (yV S.gs) w'/\jW L w w'
 | .bad ln co code=>e=.panicked [{ v:=xO ln co code,recovered:=false }]/\jW L w w'
theorem wP.okI{B L Mg Mf Mr:Nat}{cl:vE}{p:CR HdS}{w w':World}{gs:List qI}{fs:List FnM}{gv fv:Value}(hp:p=.ok ⟨gs,fs.map (fun f=>f.h)⟩)(h:HIn B L gs fs gv fv Mg Mf Mr cl (yV gs) w')(hT:jW L w w'):wP B L Mg Mf Mr cl p w (.returned (.tuple #[])) w':=by
 rw[hp];exact⟨rfl,fs,gv,fv,rfl,h,hT⟩
theorem wP.badI{B L Mg Mf Mr:Nat}{cl:vE}{p:CR HdS}{w w':World}{ln co code:Int}(hp:p=.bad ln co code)(h:jW L w w'):wP B L Mg Mf Mr cl p w (.panicked [{ v:=xO ln co code,recovered:=false }]) w':=by
 rw[hp];exact⟨rfl,h⟩
theorem qQB.turn{N:Nat}{u:qI}{w w':World}(h:qQB N u w)(hb:w'.1[N]? = w.1[N]?):qQB N u w' :=
 have e:=fun {o:Nat} {u:Value} (e:w.cell? ⟨N,o,none⟩=some u)=>(cB (w:=w) (w':=w') (a:=⟨N,o,none⟩) hb).trans e
 ⟨e h.c0,e h.c1,e h.c2,e h.c3,fun j hj=>(World.frozen?_of_block hb).trans (h.f j hj)⟩
theorem qQB.four{N:Nat}{u d:qI}{w:World}(h:qQB N u w):qQB N d ((((w.setCell ⟨N,0,none⟩ (.string ⟨d.name.toArray⟩)).setCell ⟨N,1,none⟩ (.int .i64 d.t.1)).setCell ⟨N,2,none⟩ (.bool d.t.2)).setCell ⟨N,3,none⟩ (.int .i64 d.size)):=by
 have⟨h0,h1,h2,h3,_⟩:=h.a;have hf:=h.f;constructor
 case f=>intro j hj;have:=hf j hj;simp[go_sem, *]
 all_goals simp[go_sem, *]
theorem qQB.sized{N:Nat}{u:qI}{w:World}(h:qQB N u w)(n:Int):qQB N { u with size:=n } (w.setCell ⟨N,3,none⟩ (.int .i64 n)):=by
 have⟨h0,h1,h2,h3,_⟩:=h.a;have hf:=h.f;constructor
 case f=>intro j hj;have:=hf j hj;simp[go_sem, *]
 all_goals simp[go_sem, *]
theorem qUc(w:World)(N b:Nat)(h:b≠N)(u0 u1 u2 u3:Value):((((w.setCell ⟨N,0,none⟩ u0).setCell ⟨N,1,none⟩ u1).setCell ⟨N,2,none⟩ u2).setCell ⟨N,3,none⟩ u3).1[b]? = w.1[b]?:=by
 rw[hS _ _ _ _ h,hS _ _ _ _ h,hS _ _ _ _ h,hS _ _ _ _ h]
theorem qQ7{b N:Nat}{a w:World}(h:Below b a w)(hN:b<=N)(u0 u1 u2 u3:Value):Below b a ((((w.setCell ⟨N,0,none⟩ u0).setCell ⟨N,1,none⟩ u1).setCell ⟨N,2,none⟩ u2).setCell ⟨N,3,none⟩ u3) :=
 jR (jR (jR (jR h hN _) hN _) hN _) hN _
theorem jW.set{L:Nat}{w w':World}(h:jW L w w'){N:Nat}(hN:L<=N)(o:Nat)(u:Value):jW L w (w'.setCell ⟨N,o,none⟩ u) :=
 h.trans ⟨rfl,rfl,rfl,by simp,fun k _ hk=>hS _ _ _ _ (show k≠N by omega)⟩
section
variable {B L:Nat} {gs:List qI} {fs:List FnM} {gv fv:Value} {Mg Mf Mr:Nat} {cl:vE} {cn:Int} {w w':World}
theorem HIn.set5(h:HIn B L gs fs gv fv Mg Mf Mr cl cn w)(n:Int):HIn B L gs fs gv fv Mg Mf Mr cl n (w.setCell ⟨B,5,none⟩ (.int .i64 n)):=by
 have st:∀ b,b≠B->(w.setCell ⟨B,5,none⟩ (.int .i64 n)).1[b]? = w.1[b]?:=fun b hb=>hS _ _ _ _ hb
 have sK:∀ {b S},jX w b S->S≠121->(w.setCell ⟨B,5,none⟩ (.int .i64 n)).1[b]? = w.1[b]?:=fun k hSq=>st _ (k.ne h.kb hSq)
 have sM:∀ {b},(∃ es c,w.1[b]? = some (Obj.map es c))->(w.setCell ⟨B,5,none⟩ (.int .i64 n)).1[b]? = w.1[b]?:=fun k=>st _ (vU k h.kb)
 have sL:∀ b,b < L->(w.setCell ⟨B,5,none⟩ (.int .i64 n)).1[b]? = w.1[b]?:=fun b hb=>st b (by have:=h.lo;omega)
 have kcell:∀ {b o u},(w.setCell ⟨B,5,none⟩ (.int .i64 n)).1[b]? = w.1[b]?->w.cell? ⟨b,o,none⟩=some u->(w.setCell ⟨B,5,none⟩ (.int .i64 n)).cell? ⟨b,o,none⟩=some u:=fun hb hc=>(cB hb).trans hc
 have cBq:∀ {o:Nat} {u:Value},o≠5->w.cell? ⟨B,o,none⟩=some u->(w.setCell ⟨B,5,none⟩ (.int .i64 n)).cell? ⟨B,o,none⟩=some u:=fun {o u} ho hc=>by
  exact(World.cell?_setCell_other _ _ _ _ (by simpa using Ne.symm ho)).trans hc
 have hl:=h.lo;refine⟨cBq (by decide) h.c0,cBq (by decide) h.c1,?_,cBq (by decide) h.c3,cBq (by decide) h.c4,?_,cBq (by decide) h.c6,?_,?_,?_,zU h.grow (fun g hg=>sK (zE h.grow hg) (by decide)),zU h.frow (fun g hg=>sK (zE h.frow hg) (by decide)),fun f hf=>zU (h.vrow f hf) (fun g hg=>sK (zE (h.vrow f hf) hg) (by decide)),h.gm.kept (sM h.gm.isMap),h.fm.kept (sM h.fm.isMap),h.rm.kept (sM h.rm.isMap),kcell (sK h.kc (by decide)) h.cc,kcell (sK h.ke (by decide)) h.ce,kcell (sL 1 (by omega)) h.b0,kcell (sL 1 (by omega)) h.b1,kcell (sL 2 (by omega)) h.d0,kcell (sL 2 (by omega)) h.d1,h.cg,h.fl,h.par,h.kb.set _ _ _,h.kc.set _ _ _,h.ke.set _ _ _,h.mne,h.lo,h.lv,?_⟩
 ·obtain⟨u,hu⟩:=h.c2;exact⟨u,cBq (by decide) hu⟩
 ·exact World.cell?_setCell_same _ _ _ h.c5
 ·obtain⟨u,hu⟩:=h.c7;exact⟨u,cBq (by decide) hu⟩
 ·obtain⟨u,hu⟩:=h.c8;exact⟨u,cBq (by decide) hu⟩
 ·intro k hk;exact(World.frozen?_setCell _ _ _ _).trans (h.bf k hk)
 ·obtain⟨b,off,cap,hw,hbL⟩:=h.wt;exact⟨b,off,cap,hw.low hbL hl.1 (fun k _ hk=>sL k hk),hbL⟩
theorem HIn.glob(h:HIn B L gs fs gv fv Mg Mf Mr cl cn w){d:qI}{gv':Value}(hs:w.1.size<=w'.1.size)
 (st:∀ k,k < w.1.size->k≠B->k≠Mg->some k≠gv.ownBlock->w'.1[k]? = w.1[k]?)
 (c0:w'.cell? ⟨B,0,none⟩=some gv') (cBq:∀ o,o≠0->w'.cell? ⟨B,o,none⟩=w.cell? ⟨B,o,none⟩) (fB:∀ o,w'.frozen? ⟨B,o,none⟩=w.frozen? ⟨B,o,none⟩) (kB:jX w' B 121)
 (hm:wY w' Mg (gs.map (·.name)++[d.name])) (hrow:w'.ownsRow L 42 4 gv' (gs.length+1) (xD qQe gs++qQe d))
 (hgv:gv'.ownBlock=gv.ownBlock\/∃ g,w.1.size<=g/\gv'.ownBlock=some g) (hcn:cn=yV (gs++[d])) (h64:cn<=64):HIn B L (gs++[d]) fs gv' fv Mg Mf Mr cl (yV (gs++[d])) w':=by
 have kG:∀ g,gv.ownBlock=some g->jX w g 42:=fun g hg=>zE h.grow hg
 have sK:∀ {b S},jX w b S->S≠121->S≠42->w'.1[b]? = w.1[b]?:=fun k h1 h2=>st _ k.lt (k.ne h.kb h1) (fun e=>vU h.gm.isMap k e.symm) (fun e=>(k.ne (kG _ e.symm) h2) rfl)
 have sM:∀ {b},(∃ es c,w.1[b]? = some (Obj.map es c))->b≠Mg->w'.1[b]? = w.1[b]?:=fun k hne=>st _ (by obtain⟨es,c,k⟩:=k;exact qZF k) (vU k h.kb) hne (fun e=>vU k (kG _ e.symm) rfl)
 have hl:=h.lo;have sL:∀ b,b < w.1.size->b < L->w'.1[b]? = w.1[b]?:=fun b hb hL=>st b hb (by omega) (by omega) (fun e=>by have:=(h.grow.lt b e.symm).1;omega)
 have kcell:∀ {b o u},w'.1[b]? = w.1[b]?->w.cell? ⟨b,o,none⟩=some u->w'.cell? ⟨b,o,none⟩=some u:=fun hb hc=>(cB hb).trans hc
 have vr:∀ j,j < fs.length->qQI w L (fs.getD j noF).vars (fs.getD j noF).vv:=fun j hj=>by rw[yY hj];exact h.vrow _ (List.getElem_mem _)
 have sV:∀ j,j < fs.length->∀ g,(fs.getD j noF).vv.ownBlock=some g->w'.1[g]? = w.1[g]?:=fun j hj g hg=>by
  have k:jX w g 42:=zE (vr j hj) hg;exact st g k.lt (k.ne h.kb (by decide)) (fun e=>vU h.gm.isMap k e.symm) (h.lv j hj g hg).1
 subst hcn;refine⟨c0,(cBq 1 (by decide)).trans h.c1,?_,(cBq 3 (by decide)).trans h.c3,(cBq 4 (by decide)).trans h.c4,(cBq 5 (by decide)).trans h.c5,(cBq 6 (by decide)).trans h.c6,?_,?_,fun k hk=>(fB k).trans (h.bf k hk),?_,zU h.frow (fun g hg=>sK (zE h.frow hg) (by decide) (by decide)),?_,?_,h.fm.kept (sM h.fm.isMap (Ne.symm h.mne.1)),h.rm.kept (sM h.rm.isMap (Ne.symm h.mne.2.1)),kcell (sK h.kc (by decide) (by decide)) h.cc,kcell (sK h.ke (by decide) (by decide)) h.ce,kcell (sL 1 (qJ h.b0) (by omega)) h.b0,kcell (sL 1 (qJ h.b0) (by omega)) h.b1,kcell (sL 2 (qJ h.d0) (by omega)) h.d0,kcell (sL 2 (qJ h.d0) (by omega)) h.d1,h64,h.fl,h.par,kB,h.kc.turn (sK h.kc (by decide) (by decide)),h.ke.turn (sK h.ke (by decide) (by decide)),h.mne,h.lo,?_,?_⟩
 ·obtain⟨u,hu⟩:=h.c2;exact⟨u,(cBq 2 (by decide)).trans hu⟩
 ·obtain⟨u,hu⟩:=h.c7;exact⟨u,(cBq 7 (by decide)).trans hu⟩
 ·obtain⟨u,hu⟩:=h.c8;exact⟨u,(cBq 8 (by decide)).trans hu⟩
 ·unfold qQI;rw[lL,qZt];simpa[xD]using hrow
 ·intro f hf;obtain⟨j,hj,rfl⟩:=qZQ hf;exact zU (vr j hj) (sV j hj)
 ·rw[List.map_append];exact hm
 ·intro j hj g hg;have hh:=h.lv j hj g hg;refine⟨fun e=>?_,hh.2⟩;rcases hgv with e2 | ⟨g',hg',e2⟩
  ·exact hh.1 (e.trans e2)
  ·rw[e2]at e;injection e with e;have:=((vr j hj).lt g hg).2;omega
 ·obtain⟨b,off,cap,hw,hbL⟩:=h.wt;exact⟨b,off,cap,hw.low hbL hl.1 sL,hbL⟩
theorem HIn.func(h:HIn B L gs fs gv fv Mg Mf Mr cl cn w){f:FnM}{fv':Value}(hs:w.1.size<=w'.1.size)
 (st:∀ k,k < w.1.size->k≠B->k≠Mf->some k≠fv.ownBlock->w'.1[k]? = w.1[k]?)
 (c1:w'.cell? ⟨B,1,none⟩=some fv') (cBq:∀ o,o≠1->w'.cell? ⟨B,o,none⟩=w.cell? ⟨B,o,none⟩) (fB:∀ o,w'.frozen? ⟨B,o,none⟩=w.frozen? ⟨B,o,none⟩) (kB:jX w' B 121)
 (hm:wY w' Mf (((fs.map (fun f=>f.h)).map (·.name))++[f.h.name])) (hrow:w'.ownsRow L 40 6 fv' (fs.length+1) (xD fnC fs++fnC f))
 (hv:qQI w' L f.vars f.vv) (hvn:∀ g,f.vv.ownBlock=some g->w.1.size<=g) (hp:f.vars=f.h.params/\qYB f.h.params/\f.h.params.length<=64) (h16:fs.length < 16):HIn B L gs (fs++[f]) gv fv' Mg Mf Mr cl cn w':=by
 have kG:∀ g,fv.ownBlock=some g->jX w g 40:=fun g hg=>zE h.frow hg
 have sK:∀ {b S},jX w b S->S≠121->S≠40->w'.1[b]? = w.1[b]?:=fun k h1 h2=>st _ k.lt (k.ne h.kb h1) (fun e=>vU h.fm.isMap k e.symm) (fun e=>(k.ne (kG _ e.symm) h2) rfl)
 have sM:∀ {b},(∃ es c,w.1[b]? = some (Obj.map es c))->b≠Mf->w'.1[b]? = w.1[b]?:=fun k hne=>st _ (by obtain⟨es,c,k⟩:=k;exact qZF k) (vU k h.kb) hne (fun e=>vU k (kG _ e.symm) rfl)
 have hl:=h.lo;have sL:∀ b,b < w.1.size->b < L->w'.1[b]? = w.1[b]?:=fun b hb hL=>st b hb (by omega) (by omega) (fun e=>by have:=(h.frow.lt b e.symm).1;omega)
 have kcell:∀ {b o u},w'.1[b]? = w.1[b]?->w.cell? ⟨b,o,none⟩=some u->w'.cell? ⟨b,o,none⟩=some u:=fun hb hc=>(cB hb).trans hc
 have vr:∀ j,j < fs.length->qQI w L (fs.getD j noF).vars (fs.getD j noF).vv:=fun j hj=>by rw[yY hj];exact h.vrow _ (List.getElem_mem _)
 have gl:(fs++[f]).length=fs.length+1:=by simp
 have gold:∀ j,j < fs.length->(fs++[f]).getD j noF=fs.getD j noF:=fun j hj=>by simp[List.getD_eq_getElem?_getD,List.getElem?_append_left hj]
 have gnew:(fs++[f]).getD fs.length noF=f:=by simp[List.getD_eq_getElem?_getD]
 refine⟨(cBq 0 (by decide)).trans h.c0,c1,?_,(cBq 3 (by decide)).trans h.c3,(cBq 4 (by decide)).trans h.c4,(cBq 5 (by decide)).trans h.c5,(cBq 6 (by decide)).trans h.c6,?_,?_,fun k hk=>(fB k).trans (h.bf k hk),zU h.grow (fun g hg=>sK (zE h.grow hg) (by decide) (by decide)),?_,?_,h.gm.kept (sM h.gm.isMap h.mne.1),?_,h.rm.kept (sM h.rm.isMap (Ne.symm h.mne.2.2)),kcell (sK h.kc (by decide) (by decide)) h.cc,kcell (sK h.ke (by decide) (by decide)) h.ce,kcell (sL 1 (qJ h.b0) (by omega)) h.b0,kcell (sL 1 (qJ h.b0) (by omega)) h.b1,kcell (sL 2 (qJ h.d0) (by omega)) h.d0,kcell (sL 2 (qJ h.d0) (by omega)) h.d1,h.cg,by rw[gl];omega,?_,kB,h.kc.turn (sK h.kc (by decide) (by decide)),h.ke.turn (sK h.ke (by decide) (by decide)),h.mne,h.lo,?_,?_⟩
 ·obtain⟨u,hu⟩:=h.c2;exact⟨u,(cBq 2 (by decide)).trans hu⟩
 ·obtain⟨u,hu⟩:=h.c7;exact⟨u,(cBq 7 (by decide)).trans hu⟩
 ·obtain⟨u,hu⟩:=h.c8;exact⟨u,(cBq 8 (by decide)).trans hu⟩
 ·rw[lL,qZt];simpa[xD]using hrow
 ·intro f' hf;rcases List.mem_append.1 hf with hf | hf
  ·obtain⟨j,hj,rfl⟩:=qZQ hf;exact zU (vr j hj) (fun g hg=>sK (zE (vr j hj) hg) (by decide) (by decide))
  ·simp only[List.mem_singleton]at hf;subst hf;exact hv
 ·rw[List.map_append,List.map_append];exact hm
 ·intro f' hf;rcases List.mem_append.1 hf with hf | hf
  ·exact h.par f' hf
  ·simp only[List.mem_singleton]at hf;subst hf;exact hp
 ·intro j hj g hg;rw[gl]at hj;by_cases hjl:j < fs.length
  ·rw[gold j hjl]at hg;have hh:=h.lv j hjl g hg;refine⟨hh.1,fun i hi hne e=>?_⟩;rw[gl]at hi;by_cases hil:i < fs.length
   ·rw[gold i hil]at e;exact hh.2 i hil hne e
   ·have:i=fs.length:=by omega
    subst this;rw[gnew]at e;have:=hvn g e.symm;have:=((vr j hjl).lt g hg).2;omega
  ·have:j=fs.length:=by omega
   subst this;rw[gnew]at hg;have hgn:=hvn g hg;refine⟨fun e=>by have:=(h.grow.lt g e.symm).2;omega,fun i hi hne e=>?_⟩;rw[gl]at hi;have hil:i < fs.length:=by omega
   rw[gold i hil]at e;have:=((vr i hil).lt g e.symm).2;omega
 ·obtain⟨b,off,cap,hw,hbL⟩:=h.wt;exact⟨b,off,cap,hw.low hbL hl.1 sL,hbL⟩
end
end Go.Proofs.YtiajhekdhhhghaaGreatDoor
