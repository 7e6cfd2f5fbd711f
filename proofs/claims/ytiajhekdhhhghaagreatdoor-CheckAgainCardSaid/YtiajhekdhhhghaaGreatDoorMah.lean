/- Walks. -/
import Derived.Lib.BufferMore
import Derived.Test.YtiajhekdhhhghaaGreatDoorMag
set_option linter.all false
set_option maxHeartbeats 8000000
set_option maxRecDepth 100000
namespace Go.Proofs.YtiajhekdhhhghaaGreatDoor
open Tryz Go.Proofs.Tryz
open Go Go.RowKit
def jX(w:World)(b:Nat)(T:TypeId):Prop:=∃ cs fr,w.1[b]? = some (.cells cs T fr)
theorem jX.turn{w w':World}{b:Nat}{T:TypeId}(h:jX w b T)(hb:w'.1[b]? = w.1[b]?):jX w' b T:=by
 obtain⟨cs,fr,h⟩:=h;exact⟨cs,fr,hb.trans h⟩
theorem zE{w:World}{base T size n:Nat}{v:Value}{xs:List Value}(h:w.ownsRow base T size v n xs){g:Nat}(hg:v.ownBlock=some g):jX w g T:=by
 rcases h.2 with⟨rfl,_⟩ | ⟨g',cap,cur,rfl,_,hgg,_⟩
 ·cases hg
 ·injection hg with hg;subst hg;exact⟨cur,_,hgg⟩
theorem jX.ne{w:World}{a b:Nat}{S T:TypeId}(h:jX w a S)(k:jX w b T)(hST:S≠T):a≠b:=by
 rintro rfl;obtain⟨cs,fr,h⟩:=h;obtain⟨cs',fr',k⟩:=k;rw[h]at k;injection k with k;injection k with _ k _;exact hST k
theorem wY.isMap{w:World}{b:Nat}{L:List (List UInt8)}(h:wY w b L):∃ es c,w.1[b]? = some (.map es c):=by
 obtain⟨D,⟨es,c,h1,_⟩,_⟩:=h;exact⟨es,c,h1⟩
theorem qJs.isMap{w:World}{b:Nat}{cl:vE}(h:qJs w b cl):∃ es c,w.1[b]? = some (.map es c):=by
 obtain⟨n,D,⟨es,c,h1,_⟩,_⟩:=h;exact⟨es,c,h1⟩
theorem vU{w:World}{a b:Nat}{T:TypeId}(h:∃ es c,w.1[a]? = some (.map es c))(k:jX w b T):a≠b:=by
 rintro rfl;obtain⟨es,c,h⟩:=h;obtain⟨cs,fr,k⟩:=k;rw[h]at k;cases k
structure WIn(B L:Nat)(gs:List qI)(fs:List FnM)(ci FC Mf:Nat)(gv:Value)(Mg Mo Mr F:Nat)(cl:vE)(w:World):Prop where
 rd:RIn B gs fs ci FC Mf gv Mg Mo Mr F cl w
 kb:jX w B 121
 kc:jX w cl.c 135
 ke:jX w cl.eq 136
 mg:Mo≠Mg
 mf:Mo≠Mf
 mr:Mo≠Mr
 lo:L<=Mo/\L<=F/\4 < L/\L<=B
 lv:∀ g,(fs.getD ci noF).vv.ownBlock=some g->L<=g/\some g≠gv.ownBlock/\∀ j,j < fs.length->j≠ci->some g≠(fs.getD j noF).vv.ownBlock
 wt:∃ b off cap,qZo b off cap w/\b < L
structure yX(F Mo:Nat)(vv:Value)(w w':World):Prop where
 os:w'.os=w.os
 tape:w'.tape=w.tape
 output:w'.output=w.output
 size:w.1.size<=w'.1.size
 block:∀ k,k < w.1.size->k≠F->k≠Mo->some k≠vv.ownBlock->w'.1[k]? = w.1[k]?
theorem yX.of_below{F Mo:Nat}{vv:Value}{w w':World}(h:Below w.1.size w w'):yX F Mo vv w w':=⟨h.os,h.tape,h.output,h.size,fun k hk _ _ _=>h.block k hk⟩
theorem yX.trans{F Mo:Nat}{vv vv':Value}{u v w:World}(h:yX F Mo vv u v)(k:yX F Mo vv' v w)(hv:vv'.ownBlock=vv.ownBlock\/∃ g,u.1.size<=g/\vv'.ownBlock=some g):yX F Mo vv u w :=
 ⟨k.os.trans h.os,k.tape.trans h.tape,k.output.trans h.output,Nat.le_trans h.size k.size,fun b hb h1 h2 h3=>(k.block b (Nat.lt_of_lt_of_le hb h.size) h1 h2 (fun e=>by
  rcases hv with hv | ⟨g,hg,hv⟩
  ·exact h3 (e.trans hv)
  ·rw[hv]at e;injection e with e;omega)).trans (h.block b hb h1 h2 h3)⟩
def xU(fs:List FnM)(ci:Nat)(own:List qI)(vv:Value):List FnM:=fs.set ci { fs.getD ci noF with vars:=own,vv:=vv }
theorem qZC{fs:List FnM}{ci:Nat}(h:ci < fs.length)(own:List qI)(vv:Value):(xU fs ci own vv).getD ci noF={ fs.getD ci noF with vars:=own,vv:=vv }:=by
 simp[xU,List.getD_eq_getElem?_getD,h]
theorem wV{fs:List FnM}{ci j:Nat}(h:j≠ci)(own:List qI)(vv:Value):(xU fs ci own vv).getD j noF=fs.getD j noF:=by
 simp[xU,List.getD_eq_getElem?_getD,List.getElem?_set,Ne.symm h]
theorem qJY{fs:List FnM}{ci:Nat}(h:ci < fs.length)(own:List qI)(vv:Value):(xU fs ci own vv).map (·.h)=fs.map (·.h):=by
 apply List.ext_getElem?;intro i;by_cases hi:i=ci
 ·subst hi;simp[xU,List.getD_eq_getElem?_getD,h]
 ·simp[xU,List.getElem?_set,Ne.symm hi]
theorem kW(fs:List FnM)(ci:Nat)(own:List qI)(vv:Value):(xU fs ci own vv).length=fs.length:=by simp[xU]
theorem qXB{fs:List FnM}{ci:Nat}(h:ci < fs.length):xU fs ci (fs.getD ci noF).vars (fs.getD ci noF).vv=fs:=by
 unfold xU;apply List.ext_getElem?;intro i;by_cases hi:i=ci
 ·subst hi;simp[List.getD_eq_getElem?_getD,h]
 ·simp[List.getElem?_set,Ne.symm hi]
theorem qJZ(fs:List FnM){ci:Nat}(h:ci < fs.length)(own own':List qI)(vv vv':Value):xU (xU fs ci own vv) ci own' vv'=xU fs ci own' vv':=by
 have e:=qZC h own vv;unfold xU at *;rw[e,List.set_set]
theorem WIn.below{B L:Nat}{gs:List qI}{fs:List FnM}{ci FC Mf:Nat}{gv:Value}{Mg Mo Mr F:Nat}{cl:vE}{w w':World}(h:WIn B L gs fs ci FC Mf gv Mg Mo Mr F cl w)(hb:Below w.1.size w w'):WIn B L gs fs ci FC Mf gv Mg Mo Mr F cl w':=by
 have hk:∀ {b T},jX w b T->jX w' b T:=fun k=>k.turn (hb.block _ (by obtain⟨cs,fr,k⟩:=k;exact qZF k))
 obtain⟨b,off,cap,hw,hbL⟩:=h.wt;exact⟨h.rd.below hb,hk h.kb,hk h.kc,hk h.ke,h.mg,h.mf,h.mr,h.lo,h.lv,b,off,cap,hw.below hb,hbL⟩
theorem qVC{α:Type}{f:α->List Value}{n:Nat}(hf:∀ a,(f a).length=n):∀ (L:List α) (i k:Nat) (a':α) (u:Value) (h:i < L.length),k < n->f a'=(f L[i]).set k u->xD f (L.set i a')=(xD f L).set (i * n+k) u
 | a :: r,0,k,a',u,_,hk,he=>by
  simp only[List.getElem_cons_zero]at he;rw[List.set_cons_zero,xD,xD,he,Nat.zero_mul,Nat.zero_add,List.set_append_left _ _ (by rw[hf];exact hk)]
 | a :: r,i+1,k,a',u,h,hk,he=>by
  simp only[List.getElem_cons_succ]at he;have e:(i+1) * n+k=n+(i * n+k):=by rw[Nat.add_mul];omega
  rw[List.set_cons_succ,xD,xD,qVC hf r i k a' u (by simpa using h) hk he,e,List.set_append_right _ _ (by rw[hf];omega),hf,Nat.add_sub_cancel_left]
 | [],_,_,_,_,h,_,_=>by simp at h
theorem qZQ{fs:List FnM}{f:FnM}(h:f∈fs):∃ j,j < fs.length/\fs.getD j noF=f:=by
 obtain⟨j,hj,e⟩:=List.mem_iff_getElem.1 h;exact⟨j,hj,by rw[yY hj,e]⟩
section
variable {B L:Nat} {gs:List qI} {fs:List FnM} {ci FC Mf:Nat} {gv:Value} {Mg Mo Mr F:Nat} {cl:vE} {w w':World}
theorem WIn.grow(h:WIn B L gs fs ci FC Mf gv Mg Mo Mr F cl w){d:qI}{vv':Value}(T:yX F Mo (fs.getD ci noF).vv w w')
 (hm:wY w' Mo ((fs.getD ci noF).vars.map (·.name)++[d.name])) (hrow:w'.ownsRow 0 42 4 vv' ((fs.getD ci noF).vars.length+1) (xD qQe (fs.getD ci noF).vars++qQe d))
 (hF:∀ cur,w.1[F]? = some (.cells cur 40 (0,0))->w'.1[F]? = some (.cells (cur.setIfInBounds (ci * 6+4) vv') 40 (0,0)))
 (hvv:vv'.ownBlock=(fs.getD ci noF).vv.ownBlock\/∃ g,w.1.size<=g/\vv'.ownBlock=some g) (hlen:(fs.getD ci noF).vars.length < 64) :
 WIn B L gs (xU fs ci ((fs.getD ci noF).vars++[d]) vv') ci FC Mf gv Mg Mo Mr F cl w':=by
 have hi:=h.rd.hi;have e:=h.rd.en;have hMo:=e.om.isMap;have kF:jX w F 40:=zE h.rd.frow rfl;have kV:∀ g,(fs.getD ci noF).vv.ownBlock=some g->jX w g 42:=fun g hg=>zE e.vrow hg
 -- a block of another kind,or below L,stays
 have st:∀ b,b < w.1.size->b≠F->b≠Mo->some b≠(fs.getD ci noF).vv.ownBlock->w'.1[b]? = w.1[b]?:=T.block;have stK:∀ {b S},jX w b S->S≠40->S≠42->w'.1[b]? = w.1[b]?:=fun {b S} k h1 h2=>by
  have hlt:b < w.1.size:=by obtain⟨cs,fr,k⟩:=k;exact qZF k
  exact st b hlt (k.ne kF h1) (fun e=>vU hMo k e.symm) (fun e=>(k.ne (kV b e.symm) h2) rfl)
 have stM:∀ {b},(∃ es c,w.1[b]? = some (.map es c))->b≠Mo->w'.1[b]? = w.1[b]?:=fun {b} k hne=>by
  have hlt:b < w.1.size:=by obtain⟨es,c,k⟩:=k;exact qZF k
  exact st b hlt (vU k kF) hne (fun e=>vU k (kV b e.symm) rfl)
 have stL:∀ b,b < w.1.size->b < L->w'.1[b]? = w.1[b]?:=fun b hb hL=>st b hb (by have:=h.lo;omega) (by have:=h.lo;omega) (fun e=>by have:=(h.lv b e.symm).1;omega)
 have cBq:=stK h.kb (by decide) (by decide);have kcell:∀ {b o u},w'.1[b]? = w.1[b]?->w.cell? ⟨b,o,none⟩=some u->w'.cell? ⟨b,o,none⟩=some u:=fun hb hc=>(cB hb).trans hc
 have stG:∀ g,gv.ownBlock=some g->w'.1[g]? = w.1[g]?:=fun g hg=>by
  have k:jX w g 42:=zE e.grow hg;have hlt:=(e.grow.lt g hg).2;exact st g hlt (k.ne kF (by decide)) (fun e=>vU hMo k e.symm) (fun e=>by have:=(h.lv g e.symm).2.1;exact this hg.symm)
 have stV:∀ j,j < fs.length->j≠ci->∀ g,(fs.getD j noF).vv.ownBlock=some g->w'.1[g]? = w.1[g]?:=fun j hj hne g hg=>by
  have hr:qQI w 0 (fs.getD j noF).vars (fs.getD j noF).vv:=by rw[yY hj];exact h.rd.vrow _ (List.getElem_mem _)
  have k:jX w g 42:=zE hr hg;have hlt:=(hr.lt g hg).2;exact st g hlt (k.ne kF (by decide)) (fun e=>vU hMo k e.symm) (fun e=>(h.lv g e.symm).2.2 j hj hne hg.symm)
 have hself:=qZC hi ((fs.getD ci noF).vars++[d]) vv';have hvars:qQI w' 0 ((fs.getD ci noF).vars++[d]) vv':=by
  unfold qQI;rw[lL,qZt];simpa[xD]using hrow
 obtain⟨b,off,cap,hwt,hbL⟩:=h.wt;have hwt':qZo b off cap w':=by
  have s4:=stL 4 (qJ hwt.tg) h.lo.2.2.1;have sb:w'.1[b]? = w.1[b]?:=stL b (qJ (hwt.tn 0 (by omega))) hbL;exact⟨kcell s4 hwt.tg,fun i hi=>kcell sb (hwt.tn i hi),fun i hi=>kcell sb (hwt.tw i hi),fun i hi=>kcell sb (hwt.ts i hi)⟩
 have hfrow:w'.ownsRow 0 40 6 (.slice (some ⟨F,0,none⟩) fs.length FC) fs.length (xD fnC (xU fs ci ((fs.getD ci noF).vars++[d]) vv')):=by
  have hfl:xD fnC (xU fs ci ((fs.getD ci noF).vars++[d]) vv')=(xD fnC fs).set (ci * 6+4) vv':=by
   unfold xU;refine qVC qZu fs ci 4 _ vv' hi (by omega) ?_;rw[yY hi];rfl
  refine⟨by rw[qVB qZu,kW], .inr ?_⟩;rcases h.rd.frow.2 with⟨hx,_⟩ | ⟨g,cp,cur,hs,hb,hg,h1,h2,h3,h4⟩
  ·cases hx
  ·injection hs with hs1 hs2 hs3;injection hs1 with hs1;injection hs1 with hs1 _ _;subst hs1 hs3;exact⟨F,FC,_,rfl,hb,hF cur hg,h1,h2,by simpa using h3,by rw[hfl,<-h4];simp[List.take_set]⟩
 have hfn4:w'.cell? ⟨F,ci * 6+4,none⟩=some vv':=by
  have hl:ci < (xU fs ci ((fs.getD ci noF).vars++[d]) vv').length:=by rw[kW];exact hi
  have hfr:=hfrow;rw[<-kW fs ci ((fs.getD ci noF).vars++[d]) vv']at hfr;have:=qQm (i:=ci) (k:=4) qZu hfr rfl hl (by omega) (u:=vv') (by
   have e2:=yY hl;rw[hself]at e2;rw[<-e2];rfl)
  exact this
 have r1:w'.1[(1:Nat)]? = w.1[(1:Nat)]?:=stL 1 (qJ e.b0) (by have:=h.lo;omega);have r2:w'.1[(2:Nat)]? = w.1[(2:Nat)]?:=stL 2 (qJ e.d0) (by have:=h.lo;omega);refine⟨⟨by rw[kW];exact hi,?_,?_,kcell cBq h.rd.c4,?_,?_,?_,?_,?_,?_⟩,h.kb.turn cBq,h.kc.turn (stK h.kc (by decide) (by decide)),h.ke.turn (stK h.ke (by decide) (by decide)),h.mg,h.mf,h.mr,h.lo,?_,b,off,cap,hwt',hbL⟩
 ·rw[hself];exact⟨kcell cBq e.c0,kcell cBq e.c3,kcell cBq e.c6,kcell cBq e.c7,kcell cBq e.c8,hfn4,zU e.grow stG,hvars,e.gm.kept (stM e.gm.isMap (Ne.symm h.mg)),by rw[List.map_append];exact hm,
   (by obtain⟨n,D,⟨es,k,g1,g2⟩,g3⟩:=e.rm;exact⟨n,D,⟨es,k,(stM e.rm.isMap (Ne.symm h.mr)).trans g1,g2⟩,g3⟩),kcell (stK h.kc (by decide) (by decide)) e.cc,kcell (stK h.ke (by decide) (by decide)) e.ce,⟨b,off,cap,hwt'⟩,kcell r1 e.b0,kcell r1 e.b1,kcell r2 e.d0,kcell r2 e.d1,e.gl,by simp only[lL,lO,lZ];omega⟩
 ·rw[kW];exact kcell cBq h.rd.c1
 ·rw[kW];exact hfrow
 ·intro f hf;obtain⟨j,hj,rfl⟩:=qZQ hf;rw[kW]at hj;by_cases hjc:j=ci
  ·subst hjc;rw[hself];exact hvars
  ·rw[wV hjc];have hr:qQI w 0 (fs.getD j noF).vars (fs.getD j noF).vv:=by rw[yY hj];exact h.rd.vrow _ (List.getElem_mem _)
   exact zU hr (stV j hj hjc)
 ·rw[qJY hi];exact h.rd.fm.kept (stM h.rd.fm.isMap (Ne.symm h.mf))
 ·intro f hf;obtain⟨j,hj,rfl⟩:=qZQ hf;rw[kW]at hj;by_cases hjc:j=ci
  ·subst hjc;rw[hself];obtain⟨rest,hr⟩:=h.rd.par (fs.getD j noF) (by rw[yY hj];exact List.getElem_mem _);exact⟨rest++[d],by show _++[d]=_++(rest++[d]);rw[hr,List.append_assoc]⟩
  ·rw[wV hjc,yY hj];exact h.rd.par _ (List.getElem_mem _)
 ·rw[kW];exact h.rd.fl
 ·intro f hf;obtain⟨j,hj,rfl⟩:=qZQ hf;rw[kW]at hj;by_cases hjc:j=ci
  ·subst hjc;rw[hself];simp only[lL,lO,lZ];omega
  ·rw[wV hjc,yY hj];exact h.rd.vl _ (List.getElem_mem _)
 ·rw[hself];intro g hg;change vv'.ownBlock=some g at hg;rcases hvv with hvv | ⟨g',hg',hvv⟩
  ·rw[hvv]at hg;obtain⟨h1,h2,h3⟩:=h.lv g hg;refine⟨h1,h2,fun j hj hne=>?_⟩;rw[kW]at hj;rw[wV hne];exact h3 j hj hne
  ·rw[hvv]at hg;injection hg with hg;subst hg;refine⟨?_,fun e2=>?_,fun j hj hne e2=>?_⟩
   ·have:=h.lo;have:=h.rd.frow.lt F rfl;omega
   ·have:=(e.grow.lt g' e2.symm).2;omega
   ·rw[kW]at hj;rw[wV hne,yY hj]at e2;have:=((h.rd.vrow _ (List.getElem_mem hj)).lt g' e2.symm).2;omega
end
theorem qZL{w:World}{b:Nat}{L:List qI}{v:Value}(h:qQI w b L v):∃ q c,v=.slice q L.length c:=by
 rcases h.2 with⟨rfl,h0⟩ | ⟨g,cap,cur,rfl,_⟩
 ·exact⟨none,0,by rw[h0]⟩
 ·exact⟨_,_,rfl⟩
theorem qYb{w:World}{base T size n:Nat}{v:Value}{xs:List Value}(h:w.ownsRow base T size v n xs){g:Nat}(hg:v.ownBlock=some g)(o:Nat):w.frozen? ⟨g,o,none⟩=false:=by
 rcases h.2 with⟨rfl,_⟩ | ⟨g',cap,cur,rfl,_,hgg,_⟩
 ·cases hg
 ·injection hg with hg;subst hg;simp[World.frozen?,hgg]
def qKS(B L:Nat)(gs:List qI)(fs:List FnM)(ci FC Mf:Nat)(gv:Value)(Mg Mo Mr F:Nat)(cl:vE)(p:CR (List qI))(w:World)(e:Ending)(w':World):Prop :=
 match p with
 | .ok own'=>e=.returned (.tuple #[])/\∃ vv',WIn B L gs (xU fs ci own' vv') ci FC Mf gv Mg Mo Mr F cl w'/\yX F Mo (fs.getD ci noF).vv w w'/\(vv'.ownBlock=(fs.getD ci noF).vv.ownBlock\/∃ g,w.1.size<=g/\vv'.ownBlock=some g)
 | .bad ln co code=>e=.panicked [{ v:=xO ln co code,recovered:=false }]/\yX F Mo (fs.getD ci noF).vv w w'
theorem qKS.badI{B L:Nat}{gs:List qI}{fs:List FnM}{ci FC Mf:Nat}{gv:Value}{Mg Mo Mr F:Nat}{cl:vE}{p:CR (List qI)}{w w':World}{ln co code:Int}(hp:p=.bad ln co code)(hb:Below w.1.size w w') :
 qKS B L gs fs ci FC Mf gv Mg Mo Mr F cl p w (.panicked [{ v:=xO ln co code,recovered:=false }]) w':=by
 rw[hp];exact⟨rfl,yX.of_below hb⟩
theorem qKS.okI{B L:Nat}{gs:List qI}{fs:List FnM}{ci FC Mf:Nat}{gv:Value}{Mg Mo Mr F:Nat}{cl:vE}{p:CR (List qI)}{w w':World}{own':List qI}(hp:p=.ok own')(vv':Value)(h:WIn B L gs (xU fs ci own' vv') ci FC Mf gv Mg Mo Mr F cl w')(hT:yX F Mo (fs.getD ci noF).vv w w')
 (hv:vv'.ownBlock=(fs.getD ci noF).vv.ownBlock\/∃ g,w.1.size<=g/\vv'.ownBlock=some g):qKS B L gs fs ci FC Mf gv Mg Mo Mr F cl p w (.returned (.tuple #[])) w':=by
 rw[hp];exact⟨rfl,vv',h,hT,hv⟩
theorem qVo(v:qI):∀ u∈qQe v,u.oneCell'=true:=by
 intro u hu;simp[qQe]at hu;rcases hu with rfl | rfl | rfl | rfl <;> rfl
theorem local_any(B L:Nat)(gs:List qI)(fs:List FnM)(ci FC Mf:Nat)(gv:Value)(Mg Mo Mr F:Nat)(cl:vE)(t u:qQ)(r:List qQ)(v:Value)(w:World)(h:WIn B L gs fs ci FC Mf gv Mg Mo Mr F cl w)
 (hks:t.kids=u :: r) (hL:L<=w.1.size) (hl:xZ w (· < L) t v) (hx:t.text.length<=1000000) :
 Calls prog 121 #[.pointer (some ⟨B,0,none⟩),qZ t v] w (qKS B L gs fs ci FC Mf gv Mg Mo Mr F cl (qJJ (fs.getD ci noF).vars t) w):=by
 obtain⟨q,c,rfl,hc1,hc2,hK⟩:=hl.kids;have HBL:=hI (bal (Below.refl w.1.size w) (qB t (.slice q t.kids.length c)));have HN:=hI (Bx.new t (.slice q t.kids.length c) w);have HW:=hI (h.below HBL.o);have HDE:=hI (fun w' (hb:Below w.1.size w w')=>qJc L t u r (.slice q t.kids.length c) w' hks (h.rd.en.wt.below hb) (by have:=hb.size;omega) (xZ.move (fun g hg hok=>⟨hok,hb.block g (by omega)⟩) t _ hl) hx);have HPB:=hI (show qJJ (fs.getD ci noF).vars t=(jQ (qQj t.text 0 (fs.getD ci noF).vars).isNone t 40).bind fun _=>(jQ (decide ((fs.getD ci noF).vars.length < 64)) t 45).bind fun _=>.ok ((fs.getD ci noF).vars++[qZr t])from rfl);have HNY:=hI (fun cd w'=>qQl t (.slice q t.kids.length c) cd w');have HNN:=hI (fun cd w'=>qQ5 t (.slice q t.kids.length c) cd w');have HNA:=hI (fun b cd w'=>qQk b t (.slice q t.kids.length c) cd w');have hsz:(w.alloc (qB t (.slice q t.kids.length c))).1.size=w.1.size+1:=by simp
 have HDT:=hI (show(qZr t).name=t.text from rfl);have H0:=hI h;have hBw:B < w.1.size:=qJ h.rd.c1;clear h hl hK hks;obtain⟨k,x,m,ln,co,ks⟩:=t;generalize hD:qZr (.mk k x m ln co ks)=D at *;simp only[qZ,qB,qS,qQ.kind,qQ.text,qQ.num,qQ.line,qQ.col,qQ.kids]at *;go_enter func121,ntmps121
 go_wp2
 generalize (w.alloc _)=W at *;obtain⟨n0,n1,n2,n3,n4,n5⟩:=HN.o.cells;have e:=HW.o.rd.en;have c8:=e.c8;have hlk:=(e.om.below (Below.refl _ _).drew).look x (by unfold maxLen;omega);cases hlo:qQj x 0 (fs.getD ci noF).vars with
 | some p =>
  obtain⟨p1,p2⟩:=p;have HP:=hI (HPB.o.trans (by rw[hlo];rfl:_=.bad ln co 40));obtain⟨e1,e2,_⟩:=qJL hlo;rw[e1,e2]at hlk;clear e e1 e2 hlo;go_region
  go_wp2_with fail
  refine(HNN.o _ _).mono ?_;rintro e w3 ⟨rfl,hb3⟩;exact⟨rfl,qKS.badI HP.o (HBL.o.trans ((zF hb3).mono (by omega)))⟩
 | none =>
  have HP:=hI (HPB.o.trans (by rw[hlo];rfl:_=(jQ (decide ((fs.getD ci noF).vars.length < 64)) (.mk k x m ln co ks) 45).bind fun _=>.ok ((fs.getD ci noF).vars++[D])));obtain⟨e1,e2⟩:=qXq hlo;have hpos:=qZI.1.1 hlo;have HPOS:=hI hpos;rw[e1,e2]at hlk;clear e e1 e2 hlo hpos;go_region
  go_wp2_with fail
  refine(HNY.o _ _).mono ?_;rintro e w3 ⟨rfl,hb3⟩;have hb3:=zF hb3;have HW3:=hI (HW.o.below hb3);have HB3:=hI (HBL.o.trans (hb3.mono (by omega)));obtain⟨n0,n1,n2,n3,n4,n5⟩:=(HN.o.below hb3).cells;have HN3:=hI (HN.o.below hb3);obtain⟨vq,vc,hvv⟩:=qZL HW3.o.rd.en.vrow;simp only at hvv;have c7:=HW3.o.rd.en.c7;have fv:=HW3.o.rd.en.fv;rw[hvv]at fv;have HVV:=hI hvv;have hs3:=HB3.o.size;clear hb3 hlk c8 HW hvv;by_cases hlen:(fs.getD ci noF).vars.length < 64
  ·have HLEN:=hI hlen;have HQ:=hI (HP.o.trans (by rw[decide_eq_true hlen];rfl:_=.ok ((fs.getD ci noF).vars++[D])));have hl63:((fs.getD ci noF).vars.length:Int) < 64:=by omega
   have HOL:=hI (show ∃ ol:Nat,ol=(fs.getD ci noF).vars.length from⟨_,rfl⟩);obtain⟨ol,hol⟩:=HOL.o;have HOLE:=hI hol;rw[<-hol]at fv hl63;clear hol hlen;go_wp2_with fail
   refine(HNY.o _ _).mono ?_;rintro e w4 ⟨rfl,hb4⟩;have HW4:=hI (HW3.o.below hb4);have HB4:=hI (HB3.o.trans (hb4.mono hs3));have HN4:=hI (HN3.o.below hb4);obtain⟨n0,n1,n2,n3,n4,n5⟩:=HN4.o.cells;have HDC:=hI (HDE.o w4 HB4.o);have hs4:=HB4.o.size;clear hb4 c7 fv HN3 HW3;go_wp2_with fail
   refine(HDC.o).mono ?_;rintro e w5 ⟨rfl,hb5⟩;unfold qXK;have HW5:=hI (HW4.o.below hb5);have HB5:=hI (HB4.o.trans (hb5.mono hs4));have hs5:=HB5.o.size;have hz:=bal (Below.refl w5.1.size w5) (qYx D);have HWZ:=hI (HW5.o.below hz);have HVZ:=hI (qQB.new D w5);have HBZ:=hI (HB5.o.trans (hz.mono hs5));have hszZ:(w5.alloc (qYx D)).1.size=w5.1.size+1:=by simp
   have hMo5:Mo < w5.1.size:=HW5.o.rd.en.om.lt;unfold qYx qQe at *;clear n0 n1 n2 n3 n4 n5 hb5 hz HDC HN4 HW4 HNY HNN HNA;go_wp2
   generalize (w5.alloc _)=Z at *;have c8:=HWZ.o.rd.en.c8;have v0:=HVZ.o.c0;obtain⟨w6,hrun,hm6,hg6⟩:=(HWZ.o.rd.en.om.below (Below.refl _ _).drew).store D.name (by rw[HDT.o];unfold maxLen;omega) (by rw[HDT.o];exact HPOS.o) (by simp only[List.length_map];have:=HLEN.o;omega);have hol2:(((fs.getD ci noF).vars.map (·.name)).length:Int)=(ol:Nat):=by rw[List.length_map,HOLE.o]
   try simp only at hol2 hrun
   rw[hol2]at hrun;refine wRg (S:=fun w'=>Below Z.1.size Z w') 7 ?_;refine wTk 0 36 (.pointer (some ⟨B,0,none⟩)) ?_ (bD Z) ?_
   ·intro _ y;go_simp
   refine wTk 1 37 (.pointer (some ⟨B,0,none⟩)) ?_ (bD Z) ?_
   ·intro _ y;go_simp
   refine wTk 2 38 (.pointer (some ⟨B,8,none⟩)) ?_ (bD Z) ?_
   ·intro _ y;go_simp
   refine wTk 3 39 (.map (some Mo)) ?_ (bD Z) ?_
   ·intro _ y;have c8:=kP y c8;have v0:=kP y v0;go_simp
   refine wTk 4 40 (.pointer (some ⟨w5.1.size,0,none⟩)) ?_ (bD Z) ?_
   ·intro _ y;go_simp
   refine wTk 5 41 (.string ⟨D.name.toArray⟩) ?_ (bD Z) ?_
   ·intro _ y;have c8:=kP y c8;have v0:=kP y v0;go_simp
   refine wTk 6 42 (.int .i64 ol) ?_ (bD Z) ?_
   ·intro _ y;go_simp
   refine wOn 7 fun K hK=>?_
   go_simp;refine kD hK ?_;clear hK K;refine wDn ?_ _;have hM:=HWZ.o.rd.en.om.isMap;have k6:∀ b,b < Z.1.size->b≠Mo->w6.1[b]? = Z.1[b]?:=fun b hb hne=>hg6.block b hb (fun e=>hne (by injection e))
   have kF:jX Z F 40:=zE HWZ.o.rd.frow rfl;have hFM:F≠Mo:=(vU hM kF).symm;have hBM:B≠Mo:=(vU hM HWZ.o.kb).symm;have hNM:w5.1.size≠Mo:=by omega
   have kc:∀ {b o u},b < Z.1.size->b≠Mo->Z.cell? ⟨b,o,none⟩=some u->w6.cell? ⟨b,o,none⟩=some u:=fun hb hne hc=>(cB (k6 _ hb hne)).trans hc
   have hBZ:=qJ HWZ.o.rd.c1;have hFZ:=HWZ.o.rd.frow.lt F rfl;have c7:=kc hBZ hBM HWZ.o.rd.en.c7;have fv:=kc hFZ.2 hFM HWZ.o.rd.en.fv;try simp only at fv
   rw[HVV.o,<-HOLE.o]at fv;have v0:=kc HVZ.o.lt hNM HVZ.o.c0;have v1:=kc HVZ.o.lt hNM HVZ.o.c1;have v2:=kc HVZ.o.lt hNM HVZ.o.c2;have v3:=kc HVZ.o.lt hNM HVZ.o.c3;have hvk:∀ g,(Value.slice vq ol vc).ownBlock=some g->jX Z g 42/\g < w5.1.size:=fun g hg=>by
    have hr:=HW5.o.rd.en.vrow;try simp only at hr
    rw[HVV.o,<-HOLE.o]at hr;have hr2:=HWZ.o.rd.en.vrow;try simp only at hr2
    rw[HVV.o,<-HOLE.o]at hr2;exact⟨zE hr2 hg,(hr.lt g hg).2⟩
   have hneB:some B≠(Value.slice vq ol vc).ownBlock:=fun e=>(HWZ.o.kb.ne (hvk B e.symm).1 (by decide)) rfl
   have hneF:some F≠(Value.slice vq ol vc).ownBlock:=fun e=>(kF.ne (hvk F e.symm).1 (by decide)) rfl
   have hneN:some w5.1.size≠(Value.slice vq ol vc).ownBlock:=fun e=>by have:=(hvk _ e.symm).2;omega
   have hrow6:w6.ownsRow 0 42 4 (.slice vq ol vc) ol (xD qQe (fs.getD ci noF).vars):=by
    have hr:=HWZ.o.rd.en.vrow;try simp only at hr
    rw[HVV.o]at hr;unfold qQI at hr;rw[<-HOLE.o]at hr;exact zU hr (fun g hg=>k6 g (by have:=(hvk g hg).2;omega) (vU hM (hvk g hg).1).symm)
   have HROW:=hI hrow6;have hs6:Z.1.size<=w6.1.size:=hg6.size;have HG6:=hI hg6;have HM6:=hI hm6;have HK6:=hI k6;clear hg6 hm6 hrow6 k6 kc hrun c8 HVZ;go_wp2
   refine wRg (S:=fun w'=>∀ b,b < w6.1.size->some b≠(Value.slice vq ol vc).ownBlock->w'.1[b]? = w6.1[b]?) 16 ?_;refine wTk 0 43 (.pointer (some ⟨B,0,none⟩)) ?_ ((fun _ _ _=>rfl)) ?_
   ·intro _ y;go_simp
   refine wTk 1 44 (.pointer (some ⟨B,0,none⟩)) ?_ ((fun _ _ _=>rfl)) ?_
   ·intro _ y;go_simp
   refine wTk 2 45 (.pointer (some ⟨B,7,none⟩)) ?_ ((fun _ _ _=>rfl)) ?_
   ·intro _ y;go_simp
   refine wTk 3 46 (.pointer (some ⟨F,ci * 6,none⟩)) ?_ ((fun _ _ _=>rfl)) ?_
   ·intro _ y;have c7:=(cB (y _ (qJ c7) hneB)).trans c7;go_simp
   refine wTk 4 47 (.pointer (some ⟨B,0,none⟩)) ?_ ((fun _ _ _=>rfl)) ?_
   ·intro _ y;go_simp
   refine wTk 5 48 (.pointer (some ⟨B,0,none⟩)) ?_ ((fun _ _ _=>rfl)) ?_
   ·intro _ y;go_simp
   refine wTk 6 49 (.pointer (some ⟨B,7,none⟩)) ?_ ((fun _ _ _=>rfl)) ?_
   ·intro _ y;go_simp
   refine wTk 7 50 (.pointer (some ⟨F,ci * 6,none⟩)) ?_ ((fun _ _ _=>rfl)) ?_
   ·intro _ y;have c7:=(cB (y _ (qJ c7) hneB)).trans c7;go_simp
   refine wTk 8 51 (.pointer (some ⟨F,ci * 6,none⟩)) ?_ ((fun _ _ _=>rfl)) ?_
   ·intro _ y;go_simp
   refine wTk 9 52 (.pointer (some ⟨F,ci * 6+4,none⟩)) ?_ ((fun _ _ _=>rfl)) ?_
   ·intro _ y;go_simp
   refine wTk 10 53 (.slice vq ol vc) ?_ ((fun _ _ _=>rfl)) ?_
   ·intro _ y;have fv:=(cB (y _ (qJ fv) hneF)).trans fv;go_simp
   refine wTk 11 54 (.agg #[.string ⟨D.name.toArray⟩, .int .i64 D.t.1, .bool D.t.2, .int .i64 D.size]) ?_ ((fun _ _ _=>rfl)) ?_
   ·intro _ y;have v0:=(cB (y _ (qJ v0) hneN)).trans v0;have v1:=(cB (y _ (qJ v1) hneN)).trans v1;have v2:=(cB (y _ (qJ v2) hneN)).trans v2;have v3:=(cB (y _ (qJ v3) hneN)).trans v3;go_simp
   refine wOn 12 fun K hK=>?_
   go_simp;refine kK hK (fun b hb _=>Below.heap_alloc w6.drew _ b hb) ?_;clear hK K;refine wOn 13 fun K hK=>?_
   refine qQJ (lo:=0) (dd:=56) (news:=qQe D) underlying27 info42 (by decide) rfl (by decide) _ _ rfl rfl HROW.o.drew (Nat.zero_le _) rfl rfl rfl rfl (qVo D) (by omega) (fun v9 w9 ho9 hg9 hbk9=>?_);obtain⟨q9,c9,rfl⟩:∃ q c,v9=.slice q (ol+1) c:=by
    rcases ho9.2 with⟨_,h0⟩ | ⟨g,cap,cur,rfl,_⟩
    ·omega
    ·exact⟨_,_,rfl⟩
   have S9:∀ b,b < w6.1.size->some b≠(Value.slice vq ol vc).ownBlock->w9.1[b]? = w6.1[b]?:=fun b hb hne=>(hg9.block b (by simp;omega) hne).trans (Below.heap_alloc w6.drew _ b hb)
   refine kK hK S9 ?_;clear hK K;refine wOn 14 fun K hK=>?_
   go_simp;refine kK hK S9 ?_;clear hK K;refine wOn 15 fun K hK=>?_
   go_simp;refine kK hK S9 ?_;clear hK K;have hF6:F < w6.1.size:=qJ fv;have fv9:=(cB (S9 F hF6 hneF)).trans fv;have ff9:w9.frozen? ⟨F,ci * 6+4,none⟩=false:=(World.frozen?_of_block (S9 F hF6 hneF)).trans ((World.frozen?_of_block (HK6.o F hFZ.2 hFM)).trans (qYb HWZ.o.rd.frow rfl _));have hs9:w6.1.size+1<=w9.1.size:=by have:=hg9.size;simpa using this
   refine wOn 16 fun K hK=>?_
   go_simp;refine kD hK ?_;clear hK K;refine wDn ?_ _;have HO9:=hI ho9;have HG9:=hI hg9;have HBK9:=hI hbk9;have HS9:=hI S9;clear c7 fv v0 v1 v2 v3 fv9 ff9 ho9 hg9 hbk9 S9;go_wp2
   go_end0;have hi:=H0.o.rd.hi
   -- blocks of the first world
   have base:∀ b,b < w.1.size->b≠F->b≠Mo->some b≠(fs.getD ci noF).vv.ownBlock->(w9.setCell ⟨F,ci * 6+4,none⟩ (.slice q9 (ol+1) c9)).1[b]? = w.1[b]?:=fun b hb h1 h2 h3=>by
    rw[hS _ _ _ _ h1];refine(HS9.o b (by omega) ?_).trans ((HK6.o b (by omega) h2).trans (HBZ.o.block b hb));rw[HOLE.o,<-HVV.o];exact h3
   have hT:yX F Mo (fs.getD ci noF).vv w (w9.setCell ⟨F,ci * 6+4,none⟩ (.slice q9 (ol+1) c9)) :=
    ⟨(rfl:(w9.setCell ⟨F,ci * 6+4,none⟩ (.slice q9 (ol+1) c9)).os=w9.os).trans <| HG9.o.os.trans (HG6.o.os.trans HBZ.o.os),by simpa using HG9.o.tape.trans (HG6.o.tape.trans HBZ.o.tape),(rfl:(w9.setCell ⟨F,ci * 6+4,none⟩ (.slice q9 (ol+1) c9)).output=w9.output).trans <| HG9.o.output.trans (HG6.o.output.trans HBZ.o.output),by simp;omega,base⟩
   have hvv':(Value.slice q9 (ol+1) c9).ownBlock=(fs.getD ci noF).vv.ownBlock\/∃ g,w.1.size<=g/\(Value.slice q9 (ol+1) c9).ownBlock=some g:=by
    rcases HBK9.o with h1 | h1
    ·left
     rw[h1,HOLE.o,<-HVV.o]
    ·right
     exact⟨_,by simp;omega,h1⟩
   refine qKS.okI HQ.o _ ?_ hT hvv';have hMF:Mo≠F:=hFM.symm;refine H0.o.grow (d:=D) hT ?_ ?_ ?_ hvv' HLEN.o
   ·refine wY.kept HM6.o ?_;rw[hS _ _ _ _ hMF];exact HS9.o Mo (by omega) (fun e=>vU hM (hvk Mo e.symm).1 rfl)
   ·rw[<-HOLE.o];refine zU HO9.o (fun g hg=>hS _ _ _ _ ?_);rcases HBK9.o with h1 | h1
    ·rw[h1]at hg;exact(kF.ne (hvk g hg).1 (by decide)).symm
    ·rw[h1]at hg;injection hg with hg;simp at hg;show g≠F
     omega
   ·intro cur hcur;refine Lib.heap_setCell_same ?_ _;exact(HS9.o F (by omega) hneF).trans ((HK6.o F hFZ.2 hFM).trans ((HBZ.o.block F (qZF hcur)).trans hcur))
  ·have HQ:=hI (HP.o.trans (by rw[decide_eq_false hlen];rfl:_=.bad ln co 45));obtain⟨ol,hol⟩:∃ ol:Nat,ol=(fs.getD ci noF).vars.length:=⟨_,rfl⟩;have hl63:(64:Int)<=(ol:Nat):=by omega
   rw[<-hol]at fv;clear hlen hol;go_wp2_with fail
   refine(HNA.o _ _ _).mono ?_;rintro e w4 (⟨hbt,rfl,hb4⟩ | ⟨hbt,rfl,hb4⟩)
   ·exfalso;have:=of_decide_eq_true hbt;omega
   exact⟨rfl,qKS.badI HQ.o (HB3.o.trans (hb4.mono hs3))⟩
structure qQg where
 tv:Value
 ev:Value
 hv:Value
 lv:Value
def sxC:Sx->qQg->List Value
 | .mk op l c _ _ fn _ _,s=>[.string ⟨op.toArray⟩, .int .i64 l, .int .i64 c,s.tv,s.ev, .int .i64 fn,s.hv,s.lv]
def sxV:Sx->qQg->Value
 | .mk op l c _ _ fn _ _,s=>.agg #[.string ⟨op.toArray⟩, .int .i64 l, .int .i64 c,s.tv,s.ev, .int .i64 fn,s.hv,s.lv]
theorem sxC_len(e:Sx)(s:qQg):(sxC e s).length=8:=by cases e;rfl
def qVN:List Sx->List qQg->List Value
 | t :: ts,v :: vs=>sxC t v++qVN ts vs
 | _,_=>[]
mutual
def wL(w:World)(ok:Nat->Prop):Sx->qQg->Prop
 | .mk _ _ _ tg es _ th el,s=>qU w ok tg s.tv/\qU w ok es s.ev/\(∃ vs,(∀ g,s.hv.ownBlock=some g->ok g)/\w.ownsRow 0 73 8 s.hv th.length (qVN th vs)/\yZ w ok th vs) /\
  ∃ vs,(∀ g,s.lv.ownBlock=some g->ok g)/\w.ownsRow 0 73 8 s.lv el.length (qVN el vs)/\yZ w ok el vs
def yZ(w:World)(ok:Nat->Prop):List Sx->List qQg->Prop
 | [],[]=>True
 | t :: ts,v :: vs=>wL w ok t v/\yZ w ok ts vs
 | _,_=>False
end
def jE(w:World)(ok:Nat->Prop)(ss:List Sx)(v:Value):Prop:=∃ vs,(∀ g,v.ownBlock=some g->ok g)/\w.ownsRow 0 73 8 v ss.length (qVN ss vs)/\yZ w ok ss vs
mutual
theorem wL.move{w w':World}{ok ok':Nat->Prop}(hm:∀ g,g < w.1.size->ok g->ok' g/\w'.1[g]? = w.1[g]?):∀ (t:Sx) (v:qQg),wL w ok t v->wL w' ok' t v
 | .mk _ _ _ tg es _ th el,s,h=>by
  obtain⟨h1,h2,⟨vs,h3,h4,h5⟩,us,h6,h7,h8⟩:=h;exact⟨h1.move hm,h2.move hm,⟨vs,fun g hg=>(hm g (h4.lt g hg).2 (h3 g hg)).1,zU h4 (fun g hg=>(hm g (h4.lt g hg).2 (h3 g hg)).2),yZ.move hm th vs h5⟩,
   us,fun g hg=>(hm g (h7.lt g hg).2 (h6 g hg)).1,zU h7 (fun g hg=>(hm g (h7.lt g hg).2 (h6 g hg)).2),yZ.move hm el us h8⟩
theorem yZ.move{w w':World}{ok ok':Nat->Prop}(hm:∀ g,g < w.1.size->ok g->ok' g/\w'.1[g]? = w.1[g]?):∀ (ts:List Sx) (vs:List qQg),yZ w ok ts vs->yZ w' ok' ts vs
 | [],[],_=>trivial
 | t :: ts,v :: vs,h=>⟨wL.move hm t v h.1,yZ.move hm ts vs h.2⟩
 | [],_ :: _,h=>h.elim
 | _ :: _,[],h=>h.elim
end
theorem jE.move{w w':World}{ok ok':Nat->Prop}{ss:List Sx}{v:Value}(h:jE w ok ss v)(hm:∀ g,g < w.1.size->ok g->ok' g/\w'.1[g]? = w.1[g]?):jE w' ok' ss v:=by
 obtain⟨vs,h1,h2,h3⟩:=h;exact⟨vs,fun g hg=>(hm g (h2.lt g hg).2 (h1 g hg)).1,zU h2 (fun g hg=>(hm g (h2.lt g hg).2 (h1 g hg)).2),yZ.move hm ss vs h3⟩
theorem jE.nil(w:World)(ok:Nat->Prop):jE w ok [] (.slice none 0 0):=⟨[],fun g h=>by simp[Value.ownBlock]at h,World.ownsRow_nil _ _ _ _,trivial⟩
theorem jE.shape{w:World}{ok:Nat->Prop}{ss:List Sx}{v:Value}(h:jE w ok ss v):∃ q c,v=.slice q ss.length c:=by
 obtain⟨vs,_,h2,_⟩:=h;rcases h2.2 with⟨rfl,h0⟩ | ⟨g,cap,cur,rfl,_⟩
 ·exact⟨none,0,by rw[h0]⟩
 ·exact⟨_,_,rfl⟩
theorem yZ.length{w:World}{ok:Nat->Prop}:∀ (ts:List Sx) (vs:List qQg),yZ w ok ts vs->ts.length=vs.length
 | [],[],_=>rfl
 | _ :: ts,_ :: vs,h=>by simp[yZ.length ts vs h.2]
 | [],_ :: _,h=>h.elim
 | _ :: _,[],h=>h.elim
theorem qWb:∀ (ts us:List Sx) (vs xs:List qQg),ts.length=vs.length->qVN (ts++us) (vs++xs)=qVN ts vs++qVN us xs
 | [],us,[],xs,_=>rfl
 | t :: ts,us,v :: vs,xs,h=>by simp only[lC,qVN,qWb ts us vs xs (by simpa using h),List.append_assoc]
 | [],_,_ :: _,_,h=>by simp at h
 | _ :: _,_,[],_,h=>by simp at h
theorem yZ.append{w:World}{ok:Nat->Prop}:∀ (ts us:List Sx) (vs xs:List qQg),yZ w ok ts vs->yZ w ok us xs->yZ w ok (ts++us) (vs++xs)
 | [],_,[],_,_,h=>h
 | _ :: ts,us,_ :: vs,xs,h,h'=>⟨h.1,yZ.append ts us vs xs h.2 h'⟩
 | [],_,_ :: _,_,h,_=>h.elim
 | _ :: _,_,[],_,h,_=>h.elim
def kH(w:World)(lo:Nat)(ok:Nat->Prop)(ss:List Sx)(v:Value):Prop:=∃ vs,w.ownsRow lo 73 8 v ss.length (qVN ss vs)/\(∀ g,v.ownBlock=some g->ok g)/\yZ w (fun g=>lo<=g/\ok g/\some g≠v.ownBlock) ss vs
theorem kH.nil(w:World)(lo:Nat)(ok:Nat->Prop):kH w lo ok [] (.slice none 0 0):=⟨[],World.ownsRow_nil _ _ _ _,fun g h=>by simp[Value.ownBlock]at h,trivial⟩
theorem kH.lies{w:World}{lo:Nat}{ok:Nat->Prop}{ss:List Sx}{v:Value}(h:kH w lo ok ss v):jE w (fun g=>lo<=g/\ok g) ss v:=by
 obtain⟨vs,h1,h2,h3⟩:=h;exact⟨vs,fun g hg=>⟨(h1.lt g hg).1,h2 g hg⟩,qX2 h1 (Nat.zero_le _),yZ.move (fun g _ hg=>⟨⟨hg.1,hg.2.1⟩,rfl⟩) _ vs h3⟩
theorem kH.move{w w':World}{lo:Nat}{ok ok':Nat->Prop}{ss:List Sx}{v:Value}(h:kH w lo ok ss v)(hm:∀ g,g < w.1.size->lo<=g->ok g->ok' g/\w'.1[g]? = w.1[g]?):kH w' lo ok' ss v:=by
 obtain⟨vs,h1,h2,h3⟩:=h;exact⟨vs,zU h1 (fun g hg=>(hm g (h1.lt g hg).2 (h1.lt g hg).1 (h2 g hg)).2),fun g hg=>(hm g (h1.lt g hg).2 (h1.lt g hg).1 (h2 g hg)).1,yZ.move (fun g hlt hg=>⟨⟨hg.1,(hm g hlt hg.1 hg.2.1).1,hg.2.2⟩,(hm g hlt hg.1 hg.2.1).2⟩) _ vs h3⟩
theorem kH.lt{w:World}{lo:Nat}{ok:Nat->Prop}{ss:List Sx}{v:Value}(h:kH w lo ok ss v):∀ g,v.ownBlock=some g->lo<=g/\g < w.1.size:=by
 obtain⟨vs,h1,_⟩:=h;exact h1.lt
theorem kH.shape{w:World}{lo:Nat}{ok:Nat->Prop}{ss:List Sx}{v:Value}(h:kH w lo ok ss v):∃ q n c,v=.slice q n c:=by
 obtain⟨vs,h1,_⟩:=h;rcases h1.2 with⟨rfl,_⟩ | ⟨g,cap,cur,rfl,_⟩
 ·exact⟨none,0,0,rfl⟩
 ·exact⟨_,_,_,rfl⟩
theorem wL.one{w:World}{ok:Nat->Prop}{t:Sx}{s:qQg}(h:wL w ok t s):∀ u∈sxC t s,u.oneCell'=true:=by
 cases t with
 | mk op l c tg es fn th el =>
  obtain⟨h1,h2,⟨vs,h3,h4,h5⟩,us,h6,h7,h8⟩:=h;have o3:s.hv.oneCell'=true:=by rcases h4.2 with⟨e,_⟩ | ⟨g,cap,cur,e,_⟩ <;> rw[e] <;> rfl
  have o4:s.lv.oneCell'=true:=by rcases h7.2 with⟨e,_⟩ | ⟨g,cap,cur,e,_⟩ <;> rw[e] <;> rfl
  intro u hu;simp[sxC]at hu;rcases hu with rfl | rfl | rfl | rfl | rfl | rfl | rfl | rfl
  ·rfl
  ·rfl
  ·rfl
  ·exact h1.one
  ·exact h2.one
  ·rfl
  ·exact o3
  ·exact o4
theorem info73:(prog.info? 73).map (fun i=>(i.zero,i.size,i.bytes))=some (some (.agg #[.string ⟨#[]⟩, .int .i64 0, .int .i64 0, .slice none 0 0, .slice none 0 0, .int .i64 0, .slice none 0 0, .slice none 0 0]),8,136):=by kernel_rfl
theorem append_sx{o:Oper}{a:Act}{K:Act->World->Prop}{Q:Exit->Act->World->Prop}{w:World}{lo SZ dd:Nat}{ok:Nat->Prop}{acc:List Sx}{e:Sx}{v:Value}{u:qQg}(s x:Operand)
 (ho:o.op=.call { callee:=.builtin .append,args:=#[s,x],argTypes:=#[38,38] }) (hd:o.dst=some dd) (hB:kH w lo ok acc v) (hE:wL w (fun g=>lo<=g/\ok g/\some g≠v.ownBlock) e u) (hlo:lo<=w.1.size)
 (hok:ok (w.1.size+1)) (hs:a.eval s=v) (hSq:w.1.size=SZ) (hx:a.eval x=.slice (some ⟨SZ,0,none⟩) 1 1) (hn:acc.length < 1000000)
 (h:∀ v' w',kH w' lo ok (acc++[e]) v'->(w.alloc (.cells (sxC e u).toArray 73)).grownBy w' v.ownBlock->K (a.put (some dd) v') w') :
 o.wp prog a (w.alloc (.cells (sxC e u).toArray 73)) K Q:=by
 obtain⟨vs,h1,h2,h3⟩:=hB;refine qQJ underlying38 info73 (by decide) rfl (by decide) s x ho hd h1 hlo hs hSq hx (sxC_len e u) hE.one hn fun v' w' ho' hg' hbk=>h v' w' ?_ hg'
 have hlen:=yZ.length acc vs h3;have hst:∀ g,g < w.1.size->lo<=g/\ok g/\some g≠v.ownBlock->(lo<=g/\ok g/\some g≠v'.ownBlock)/\w'.1[g]? = w.1[g]?:=fun g hg hk=>by
  refine⟨⟨hk.1,hk.2.1,fun e=>?_⟩,(hg'.block g (by simp;omega) hk.2.2).trans (Below.heap_alloc w _ g hg)⟩;rcases hbk with h | h
  ·exact hk.2.2 (e.trans h)
  ·rw[h]at e;injection e with e;omega
 refine⟨vs++[u],?_,fun g hg=>?_,yZ.append acc [e] vs [u] (yZ.move hst acc vs h3) ⟨hE.move hst,trivial⟩⟩
 ·rw[qWb acc [e] vs [u] hlen,lL];simpa[qVN]using ho'
 ·rcases hbk with h | h
  ·exact h2 g (h ▸ hg)
  ·rw[h]at hg;injection hg with hg;subst hg;exact hok
theorem qVT{ops:Array Oper}{rest:List Oper}{o:Oper}{a:Act}{Q:Exit->Act->World->Prop}{w:World}{lo SZ dd:Nat}{ok:Nat->Prop}{acc:List Sx}{e:Sx}{v:Value}{u:qQg}(hgd:o.guard=none)(s x:Operand)
 (ho:o.op=.call { callee:=.builtin .append,args:=#[s,x],argTypes:=#[38,38] }) (hd:o.dst=some dd) (hB:kH w lo ok acc v) (hE:wL w (fun g=>lo<=g/\ok g/\some g≠v.ownBlock) e u) (hlo:lo<=w.1.size)
 (hok:ok (w.1.size+1)) (hs:a.eval s=v) (hSq:w.1.size=SZ) (hx:a.eval x=.slice (some ⟨SZ,0,none⟩) 1 1) (hn:acc.length < 1000000)
 (h:∀ v' w',kH w' lo ok (acc++[e]) v'->(w.alloc (.cells (sxC e u).toArray 73)).grownBy w' v.ownBlock->wpList prog ops Q rest (a.put (some dd) v') w') :
 wpList prog ops Q (o :: rest) a (w.alloc (.cells (sxC e u).toArray 73)) :=
 wpList_plain hgd fun _ hK'=>append_sx s x ho hd hB hE hlo hok hs hSq hx hn fun v' w' h1 h2=>hK' _ _ (h v' w' h1 h2)
structure Mem where
 B:Nat
 L:Nat
 gs:List qI
 ci:Nat
 FC:Nat
 Mf:Nat
 gv:Value
 Mg:Nat
 Mo:Nat
 Mr:Nat
 F:Nat
 cl:vE
def Mem.at(M:Mem)(fs:List FnM)(w:World):Prop:=WIn M.B M.L M.gs fs M.ci M.FC M.Mf M.gv M.Mg M.Mo M.Mr M.F M.cl w
def Mem.vv(M:Mem)(fs:List FnM):Value:=(fs.getD M.ci noF).vv
def Mem.own(M:Mem)(fs:List FnM):List qI:=(fs.getD M.ci noF).vars
def vW(u v:Value)(w:World):Prop:=u.ownBlock=v.ownBlock\/∃ g,w.1.size<=g/\u.ownBlock=some g
theorem vW.trans{a b c:Value}{w w':World}(h:vW a b w')(k:vW b c w)(hs:w.1.size<=w'.1.size):vW a c w:=by
 rcases h with h | ⟨g,hg,h⟩
 ·rcases k with k | ⟨g,hg,k⟩
  ·exact .inl (h.trans k)
  ·exact .inr ⟨g,hg,h.trans k⟩
 ·exact .inr ⟨g,by omega,h⟩
def qQX{α:Type}(M:Mem)(fs:List FnM)(p:CR (α×List qI))(R:α->Value->Value->World->Prop)(w:World)(e:Ending)(w':World):Prop :=
 match p with
 | .ok (a,own')=>∃ u vv',e=.returned u/\M.at (xU fs M.ci own' vv') w'/\yX M.F M.Mo (M.vv fs) w w'/\vW vv' (M.vv fs) w/\R a u vv' w'
 | .bad ln co code=>e=.panicked [{ v:=xO ln co code,recovered:=false }]/\yX M.F M.Mo (M.vv fs) w w'
theorem qQX.okI{α:Type}{M:Mem}{fs:List FnM}{p:CR (α×List qI)}{R:α->Value->Value->World->Prop}{w w':World}{a:α}{own':List qI}{u vv':Value}(hp:p=.ok (a,own'))(h1:M.at (xU fs M.ci own' vv') w')(h2:yX M.F M.Mo (M.vv fs) w w')(h3:vW vv' (M.vv fs) w)(h4:R a u vv' w') :
 qQX M fs p R w (.returned u) w':=by rw[hp];exact⟨u,vv',rfl,h1,h2,h3,h4⟩
theorem qQX.badI{α:Type}{M:Mem}{fs:List FnM}{p:CR (α×List qI)}{R:α->Value->Value->World->Prop}{w w':World}{ln co code:Int}(hp:p=.bad ln co code)(h2:yX M.F M.Mo (M.vv fs) w w') :
 qQX M fs p R w (.panicked [{ v:=xO ln co code,recovered:=false }]) w':=by rw[hp];exact⟨rfl,h2⟩
theorem qQX.cases{α:Type}{M:Mem}{fs:List FnM}{p:CR (α×List qI)}{R:α->Value->Value->World->Prop}{w w':World}{e:Ending}(h:qQX M fs p R w e w') :
 (∃ a own' u vv',p=.ok (a,own')/\e=.returned u/\M.at (xU fs M.ci own' vv') w'/\yX M.F M.Mo (M.vv fs) w w'/\vW vv' (M.vv fs) w/\R a u vv' w') \/
 ∃ ln co code,p=.bad ln co code/\e=.panicked [{ v:=xO ln co code,recovered:=false }]/\yX M.F M.Mo (M.vv fs) w w':=by
 cases p with
 | ok a=>obtain⟨a,own'⟩:=a;obtain⟨u,vv',h1,h2⟩:=h;exact .inl ⟨a,own',u,vv',rfl,h1,h2⟩
 | bad ln co code=>exact .inr ⟨ln,co,code,rfl,h.1,h.2⟩
def StR(w:World)(s:Sx)(u vv':Value)(w':World):Prop:=∃ sv,u=sxV s sv/\wL w' (fun g=>w.1.size<=g/\some g≠vv'.ownBlock) s sv
def qUB(t:qQ):Prop:=∀ (M:Mem) (fs:List FnM) (v:Value) (w:World),M.at fs w->M.L<=w.1.size->xZ w (· < M.L) t v ->
 Calls prog 122 #[.pointer (some ⟨M.B,0,none⟩),qZ t v] w (qQX M fs (stC M.gs (fs.map (·.h)) (fs.getD M.ci noF).h.t t (M.own fs)) (StR w) w)
theorem Mem.low{M:Mem}{fs:List FnM}{w w':World}(h:M.at fs w)(T:yX M.F M.Mo (M.vv fs) w w'):∀ b,b < w.1.size->b < M.L->w'.1[b]? = w.1[b]?:=fun b hb hL =>
 T.block b hb (by have:=h.lo;omega) (by have:=h.lo;omega) (fun e=>by have:=(h.lv b e.symm).1;omega)
theorem yD.low{L:Nat}{w w':World}{ts:List qQ}{q:Option Addr}(h:yD L w ts q)(hL:L<=w.1.size)(T:∀ b,b < w.1.size->b < L->w'.1[b]? = w.1[b]?):yD L w' ts q:=by
 rcases h with h | ⟨g,off,h1,h2⟩
 ·exact .inl h
 ·refine .inr ⟨g,off,h1,h2.1,fun i hi=>?_⟩;obtain⟨q',n',c',k1,k2⟩:=h2.2 i hi;exact⟨q',n',c',xZ.move (fun g hg hok=>⟨hok,T g (by omega) hok⟩) _ _ k1,k2.move (T g (by have:=h2.1;omega) h2.1)⟩
theorem stsC_local{gs:List qI}{fs:List kI}{ret:Ty}{ts:List qQ}{k:Nat}{own:List qI}(h:k < ts.length)(hl:(ts[k].kind == qE)=true):qXJ gs fs ret (ts.drop k) own=(qJJ own ts[k]).bind fun own'=>qXJ gs fs ret (ts.drop (k+1)) own':=by
 rw[List.drop_eq_getElem_cons h,qXJ,if_pos hl]
theorem stsC_other{gs:List qI}{fs:List kI}{ret:Ty}{ts:List qQ}{k:Nat}{own:List qI}(h:k < ts.length)(hl:(ts[k].kind == qE)=false):qXJ gs fs ret (ts.drop k) own=(stC gs fs ret ts[k] own).bind fun s=>(qXJ gs fs ret (ts.drop (k+1)) s.2).bind fun q=>.ok (s.1 :: q.1,q.2):=by
 rw[List.drop_eq_getElem_cons h,qXJ,if_neg (by simp[hl])]
def BlRel(M:Mem)(fs:List FnM)(ts:List qQ)(W:World)(v i:Value)(wr:World):Prop :=
 ∃ (k:Nat) (acc:List Sx) (own':List qI) (vv':Value),k<=ts.length/\i=.int .i64 k/\acc.length<=k/\kH wr W.1.size (fun g=>some g≠vv'.ownBlock) acc v /\
  qXJ M.gs (fs.map (·.h)) (fs.getD M.ci noF).h.t ts (M.own fs)=((qXJ M.gs (fs.map (·.h)) (fs.getD M.ci noF).h.t (ts.drop k) own').bind fun q=>.ok (acc++q.1,q.2)) /\
  M.at (xU fs M.ci own' vv') wr/\yX M.F M.Mo (M.vv fs) W wr/\vW vv' (M.vv fs) W
theorem vW.low{a b:Value}{w W:World}(h:vW a b W)(hs:w.1.size<=W.1.size):vW a b w:=by
 rcases h with h | ⟨g,hg,h⟩
 ·exact .inl h
 ·exact .inr ⟨g,by omega,h⟩
theorem kH.turn{F Mo lo:Nat}{vv vv2 v:Value}{w w':World}{ss:List Sx}(h:kH w lo (fun g=>some g≠vv.ownBlock) ss v)(T:yX F Mo vv w w')(hF:F < lo)(hMo:Mo < lo)(hR:vW vv2 vv w):kH w' lo (fun g=>some g≠vv2.ownBlock) ss v :=
 h.move fun g hlt hlo hok=>⟨fun e=>by
  rcases hR with hR | ⟨g',hg',hR⟩
  ·exact hok (e.trans hR)
  ·rw[hR]at e;injection e with e;omega,T.block g hlt (by omega) (by omega) hok⟩
theorem kH.bel{lo:Nat}{ok:Nat->Prop}{v:Value}{w w':World}{ss:List Sx}(h:kH w lo ok ss v)(hb:Below w.1.size w w'):kH w' lo ok ss v:=h.move fun g hlt _ hok=>⟨hok,hb.block g hlt⟩
theorem Mem.vlt{M:Mem}{fs:List FnM}{w:World}(h:M.at fs w):∀ g,(M.vv fs).ownBlock=some g->g < w.1.size:=fun g hg=>(h.rd.en.vrow.lt g hg).2
theorem Mem.keep{M:Mem}{fs:List FnM}{w w':World}(h:M.at fs w)(hk:∀ (b:Nat) S,jX w b S->S≠73->w'.1[b]? = w.1[b]?)(hm:∀ b:Nat,(∃ es c,w.1[b]? = some (Obj.map es c))->w'.1[b]? = w.1[b]?)(hL:∀ b:Nat,b < w.1.size->b < M.L->w'.1[b]? = w.1[b]?):M.at fs w':=by
 have e:=h.rd.en;have kF:jX w M.F 40:=zE h.rd.frow rfl;have kcell:∀ {b o u},w'.1[b]? = w.1[b]?->w.cell? ⟨b,o,none⟩=some u->w'.cell? ⟨b,o,none⟩=some u:=fun hb hc=>(cB hb).trans hc
 have cBq:=hk _ _ h.kb (by decide);have cC:=hk _ _ h.kc (by decide);have cE:=hk _ _ h.ke (by decide);have cF:=hk _ _ kF (by decide);obtain⟨b,off,cap,hwt,hbL⟩:=h.wt;have hwt':qZo b off cap w':=by
  have s4:=hL 4 (qJ hwt.tg) h.lo.2.2.1;have sb:w'.1[b]? = w.1[b]?:=hL b (qJ (hwt.tn 0 (by omega))) hbL;exact⟨kcell s4 hwt.tg,fun i hi=>kcell sb (hwt.tn i hi),fun i hi=>kcell sb (hwt.tw i hi),fun i hi=>kcell sb (hwt.ts i hi)⟩
 have r1:w'.1[(1:Nat)]? = w.1[(1:Nat)]?:=hL 1 (qJ e.b0) (by have:=h.lo;omega);have r2:w'.1[(2:Nat)]? = w.1[(2:Nat)]?:=hL 2 (qJ e.d0) (by have:=h.lo;omega);refine⟨⟨h.rd.hi,?_,kcell cBq h.rd.c1,kcell cBq h.rd.c4,zU h.rd.frow (fun g hg=>hk g 40 (zE h.rd.frow hg) (by decide)),fun f hf=>zU (h.rd.vrow f hf) (fun g hg=>hk g 42 (zE (h.rd.vrow f hf) hg) (by decide)),h.rd.fm.kept (hm _ h.rd.fm.isMap),h.rd.par,h.rd.fl,h.rd.vl⟩,h.kb.turn cBq,h.kc.turn cC,h.ke.turn cE,h.mg,h.mf,h.mr,h.lo,h.lv,b,off,cap,hwt',hbL⟩;exact⟨kcell cBq e.c0,kcell cBq e.c3,kcell cBq e.c6,kcell cBq e.c7,kcell cBq e.c8,kcell cF e.fv,zU e.grow (fun g hg=>hk g 42 (zE e.grow hg) (by decide)),zU e.vrow (fun g hg=>hk g 42 (zE e.vrow hg) (by decide)),e.gm.kept (hm _ e.gm.isMap),e.om.kept (hm _ e.om.isMap),
  (by obtain⟨n,D,⟨es,k,g1,g2⟩,g3⟩:=e.rm;exact⟨n,D,⟨es,k,(hm _ e.rm.isMap).trans g1,g2⟩,g3⟩),kcell cC e.cc,kcell cE e.ce,⟨b,off,cap,hwt'⟩,kcell r1 e.b0,kcell r1 e.b1,kcell r2 e.d0,kcell r2 e.d1,e.gl,e.ol⟩
theorem block_any(M:Mem)(fs:List FnM)(t:qQ)(v:Value)(w:World)(h:M.at fs w)(hL:M.L<=w.1.size)(hl:xZ w (· < M.L) t v)(hn:t.kids.length<=900000)
 (hst:∀ u∈t.kids,(u.kind == qE)=false->qUB u) (hlo:∀ u∈t.kids,(u.kind == qE)=true->u.text.length<=1000000/\∃ a r,u.kids=a :: r) :
 Calls prog 101 #[.pointer (some ⟨M.B,0,none⟩),qZ t v] w (qQX M fs (qXJ M.gs (fs.map (·.h)) (fs.getD M.ci noF).h.t t.kids (M.own fs)) (fun ss u vv' w'=>jE w' (fun g=>w.1.size<=g/\some g≠vv'.ownBlock) ss u) w):=by
 obtain⟨q,c,rfl,hc1,hc2,hK⟩:=hl.kids;have HBL:=hI (bal (Below.refl w.1.size w) (qB t (.slice q t.kids.length c)));have HN:=hI (Bx.new t (.slice q t.kids.length c) w);have HM:=hI (show M.at fs (w.alloc (qB t (.slice q t.kids.length c)))from h.below HBL.o);have HK:=hI (hK.keep (HBL.o.mono hL));have HST:=hI hst;have HLO:=hI hlo;have hsz:(w.alloc (qB t (.slice q t.kids.length c))).1.size=w.1.size+1:=by simp
 clear h hl hK hst hlo;obtain⟨k,x,m,ln,co,ks⟩:=t;simp only[qZ,qB,qS,qQ.kind,qQ.text,qQ.num,qQ.line,qQ.col,qQ.kids]at *;go_enter func101,ntmps101
 go_wp2
 generalize (w.alloc _)=W at *;have HI:=hI HM.o.rd.hi;go_loopw [5,11] (fun v i wr=>BlRel M fs ks W v i wr) (fun _ i _=>ks.length - (intOf i).toNat)
 case atStart=>exact⟨0,[],M.own fs,M.vv fs,Nat.zero_le _,rfl,Nat.zero_le _,kH.nil _ _ _,by rw[List.drop_zero];cases qXJ M.gs (fs.map (·.h)) (fs.getD M.ci noF).h.t ks (M.own fs) <;> rfl,by rw[show xU fs M.ci (M.own fs) (M.vv fs)=fs from qXB HI.o];exact HM.o,yX.of_below (Below.refl _ _), .inl rfl⟩
 case round =>
  obtain⟨j,acc,own',vv',hj,rfl,hacc,hbd,hf,hM,hT,hR⟩:=hrel;obtain⟨q5,n5,c5,rfl⟩:=hbd.shape;have HBD:=hI hbd;have HF:=hI hf;have HMr:=hI hM;have HTr:=hI hT;have HRr:=hI hR;have hbs:=hT.size;clear hbd hf hM hT hR;by_cases hlt:j < ks.length
  ·obtain⟨g,off,rfl,hRN⟩:=(HK.o.low (by omega) (Mem.low HM.o HTr.o)).resolve_left (fun e=>by rw[e]at hlt;simp at hlt);obtain⟨qa,na,ca,hla,hca⟩:=hRN.2 j hlt;have⟨k0,k1,k2,k3,k4,k5,_⟩:=hca.a;have hmem:ks[j]∈ks:=List.getElem_mem hlt;have HBX:=hI (Bx.new ks[j] (.slice qa na ca) wr);have HBA:=hI (bal (Below.refl wr.1.size wr) (qB ks[j] (.slice qa na ca)));have hszA:(wr.alloc (qB ks[j] (.slice qa na ca))).1.size=wr.1.size+1:=by simp
   have HMA:=hI (show M.at (xU fs M.ci own' vv') (wr.alloc (qB ks[j] (.slice qa na ca)))from HMr.o.below HBA.o);have HLA:=hI (show xZ (wr.alloc (qB ks[j] (.slice qa na ca))) (· < M.L) ks[j] (.slice qa na ca)from xZ.move (fun g hg hok=>⟨hok,HBA.o.block g hg⟩) _ _ hla);have HLR:=hI (stsC_local (gs:=M.gs) (fs:=fs.map (·.h)) (ret:=(fs.getD M.ci noF).h.t) (own:=own') hlt);have HOR:=hI (stsC_other (gs:=M.gs) (fs:=fs.map (·.h)) (ret:=(fs.getD M.ci noF).h.t) (own:=own') hlt);have HS1:=hI (HST.o _ hmem);have HL1:=hI (HLO.o _ hmem);have hself:=qZC HI.o own' vv';have HSELF:=hI hself;clear hca hla hRN hmem hself;generalize hu:ks[j]=u at *;cases hkl:(u.kind == qE);case true =>
    have HKL:=hI hkl;obtain⟨hxt,a1,r1,hkids⟩:=HL1.o hkl;have HC:=hI (local_any M.B M.L M.gs (xU fs M.ci own' vv') M.ci M.FC M.Mf M.gv M.Mg M.Mo M.Mr M.F M.cl u a1 r1 (.slice qa na ca) _ HMA.o hkids (by simp;omega) HLA.o hxt);have HLR:=hI (HLR.o hkl);unfold qE at hkl;clear hkids hxt;simp only[qS,qZ,qB]at *;go_wp2_with fail
    generalize (wr.alloc _)=Z at *;refine(HC.o).mono ?_;rintro e w2 hX;unfold qKS at hX;rw[HSELF.o]at hX;simp only at hX;have TZ:yX M.F M.Mo (M.vv fs) w Z:=((yX.of_below HBL.o).trans HTr.o (.inl rfl)).trans (yX.of_below (vv:=M.vv fs) HBA.o) (.inl rfl);have RZ:vW vv' (M.vv fs) w:=HRr.o.low HBL.o.size;cases hlc:qJJ own' u with
    | bad l' c' code =>
     rw[hlc]at hX;obtain⟨rfl,hT2⟩:=hX;exact⟨rfl,qQX.badI (by rw[HF.o,HLR.o,hlc];rfl) (TZ.trans hT2 RZ)⟩
    | ok own2 =>
     rw[hlc]at hX;obtain⟨rfl,vv2,hM2,hT2,hR2⟩:=hX;rw[qJZ fs HI.o]at hM2;have HLC:=hI hlc;have HM2:=hI (show M.at (xU fs M.ci own2 vv2) w2 from hM2);have TW:yX M.F M.Mo (M.vv fs) W w2:=(HTr.o.trans (yX.of_below (vv:=M.vv fs) HBA.o) (.inl rfl)).trans hT2 HRr.o;have HTW:=hI TW;have HR2:=hI (vW.trans (show vW vv2 vv' Z from hR2) (HRr.o.low (Nat.le_refl _)) (by omega));have hFl:=(HM.o.rd.frow.lt M.F rfl).2;have hMl:=HM.o.rd.en.om.lt;have HB2:=hI ((HBD.o.bel HBA.o).turn hT2 hFl hMl hR2);clear TZ RZ TW hT2 hR2 hM2 hlc HC k0 k1 k2 k3 k4 k5;go_wp2
     refine⟨⟨j+1,acc,own2,vv2,by omega,rfl,by omega,HB2.o,?_,HM2.o,HTW.o,HR2.o⟩,by simp[intOf];omega⟩;rw[HF.o,HLR.o,HLC.o];rfl
   case false =>
    have hkl2:=hkl;have hC:=HS1.o hkl M (xU fs M.ci own' vv') (.slice qa na ca) _ HMA.o (by simp;omega) HLA.o;have hvv:M.vv (xU fs M.ci own' vv')=vv':=by unfold Mem.vv;rw[HSELF.o]
    have how:M.own (xU fs M.ci own' vv')=own':=by unfold Mem.own;rw[HSELF.o]
    have hret:((xU fs M.ci own' vv').getD M.ci noF).h.t=(fs.getD M.ci noF).h.t:=by rw[HSELF.o]
    rw[qJY HI.o,hret,how]at hC;have HC:=hI hC;have HVV:=hI hvv;have HOR:=hI (HOR.o hkl2);unfold qE at hkl;clear hC hvv how hret hkl2;simp only[qS,qZ,qB]at *;go_wp2_with fail
    generalize (wr.alloc _)=Z at *;refine(HC.o).mono ?_;rintro e w2 hX;have TZ:yX M.F M.Mo (M.vv fs) w Z:=((yX.of_below HBL.o).trans HTr.o (.inl rfl)).trans (yX.of_below (vv:=M.vv fs) HBA.o) (.inl rfl);have RZ:vW vv' (M.vv fs) w:=HRr.o.low HBL.o.size;rcases hX.cases with⟨s,own2,u2,vv2,hp,rfl,hM2,hT2,hR2,sv,rfl,hls⟩ | ⟨l',c',code,hp,rfl,hT2⟩;rotate_left
    ·rw[HVV.o]at hT2;exact⟨rfl,qQX.badI (by rw[HF.o,HOR.o,hp];rfl) (TZ.trans hT2 RZ)⟩
    rw[HVV.o]at hT2 hR2;rw[qJZ fs HI.o]at hM2;have HP:=hI hp;have HM2:=hI hM2;have HTW:=hI ((HTr.o.trans (yX.of_below (vv:=M.vv fs) HBA.o) (.inl rfl)).trans hT2 HRr.o);have HR2:=hI (vW.trans (show vW vv2 vv' Z from hR2) (HRr.o.low (Nat.le_refl _)) (by omega));have hFl:=(HM.o.rd.frow.lt M.F rfl).2;have hMl:=HM.o.rd.en.om.lt;have HB2:=hI ((HBD.o.bel HBA.o).turn hT2 hFl hMl hR2);have hs2:=hT2.size;have hlt5:=HBD.o.lt;obtain⟨sop,sl,sc,stg,ses,sfn,sth,sel⟩:=s;have HLS:=hI (wL.move (w':=w2) (ok':=fun g=>W.1.size<=g/\some g≠vv2.ownBlock/\some g≠(Value.slice q5 n5 c5).ownBlock) (fun g _ hg=>⟨⟨by omega,hg.2,fun e=>by have:=(hlt5 g e.symm).2;omega⟩,rfl⟩) _ _ hls);have hvl:=Mem.vlt HM2.o;have hself2:M.vv (xU fs M.ci own2 vv2)=vv2:=by unfold Mem.vv;rw[qZC HI.o]
    rw[hself2]at hvl;have hok:some (w2.1.size+1)≠vv2.ownBlock:=fun e=>by have:=hvl _ e.symm;omega
    have HOK:=hI hok;have hsw2:=HTW.o.size;clear TZ RZ hT2 hR2 hM2 hp HC hls hX hself2 hok k0 k1 k2 k3 k4 k5;simp only[sxV]at *;go_wp2_with (at_builtin;refine qVT (dd:=26) (e:=.mk sop sl sc stg ses sfn sth sel) (u:=sv) (acc:=acc) (lo:=W.1.size) (ok:=fun g=>some g≠vv2.ownBlock) rfl _ _ rfl rfl HB2.o HLS.o (by omega) HOK.o rfl rfl rfl (by omega) ?_)
    intro v9 w9 hb9 hg9;obtain⟨q9,n9,c9,rfl⟩:=hb9.shape;have hga:=hg9.size;simp at hga;have h5:=HB2.o.lt;have k5:∀ g,(Value.slice q5 n5 c5).ownBlock=some g->jX w2 g 73:=fun g hg=>by
     obtain⟨vs,hr,_⟩:=HB2.o;exact zE hr hg
    have same:∀ b,b < w2.1.size->some b≠(Value.slice q5 n5 c5).ownBlock->w9.1[b]? = w2.1[b]?:=fun b hb hne=>(hg9.block b (by simp;omega) hne).trans (Below.heap_alloc w2 _ b hb)
    have hLW:=HM.o.lo;have HM9:=hI (Mem.keep HM2.o (fun b S hk hSq=>same b (by obtain⟨cs,fr,k⟩:=hk;exact qZF k) (fun e=>(hk.ne (k5 b e.symm) hSq) rfl)) (fun b hk=>same b (by obtain⟨es,cc,k⟩:=hk;exact qZF k) (fun e=>vU hk (k5 b e.symm) rfl)) (fun b hb hbL=>same b hb (fun e=>by have:=(h5 b e.symm).1;omega)));have HT9:=hI (show yX M.F M.Mo (M.vv fs) W w9 from⟨hg9.os.trans HTW.o.os,hg9.tape.trans HTW.o.tape,hg9.output.trans HTW.o.output,by omega,fun b hb h1 h2 h3=>(same b (by omega) (fun e=>by have:=(h5 b e.symm).1;omega)).trans (HTW.o.block b hb h1 h2 h3)⟩);have HP9:=hI hb9;clear hb9 hg9 same k5;go_wp2
    refine⟨⟨j+1,acc++[.mk sop sl sc stg ses sfn sth sel],own2,vv2,by omega,rfl,by simp;omega,HP9.o,?_,HM9.o,HT9.o,HR2.o⟩,by simp[intOf];omega⟩;rw[HF.o,HOR.o,HP.o];simp only[CR.bind];generalize qXJ M.gs (List.map (fun x=>x.h) fs) (fs.getD M.ci noF).h.t (List.drop (j+1) ks) own2=rr;cases rr <;> simp[CR.bind]
  ·have HE:=hI (show qXJ M.gs (fs.map (·.h)) (fs.getD M.ci noF).h.t ks (M.own fs)=.ok (acc,own') by rw[HF.o,List.drop_eq_nil_of_le (by omega),qXJ];simp[CR.bind]);go_wp2
   go_ret;exact qQX.okI HE.o HMr.o ((yX.of_below HBL.o).trans HTr.o (.inl rfl)) (HRr.o.low HBL.o.size) ((HBD.o.lies).move (fun g hg ho=>⟨⟨by omega,ho.2⟩,rfl⟩))
theorem jO.setH{N:Nat}{op:List UInt8}{l c:Int}{tv ev:Value}{fn:Int}{hv lv:Value}{w:World}(h:jO N op l c tv ev fn hv lv w)(v:Value):jO N op l c tv ev fn v lv (w.setCell ⟨N,6,none⟩ v):=by
 have⟨h0,h1,h2,h3,h4,h5,h6,h7,_⟩:=h.a;have hf:=h.f;constructor
 case f=>intro j hj;have:=hf j hj;simp[go_sem, *]
 all_goals simp[go_sem, *]
theorem jO.setL{N:Nat}{op:List UInt8}{l c:Int}{tv ev:Value}{fn:Int}{hv lv:Value}{w:World}(h:jO N op l c tv ev fn hv lv w)(v:Value):jO N op l c tv ev fn hv v (w.setCell ⟨N,7,none⟩ v):=by
 have⟨h0,h1,h2,h3,h4,h5,h6,h7,_⟩:=h.a;have hf:=h.f;constructor
 case f=>intro j hj;have:=hf j hj;simp[go_sem, *]
 all_goals simp[go_sem, *]
structure qXk(F Mo NS:Nat)(vv:Value)(w w':World):Prop where
 os:w'.os=w.os
 tape:w'.tape=w.tape
 output:w'.output=w.output
 size:w.1.size<=w'.1.size
 block:∀ k,k < w.1.size->k≠F->k≠Mo->k≠NS->some k≠vv.ownBlock->w'.1[k]? = w.1[k]?
theorem yX.toN{F Mo NS:Nat}{vv:Value}{w w':World}(h:yX F Mo vv w w'):qXk F Mo NS vv w w':=⟨h.os,h.tape,h.output,h.size,fun k h1 h2 h3 _ h4=>h.block k h1 h2 h3 h4⟩
theorem qXk.trans{F Mo NS:Nat}{vv vv':Value}{u v w:World}(h:qXk F Mo NS vv u v)(k:qXk F Mo NS vv' v w)(hv:vW vv' vv u):qXk F Mo NS vv u w :=
 ⟨k.os.trans h.os,k.tape.trans h.tape,k.output.trans h.output,Nat.le_trans h.size k.size,fun b hb h1 h2 hN h3=>(k.block b (Nat.lt_of_lt_of_le hb h.size) h1 h2 hN (fun e=>by
  rcases hv with hv | ⟨g,hg,hv⟩
  ·exact h3 (e.trans hv)
  ·rw[hv]at e;injection e with e;omega)).trans (h.block b hb h1 h2 hN h3)⟩
theorem qXk.set{F Mo NS:Nat}{vv:Value}{w w':World}(h:qXk F Mo NS vv w w')(o:Nat)(u:Value):qXk F Mo NS vv w (w'.setCell ⟨NS,o,none⟩ u) :=
 ⟨(rfl:(w'.setCell ⟨NS,o,none⟩ u).os=w'.os).trans h.os,(by simpa using h.tape),(rfl:(w'.setCell ⟨NS,o,none⟩ u).output=w'.output).trans h.output,by simpa using h.size,fun k h1 h2 h3 h4 h5=>(hS w' ⟨NS,o,none⟩ u k h4).trans (h.block k h1 h2 h3 h4 h5)⟩
theorem Mem.setS{M:Mem}{fs:List FnM}{w:World}(h:M.at fs w){NS:Nat}(hk:jX w NS 73)(hL:M.L<=NS)(o:Nat)(u:Value):M.at fs (w.setCell ⟨NS,o,none⟩ u) :=
 Mem.keep h (fun b S k hSq=>hS w ⟨NS,o,none⟩ u b (k.ne hk hSq)) (fun b k=>hS w ⟨NS,o,none⟩ u b (vU k hk)) (fun b _ hb=>hS w ⟨NS,o,none⟩ u b (by show b≠NS;omega))
def qUz(t:qQ):Prop:=∀ (M:Mem) (fs:List FnM) (v:Value) (w:World),M.at fs w->M.L<=w.1.size->xZ w (· < M.L) t v ->
 Calls prog 101 #[.pointer (some ⟨M.B,0,none⟩),qZ t v] w (qQX M fs (blC M.gs (fs.map (·.h)) (fs.getD M.ci noF).h.t t (M.own fs)) (fun ss u vv' w'=>jE w' (fun g=>w.1.size<=g/\some g≠vv'.ownBlock) ss u) w)
theorem qMn(gs:List qI)(fs:List kI)(ret:Ty)(t:qQ)(own:List qI):blC gs fs ret t own=qXJ gs fs ret t.kids own:=by cases t;rw[blC];rfl
theorem block_ok(t:qQ)(hn:t.kids.length<=900000)(hst:∀ u∈t.kids,(u.kind == qE)=false->qUB u)(hlo:∀ u∈t.kids,(u.kind == qE)=true->u.text.length<=1000000/\∃ a r,u.kids=a :: r):qUz t:=by
 intro M fs v w h hL hl;rw[qMn];exact block_any M fs t v w h hL hl hn hst hlo
def qXU{α:Type}(M:Mem)(fs:List FnM)(NS:Nat)(p:CR (α×List qI))(R:α->Value->World->Prop)(w:World)(e:Ending)(w':World):Prop :=
 match p with
 | .ok (a,own')=>∃ vv',e=.returned (.tuple #[])/\M.at (xU fs M.ci own' vv') w'/\qXk M.F M.Mo NS (M.vv fs) w w'/\vW vv' (M.vv fs) w/\R a vv' w'
 | .bad ln co code=>e=.panicked [{ v:=xO ln co code,recovered:=false }]/\qXk M.F M.Mo NS (M.vv fs) w w'
theorem qXU.okI{α:Type}{M:Mem}{fs:List FnM}{NS:Nat}{p:CR (α×List qI)}{R:α->Value->World->Prop}{w w':World}{a:α}{own':List qI}{vv':Value}(hp:p=.ok (a,own'))(h1:M.at (xU fs M.ci own' vv') w')(h2:qXk M.F M.Mo NS (M.vv fs) w w')(h3:vW vv' (M.vv fs) w)(h4:R a vv' w') :
 qXU M fs NS p R w (.returned (.tuple #[])) w':=by rw[hp];exact⟨vv',rfl,h1,h2,h3,h4⟩
theorem qXU.badI{α:Type}{M:Mem}{fs:List FnM}{NS:Nat}{p:CR (α×List qI)}{R:α->Value->World->Prop}{w w':World}{ln co code:Int}(hp:p=.bad ln co code)(h2:qXk M.F M.Mo NS (M.vv fs) w w') :
 qXU M fs NS p R w (.panicked [{ v:=xO ln co code,recovered:=false }]) w':=by rw[hp];exact⟨rfl,h2⟩
def qZw(gs:List qI)(fs:List kI)(ret:Ty)(ks:List qQ)(own:List qI):CR ((List Ex×List Sx×List Sx)×List qI) :=
 match ks with
 | []=>.ok (([],[],[]),own)
 | [a]=>(qQT ⟨gs,own⟩ a zO).bind fun e=>.ok (([e],[],[]),own)
 | [a,b]=>(qQT ⟨gs,own⟩ a zO).bind fun e=>(blC gs fs ret b own).bind fun r=>.ok (([e],r.1,[]),r.2)
 | a :: b :: c :: _=>(qQT ⟨gs,own⟩ a zO).bind fun e=>(blC gs fs ret b own).bind fun r=>(blC gs fs ret c r.2).bind fun q=>.ok (([e],r.1,q.1),q.2)
def GuR(NS:Nat)(op:List UInt8)(l c:Int)(tv:Value)(fn:Int)(w:World)(a:List Ex×List Sx×List Sx)(vv':Value)(w':World):Prop :=
 ∃ ev hv lv,jO NS op l c tv ev fn hv lv w'/\qU w' (fun g=>w.1.size<=g/\some g≠vv'.ownBlock) a.1 ev/\jE w' (fun g=>w.1.size<=g/\some g≠vv'.ownBlock) a.2.1 hv/\jE w' (fun g=>w.1.size<=g/\some g≠vv'.ownBlock) a.2.2 lv
theorem qPH(M:Mem)(fs:List FnM)(NS:Nat)(k x:List UInt8)(m ln co:Int)(a:qQ)(rest:List qQ)(v:Value)(op:List UInt8)(sl sc:Int)(tv:Value)(fn:Int)(w:World)(h:M.at fs w)(hL:M.L<=w.1.size)(hl:xZ w (· < M.L) (.mk k x m ln co (a :: rest)) v)
 (ha:wfE a=true) (hr:rest.length<=2) (hbl:∀ b∈rest,qUz b) (hSq:jO NS op sl sc tv (.slice none 0 0) fn (.slice none 0 0) (.slice none 0 0) w) (hk:jX w NS 73) (hLN:M.L<=NS) :
 Calls prog 139 #[.pointer (some ⟨M.B,0,none⟩),qZ (.mk k x m ln co (a :: rest)) v, .pointer (some ⟨NS,0,none⟩)] w
  (qXU M fs NS (qZw M.gs (fs.map (·.h)) (fs.getD M.ci noF).h.t (a :: rest) (M.own fs)) (GuR NS op sl sc tv fn w) w):=by
 obtain⟨q,cp,rfl,hc1,hc2,hK⟩:=hl.kids;have HBL:=hI (bal (Below.refl w.1.size w) (qB (.mk k x m ln co (a :: rest)) (.slice q (qQ.mk k x m ln co (a :: rest)).kids.length cp)));have HN:=hI (Bx.new (.mk k x m ln co (a :: rest)) (.slice q (qQ.mk k x m ln co (a :: rest)).kids.length cp) w);have HMW:=hI h;have HM:=hI (show M.at fs (w.alloc (qB (.mk k x m ln co (a :: rest)) (.slice q (qQ.mk k x m ln co (a :: rest)).kids.length cp)))from h.below HBL.o);have HK:=hI (hK.keep (HBL.o.mono hL));have HSB:=hI (hSq.below HBL.o);have HKN:=hI (hk.turn (HBL.o.block NS hSq.lt));have HBK:=hI hbl;have hNS:=hSq.lt;have hsz:(w.alloc (qB (.mk k x m ln co (a :: rest)) (.slice q (qQ.mk k x m ln co (a :: rest)).kids.length cp))).1.size=w.1.size+1:=by simp
 have HEX:=hI (qXZ [a] (by simp[qZV,ha]));have hwB:M.B < w.1.size:=qJ h.rd.c1;have hwF:M.F < w.1.size:=(h.rd.frow.lt M.F rfl).2;have hwM:M.Mo < w.1.size:=h.rd.en.om.lt;clear h hl hK hSq hk hbl;generalize hks:(a :: rest)=ks at *;have hkl:ks.length<=3/\0 < ks.length:=by rw[<-hks];simp;omega
 simp only[qZ,qB,qS,qQ.kind,qQ.text,qQ.num,qQ.line,qQ.col,qQ.kids]at *;have HKS:=hI hks;clear hks;go_enter func139,ntmps139
 go_wp2
 generalize (w.alloc _)=W at *;obtain⟨n0,n1,n2,n3,n4,n5⟩:=HN.o.cells;have d0:=HM.o.rd.en.b0;have d1:=HM.o.rd.en.b1;have hl1:(1:Int)<=(cp:Nat):=by omega
 have HKA:=hI (show yD M.L W [a] q from by
  rcases HK.o with h | ⟨g,off,h1,h2⟩
  ·rw[<-HKS.o]at h;cases h
  ·exact .inr ⟨g,off,h1,by simpa using h2.sub [a] 0 (fun i hi=>by
    have:i=0:=by simpa using hi
    subst this;exact⟨by omega,by simp[<-HKS.o]⟩)⟩)
 refine wRg (S:=fun w'=>Below W.1.size W w') 9 ?_;refine wTk 0 6 (.pointer (some ⟨NS,0,none⟩)) ?_ (bD W) ?_
 ·intro _ y;go_simp
 refine wTk 1 7 (.pointer (some ⟨M.B,0,none⟩)) ?_ (bD W) ?_
 ·intro _ y;go_simp
 refine wTk 2 8 (.pointer (some ⟨w.1.size,5,none⟩)) ?_ (bD W) ?_
 ·intro _ y;go_simp
 refine wTk 3 9 (.slice q ks.length cp) ?_ (bD W) ?_
 ·intro _ y;obtain⟨d0,d1,n5⟩:=kP3 y d0 d1 n5;go_simp
 refine wTk 4 10 (.slice q 1 cp) ?_ (bD W) ?_
 ·intro _ y;go_simp
 refine wTk 5 11 (.agg #[.int .i64 1, .bool false]) ?_ (bD W) ?_
 ·intro _ y;obtain⟨d0,d1,n5⟩:=kP3 y d0 d1 n5;go_simp
 refine wOn 6 fun K hK=>?_
 go_simp;refine(qZs M.B M.L ⟨M.gs,M.own fs⟩ [a] q cp zO _ HEX.o (EAt.drew ⟨_,_,_,_,_,_,_,_,HM.o.rd.en⟩) (by simp;omega) (HKA.o.keep (Below.refl _ _).drew) (by simp)).mono ?_;rintro e w3 hX;have hxs:vD ⟨M.gs,M.own fs⟩ [a] zO=(qQT ⟨M.gs,M.own fs⟩ a zO).bind fun e=>.ok [e]:=by
  rw[vD];cases qQT ⟨M.gs,M.own fs⟩ a zO <;> simp[CR.bind,vD]
 rcases hX.cases with⟨es,u,hp,rfl,hles,hb3⟩ | ⟨l',c',code,hp,rfl,hb3⟩;rotate_left
 ·have hbad:qQT ⟨M.gs,M.own fs⟩ a zO=.bad l' c' code:=by
   rw[hxs]at hp;cases hq:qQT ⟨M.gs,M.own fs⟩ a zO with
   | ok _=>rw[hq]at hp;cases hp
   | bad _ _ _=>rw[hq]at hp;change CR.bad _ _ _=CR.bad _ _ _ at hp;injection hp with h1 h2 h3;rw[h1,h2,h3]
  refine⟨rfl,qXU.badI (ln:=l') (co:=c') (code:=code) ?_ (yX.toN (yX.of_below (HBL.o.trans ((zF hb3).mono (by omega)))))⟩;rw[<-HKS.o];rcases rest with _ | ⟨b1,_ | ⟨b2,r3⟩⟩ <;> simp only[qZw] <;> rw[hbad] <;> rfl
 obtain⟨ea,hea,rfl⟩:∃ ea,qQT ⟨M.gs,M.own fs⟩ a zO=.ok ea/\es=[ea]:=by
  rw[hxs]at hp;cases hq:qQT ⟨M.gs,M.own fs⟩ a zO with
  | ok ea=>rw[hq]at hp;injection hp with hp;exact⟨ea,rfl,hp.symm⟩
  | bad _ _ _=>rw[hq]at hp;cases hp
 obtain⟨uq,uc,rfl⟩:=hles.shape;have hb3:=zF hb3;have HEA:=hI hea;have hs3:=hb3.size;have HS3:=hI (HSB.o.below hb3);have HM3:=hI (show M.at fs w3 from HM.o.below hb3);have HK3:=hI (HK.o.keep (hb3.mono (by omega)));have HN3:=hI (HN.o.below hb3);have HB3:=hI hb3;have HW3:=hI (HBL.o.trans (hb3.mono (by omega)));have HKN3:=hI (HKN.o.turn (hb3.block NS (by omega)));have HLS:=hI (hles.mono (ok':=fun g=>w.1.size+1<=g) (fun g hg=>by simp at hg;omega));simp only[List.length]at *;refine kK hK HB3.o ?_;clear hK K;have s4:=HS3.o.c4;have sf4:=HS3.o.f 4 nL;clear hX hxs hp hles hb3 hea n0 n1 n2 n3 n4 n5 d0 d1;refine wOn 7 fun K hK=>?_
 go_simp;refine kK hK HB3.o ?_;clear hK K;refine wOn 8 fun K hK=>?_
 go_simp;refine kK hK HB3.o ?_;clear hK K;refine wOn 9 fun K hK=>?_
 go_simp;refine kD hK ?_;clear hK K;refine wDn ?_ _;have HS4:=hI (HS3.o.setE (.slice uq (0+1) uc));have HM4:=hI (Mem.setS HM3.o HKN3.o hLN 4 (.slice uq (0+1) uc));have HT4:=hI (qXk.set (yX.toN (NS:=NS) (yX.of_below (F:=M.F) (Mo:=M.Mo) (vv:=M.vv fs) HW3.o)) 4 (.slice uq (0+1) uc));have HL4:=hI (qU.setN (N:=NS) HLS.o (by omega) (o:=4) (.slice uq (0+1) uc));have HKN4:=hI (show jX (w3.setCell ⟨NS,4,none⟩ (.slice uq (0+1) uc)) NS 73 by obtain⟨cs,fr,hk⟩:=HKN3.o;exact⟨_,fr,Lib.heap_setCell_same hk _⟩);have hnn:w.1.size≠NS:=by omega
 have HN4:=hI (show Bx w.1.size (.mk k x m ln co ks) (.slice q ks.length cp) (w3.setCell ⟨NS,4,none⟩ (.slice uq (0+1) uc))from(hS w3 ⟨NS,4,none⟩ _ _ hnn).trans HN3.o);have HK4:=hI (HK3.o.keep ((Below.refl M.L w3).setCell (p:=⟨NS,4,none⟩) hLN (.slice uq (0+1) uc)));simp only[Nat.zero_add]at *;clear s4 sf4;generalize (w3.setCell ⟨NS,4,none⟩ (.slice uq 1 uc))=V at *;obtain⟨n0,n1,n2,n3,n4,n5⟩:=HN4.o.cells;rcases rest with _ | ⟨b1,rest2⟩
 ·have hle:(ks.length:Int)<=1:=by rw[<-HKS.o];simp
  have hle2:(ks.length:Int)<=2:=by omega
  have HG:=hI (show qZw M.gs (fs.map (·.h)) (fs.getD M.ci noF).h.t ks (M.own fs)=.ok (([ea],[],[]),M.own fs) by rw[<-HKS.o];simp only[qZw];rw[HEA.o];rfl);go_wp2
  go_end0;have hv:=Mem.vlt HM4.o;have hvw:∀ g,(M.vv fs).ownBlock=some g->g < W.1.size:=Mem.vlt HM.o;refine qXU.okI HG.o (vv':=M.vv fs) (by rw[show xU fs M.ci (M.own fs) (M.vv fs)=fs from qXB HM.o.rd.hi];exact HM4.o) HT4.o (.inl rfl) ⟨_,_,_,HS4.o,?_,jE.nil _ _,jE.nil _ _⟩;exact qU.move HL4.o (fun g _ hg=>⟨⟨by omega,fun e=>by have:=hvw g e.symm;omega⟩,rfl⟩)
 ·have hgt:(1:Int) < (ks.length:Nat):=by rw[<-HKS.o];simp;omega
  obtain⟨g1,off1,rfl,hR1⟩:=HK4.o.resolve_left (fun e=>by rw[<-HKS.o]at e;cases e);obtain⟨qb,nb,cb,hla1,hca1⟩:=hR1.2 1 (by rw[<-HKS.o];simp);have eb1:ks[1]'(by rw[<-HKS.o];simp)=b1:=by simp[<-HKS.o]
  rw[eb1]at hca1 hla1;simp only[Nat.one_mul]at hca1;have⟨k0,k1,k2,k3,k4,k5,_⟩:=hca1.a;have hsV:=HN4.o.lt;have HC1:=hI (HBK.o b1 (by simp) M fs (.slice qb nb cb) V HM4.o (by omega) hla1);unfold qZ at HC1;clear hla1 hca1 hR1 eb1;go_wp2_with fail
  refine(HC1.o).mono ?_;rintro e w5 hX;rcases hX.cases with⟨ss,own1,u1,vv1,hp,rfl,hM5,hT5,hR5,hls⟩ | ⟨l',c',code,hp,rfl,hT5⟩;rotate_left
  ·refine⟨rfl,qXU.badI (ln:=l') (co:=c') (code:=code) ?_ (HT4.o.trans (yX.toN hT5) (.inl rfl))⟩;rw[<-HKS.o];rcases rest2 with _ | ⟨b2,r3⟩ <;> simp only[qZw] <;> rw[HEA.o] <;> simp only[CR.bind] <;> rw[hp]
  obtain⟨u1q,u1c,rfl⟩:=hls.shape;have HP1:=hI hp;have hs5:=hT5.size;have hvW:∀ g,(M.vv fs).ownBlock=some g->g < w.1.size:=Mem.vlt HMW.o;have hNSv:some NS≠(M.vv fs).ownBlock:=fun e=>by
   have k:=zE HM4.o.rd.en.vrow (show(M.vv fs).ownBlock=some NS from e.symm);exact(HKN4.o.ne k (by decide)) rfl
  have hFN:M.F≠NS:=(zE HM4.o.rd.frow rfl:jX V M.F 40).ne HKN4.o (by decide);have hMN:M.Mo≠NS:=vU HM4.o.rd.en.om.isMap HKN4.o;have hNb:V.1.size > NS:=by omega
  have same5:∀ b,b < V.1.size->b≠M.F->b≠M.Mo->some b≠(M.vv fs).ownBlock->w5.1[b]? = V.1[b]?:=hT5.block;have sNS:=same5 NS (by omega) hFN.symm hMN.symm hNSv;have sBX:=same5 w.1.size (by omega) (by omega) (by omega) (fun e=>by have:=hvW _ e.symm;omega);have HS5:=hI (HS4.o.turn sNS);have HKN5:=hI (HKN4.o.turn sNS);have HN5:=hI (show Bx w.1.size (.mk k x m ln co ks) (.slice (some ⟨g1,off1,none⟩) ks.length cp) w5 from sBX.trans HN4.o);have HM5:=hI (show M.at (xU fs M.ci own1 vv1) w5 from hM5);have HT5:=hI (HT4.o.trans (yX.toN hT5) (.inl rfl));have HRW:=hI (vW.low (show vW vv1 (M.vv fs) V from hR5) (by omega) (w:=w));have HRV:=hI hR5;have HL5:=hI (qU.move (w':=w5) (ok':=fun g=>w.1.size+1<=g/\some g≠vv1.ownBlock) HL4.o (fun g hlt hg=>⟨⟨hg,fun e=>by
   rcases HRV.o with h | ⟨g',hg',h⟩
   ·have:=hvW g (h ▸ e.symm);omega
   ·rw[h]at e;injection e with e;omega⟩,same5 g hlt (by omega) (by omega) (fun e=>by have:=hvW g e.symm;omega)⟩))
  have HLB:=hI (hls.move (w':=w5) (ok':=fun g=>w.1.size+1<=g/\some g≠vv1.ownBlock) (fun g _ hg=>⟨⟨by omega,hg.2⟩,rfl⟩));have HK5:=hI (HK4.o.low (by omega) (Mem.low HM4.o hT5));have s6:=HS5.o.c6;have sf6:=HS5.o.f 6 nL;clear n0 n1 n2 n3 n4 n5 k0 k1 k2 k3 k4 k5 hX hp hM5 hT5 hR5 hls same5 sNS sBX hgt HC1;obtain⟨n0,n1,n2,n3,n4,n5⟩:=HN5.o.cells;have HS6:=hI (HS5.o.setH (.slice u1q ss.length u1c));have HM6:=hI (Mem.setS HM5.o HKN5.o hLN 6 (.slice u1q ss.length u1c));have HT6:=hI (HT5.o.set 6 (.slice u1q ss.length u1c));have hsub:∀ g,g < w5.1.size->(w.1.size+1<=g/\some g≠vv1.ownBlock)->(w.1.size+1<=g/\some g≠vv1.ownBlock)/\(w5.setCell ⟨NS,6,none⟩ (.slice u1q ss.length u1c)).1[g]? = w5.1[g]?:=fun g _ hg=>⟨hg,hS w5 ⟨NS,6,none⟩ _ g (by show g≠NS;omega)⟩
  have HL6:=hI (qU.move HL5.o hsub);have HLB6:=hI (jE.move HLB.o hsub);have hnn:w.1.size≠NS:=by omega
  have HN6:=hI (show Bx w.1.size (.mk k x m ln co ks) (.slice (some ⟨g1,off1,none⟩) ks.length cp) (w5.setCell ⟨NS,6,none⟩ (.slice u1q ss.length u1c))from(hS w5 ⟨NS,6,none⟩ _ _ hnn).trans HN5.o);have HK6:=hI (HK5.o.keep ((Below.refl M.L w5).setCell (p:=⟨NS,6,none⟩) hLN (.slice u1q ss.length u1c)));have HKN6:=hI (show jX (w5.setCell ⟨NS,6,none⟩ (.slice u1q ss.length u1c)) NS 73 by obtain⟨cs,fr,hk⟩:=HKN5.o;exact⟨_,fr,Lib.heap_setCell_same hk _⟩);have hnl5:=HN5.o.lt;clear hsub;rcases rest2 with _ | ⟨b2,r3⟩
  ·have hle2:(ks.length:Int)<=2:=by rw[<-HKS.o];simp
   have HG:=hI (show qZw M.gs (fs.map (·.h)) (fs.getD M.ci noF).h.t ks (M.own fs)=.ok (([ea],ss,[]),own1) by rw[<-HKS.o];simp only[qZw];rw[HEA.o];simp only[CR.bind];rw[HP1.o]);go_wp2
   go_end0;exact qXU.okI HG.o HM6.o HT6.o HRW.o ⟨_,_,_,HS6.o,qU.move HL6.o (fun g _ hg=>⟨⟨by omega,hg.2⟩,rfl⟩),jE.move HLB6.o (fun g _ hg=>⟨⟨by omega,hg.2⟩,rfl⟩),jE.nil _ _⟩
  ·have hgt2:(2:Int) < (ks.length:Nat):=by rw[<-HKS.o];simp;omega
   obtain⟨g2,off2,hq2,hR2⟩:=HK5.o.resolve_left (fun e=>by rw[<-HKS.o]at e;cases e);injection hq2 with hq2;injection hq2 with hq2a hq2b _;subst hq2a hq2b;obtain⟨qd,nd,cd,hla2,hca2⟩:=hR2.2 2 (by rw[<-HKS.o];simp);have eb2:ks[2]'(by rw[<-HKS.o];simp)=b2:=by simp[<-HKS.o]
   rw[eb2]at hca2 hla2;have hg1N:g1≠NS:=by have:=hR2.1;omega
   have⟨k0,k1,k2,k3,k4,k5,_⟩:=hca2.a;have hLY:xZ (w5.setCell ⟨NS,6,none⟩ (.slice u1q ss.length u1c)) (· < M.L) b2 (.slice qd nd cd):=hla2.keep ((Below.refl M.L w5).setCell (p:=⟨NS,6,none⟩) hLN (.slice u1q ss.length u1c));have hC2:=HBK.o b2 (by simp) M (xU fs M.ci own1 vv1) (.slice qd nd cd) _ HM6.o (by simp;omega) hLY;have HSELF:=hI (qZC HM.o.rd.hi own1 vv1);have HI:=hI HM.o.rd.hi;have hvv1:M.vv (xU fs M.ci own1 vv1)=vv1:=by unfold Mem.vv;rw[HSELF.o]
   have how1:M.own (xU fs M.ci own1 vv1)=own1:=by unfold Mem.own;rw[HSELF.o]
   have hret:((xU fs M.ci own1 vv1).getD M.ci noF).h.t=(fs.getD M.ci noF).h.t:=by rw[HSELF.o]
   rw[qJY HI.o,hret,how1]at hC2;have HC2:=hI hC2;have HVV:=hI hvv1;unfold qZ at HC2;clear hC2 hvv1 how1 hret hla2 hca2 hR2 eb2 hLY;go_wp2_with fail
   generalize (w5.setCell ⟨NS,6,none⟩ (.slice u1q ss.length u1c))=Y at *;refine(HC2.o).mono ?_;rintro e w7 hX;rcases hX.cases with⟨tt,own2,u2,vv2,hp,rfl,hM7,hT7,hR7,hls⟩ | ⟨l',c',code,hp,rfl,hT7⟩;rotate_left
   ·rw[HVV.o]at hT7;refine⟨rfl,qXU.badI (ln:=l') (co:=c') (code:=code) ?_ (HT6.o.trans (yX.toN hT7) HRW.o)⟩;rw[<-HKS.o];simp only[qZw];rw[HEA.o];simp only[CR.bind];rw[HP1.o];simp only[CR.bind];rw[hp]
   rw[HVV.o]at hT7 hR7;rw[qJZ fs HI.o]at hM7;obtain⟨u2q,u2c,rfl⟩:=hls.shape;have hs7:=hT7.size;have hsY:=HN6.o.lt;have HG:=hI (show qZw M.gs (fs.map (·.h)) (fs.getD M.ci noF).h.t ks (M.own fs)=.ok (([ea],ss,tt),own2) by
    rw[<-HKS.o];simp only[qZw];rw[HEA.o];simp only[CR.bind];rw[HP1.o];simp only[CR.bind];rw[hp])
   have hvY:∀ g,vv1.ownBlock=some g->g < w.1.size\/w.1.size+1<=g:=fun g hg=>by
    rcases HRV.o with h | ⟨g',hg',h⟩
    ·exact .inl (hvW g (h ▸ hg))
    ·rw[h]at hg;injection hg with hg;omega
   have hNSv1:some NS≠vv1.ownBlock:=fun e=>by
    have hv:=HM6.o.rd.en.vrow;rw[HSELF.o]at hv;have k:=zE hv (show vv1.ownBlock=some NS from e.symm);exact(HKN6.o.ne k (by decide)) rfl
   have same7:∀ b,b < Y.1.size->b≠M.F->b≠M.Mo->some b≠vv1.ownBlock->w7.1[b]? = Y.1[b]?:=hT7.block;have sNS:=same7 NS (by omega) hFN.symm hMN.symm hNSv1;have HS7:=hI (HS6.o.turn sNS);have HKN7:=hI (HKN6.o.turn sNS);have HM7:=hI (show M.at (xU fs M.ci own2 vv2) w7 from hM7);have HT7:=hI (HT6.o.trans (yX.toN hT7) HRW.o);have HR7:=hI (vW.trans (w:=w) (w':=Y) (show vW vv2 vv1 Y from hR7) HRW.o (by omega));have hmv:∀ g,g < Y.1.size->(w.1.size+1<=g/\some g≠vv1.ownBlock)->(w.1.size<=g/\some g≠vv2.ownBlock)/\(w7.setCell ⟨NS,7,none⟩ (.slice u2q tt.length u2c)).1[g]? = Y.1[g]?:=fun g hlt hg=>⟨⟨by omega,fun e=>by
    rcases hR7 with h | ⟨g',hg',h⟩
    ·exact hg.2 (h ▸ e)
    ·rw[h]at e;injection e with e;omega⟩,(hS w7 ⟨NS,7,none⟩ _ g (by show g≠NS;omega)).trans (same7 g hlt (by omega) (by omega) hg.2)⟩
   have HL7:=hI (qU.move HL6.o hmv);have HLB7:=hI (jE.move HLB6.o hmv);have HLD7:=hI (hls.move (w':=w7.setCell ⟨NS,7,none⟩ (.slice u2q tt.length u2c)) (ok':=fun g=>w.1.size<=g/\some g≠vv2.ownBlock) (fun g _ hg=>⟨⟨by omega,hg.2⟩,hS w7 ⟨NS,7,none⟩ _ g (by show g≠NS;omega)⟩));have s7:=HS7.o.c7;have sf7:=HS7.o.f 7 nL;clear n0 n1 n2 n3 n4 n5 k0 k1 k2 k3 k4 k5 hX hp hM7 hT7 hR7 hls same7 sNS hmv hgt2 HC2;go_wp2
   go_end0;exact qXU.okI HG.o (Mem.setS HM7.o HKN7.o hLN 7 _) (HT7.o.set 7 _) HR7.o ⟨_,_,_,HS7.o.setL _,HL7.o,HLB7.o,HLD7.o⟩
theorem jO.kind{op:List UInt8}{l c:Int}{tv ev:Value}{fn:Int}{hv lv:Value}(w:World):jX (w.alloc (sxO op l c tv ev fn hv lv)) w.1.size 73:=⟨_,_,vL _ _⟩
theorem set8{b N:Nat}{a w:World}(h:Below b a w)(hN:b<=N)(u0 u1 u2 u3 u4 u5 u6 u7:Value):Below b a ((((((((w.setCell ⟨N,0,none⟩ u0).setCell ⟨N,1,none⟩ u1).setCell ⟨N,2,none⟩ u2).setCell ⟨N,3,none⟩ u3).setCell ⟨N,4,none⟩ u4).setCell ⟨N,5,none⟩ u5).setCell ⟨N,6,none⟩ u6).setCell ⟨N,7,none⟩ u7) :=
 jR (jR (jR (jR (jR (jR (jR (jR h hN _) hN _) hN _) hN _) hN _) hN _) hN _) hN _
theorem qJI(w:World)(N b:Nat)(h:b≠N)(u0 u1 u2 u3 u4 u5 u6 u7:Value):((((((((w.setCell ⟨N,0,none⟩ u0).setCell ⟨N,1,none⟩ u1).setCell ⟨N,2,none⟩ u2).setCell ⟨N,3,none⟩ u3).setCell ⟨N,4,none⟩ u4).setCell ⟨N,5,none⟩ u5).setCell ⟨N,6,none⟩ u6).setCell ⟨N,7,none⟩ u7).1[b]? = w.1[b]?:=by
 rw[hS _ _ _ _ h,hS _ _ _ _ h,hS _ _ _ _ h,hS _ _ _ _ h,hS _ _ _ _ h,hS _ _ _ _ h,hS _ _ _ _ h,hS _ _ _ _ h]
theorem jO.set8{N:Nat}{op op':List UInt8}{l c l' c':Int}{tv ev tv' ev':Value}{fn fn':Int}{hv lv hv' lv':Value}{w:World}(h:jO N op l c tv ev fn hv lv w) :
 jO N op' l' c' tv' ev' fn' hv' lv' ((((((((w.setCell ⟨N,0,none⟩ (.string ⟨op'.toArray⟩)).setCell ⟨N,1,none⟩ (.int .i64 l')).setCell ⟨N,2,none⟩ (.int .i64 c')).setCell ⟨N,3,none⟩ tv').setCell ⟨N,4,none⟩ ev').setCell ⟨N,5,none⟩ (.int .i64 fn')).setCell ⟨N,6,none⟩ hv').setCell ⟨N,7,none⟩ lv'):=by
 have⟨h0,h1,h2,h3,h4,h5,h6,h7,_⟩:=h.a;have hf:=h.f;constructor
 case f=>intro j hj;have:=hf j hj;simp[go_sem, *]
 all_goals simp[go_sem, *]
theorem jX.set{w:World}{N:Nat}{T:TypeId}(h:jX w N T)(M o:Nat)(u:Value):jX (w.setCell ⟨M,o,none⟩ u) N T:=by
 obtain⟨cs,fr,hh⟩:=h;by_cases hm:N=M
 ·subst hm;exact⟨_,fr,Lib.heap_setCell_same hh _⟩
 ·exact⟨cs,fr,(hS w ⟨M,o,none⟩ u N hm).trans hh⟩
theorem Mem.set8{M:Mem}{fs:List FnM}{w:World}(h:M.at fs w){N:Nat}(hk:jX w N 73)(hL:M.L<=N)(u0 u1 u2 u3 u4 u5 u6 u7:Value):M.at fs ((((((((w.setCell ⟨N,0,none⟩ u0).setCell ⟨N,1,none⟩ u1).setCell ⟨N,2,none⟩ u2).setCell ⟨N,3,none⟩ u3).setCell ⟨N,4,none⟩ u4).setCell ⟨N,5,none⟩ u5).setCell ⟨N,6,none⟩ u6).setCell ⟨N,7,none⟩ u7) :=
 Mem.keep h (fun b S k hSq=>qJI w N b (k.ne hk hSq) _ _ _ _ _ _ _ _) (fun b k=>qJI w N b (vU k hk) _ _ _ _ _ _ _ _) (fun b _ hb=>qJI w N b (by omega) _ _ _ _ _ _ _ _)
theorem yX.fin{F Mo NS N:Nat}{vv:Value}{w w':World}(h:qXk F Mo NS vv w w')(h1:w.1.size<=NS)(h2:w.1.size<=N)(u0 u1 u2 u3 u4 u5 u6 u7:Value):yX F Mo vv w ((((((((w'.setCell ⟨N,0,none⟩ u0).setCell ⟨N,1,none⟩ u1).setCell ⟨N,2,none⟩ u2).setCell ⟨N,3,none⟩ u3).setCell ⟨N,4,none⟩ u4).setCell ⟨N,5,none⟩ u5).setCell ⟨N,6,none⟩ u6).setCell ⟨N,7,none⟩ u7) :=
 have hb:=yX.mk h.os h.tape h.output h.size (fun k a b c d=>h.block k a b c (by omega) d);have g:Below w'.1.size w' w':=Below.refl _ _;have e:=set8 (N:=N) (Below.refl 0 w') (Nat.zero_le _) u0 u1 u2 u3 u4 u5 u6 u7
 ⟨e.os.trans h.os,e.tape.trans h.tape,e.output.trans h.output,Nat.le_trans h.size e.size,fun k a b c d=>(qJI w' N k (by omega) _ _ _ _ _ _ _ _).trans (h.block k a b c (by omega) d)⟩
theorem grown_N{F Mo NS:Nat}{vv:Value}{w w':World}(h:w.grownBy w' (some NS)):qXk F Mo NS vv w w':=⟨h.os,h.tape,h.output,h.size,fun k hk _ _ hN _=>h.block k hk (fun e=>hN (by injection e))⟩
theorem qVP (gs : List qI) (fs : List kI) (ret : Ty) (k x : List UInt8) (m ln co : Int) (ks : List qQ) (own : List qI) : stC gs fs ret (.mk k x m ln co ks) own =
    if k == qP then (wJ ⟨gs, own⟩ (kid ks 0)).bind fun a => (qQT ⟨gs, own⟩ (kid ks 1) a.ty).bind fun e => .ok (.mk k ln co [a] [e] 0 [] [], own)
    else if k == qW then (wJ ⟨gs, own⟩ (kid ks 0)).bind fun a => .ok (.mk k ln co [a] [] 0 [] [], own)
    else if k == zW then (wI fs (.mk k x m ln co ks)).bind fun h => (wM ⟨gs, own⟩ ks h.1.params).bind fun es => .ok (.mk k ln co [] es h.2 [] [], own)
    else if k == qN then (wJ ⟨gs, own⟩ (kid ks 0)).bind fun a => (wI fs (kid ks 1)).bind fun h => (jQ (decide (h.1.t = a.ty)) (kid ks 1) 41).bind fun _ =>
      (wM ⟨gs, own⟩ (kid ks 1).kids h.1.params).bind fun es => .ok (.mk zW ln co [a] es h.2 [] [], own)
    else if k == qV then (qXp ⟨gs, own⟩ ret (.mk k x m ln co ks)).bind fun es => .ok (.mk k ln co [] es 0 [] [], own)
    else (qZw gs fs ret ks own).bind fun r => .ok (.mk k ln co [] r.1.1 0 r.1.2.1 r.1.2.2, r.2) := by
  conv => lhs; unfold stC
  cases h1 : (k == qP) <;> cases h2 : (k == qW) <;> cases h3 : (k == zW) <;> cases h4 : (k == qN) <;> cases h5 : (k == qV)
  all_goals first
    | rfl
    | (simp only [bF, if_false, if_true]
       first
       | rfl
       | (simp only [qXp, CR.bind_assoc]; rfl)
       | (rcases ks with _ | ⟨a, _ | ⟨b, _ | ⟨c, r⟩⟩⟩ <;> first | rfl | (simp only [qZw, CR.bind_assoc]; rfl)))
def StIn(W:World)(k:List UInt8)(ln co:Int)(NS:Nat)(w':World):Prop :=
 Below W.1.size W w'/\jO NS k ln co (.slice none 0 0) (.slice none 0 0) 0 (.slice none 0 0) (.slice none 0 0) w'/\jX w' NS 73/\W.1.size<=NS
structure SIn(M:Mem)(fs:List FnM)(k x:List UInt8)(m ln co:Int)(ks:List qQ)(q:Option Addr)(c NS:Nat)(op:List UInt8)(tv ev:Value)(fn:Int)(w wr:World):Prop where
 bl:Below w.1.size w wr
 sz:w.1.size+2<=NS/\NS < wr.1.size
 hL:M.L<=w.1.size
 mm:M.at fs wr
 nd:Bx w.1.size (.mk k x m ln co ks) (.slice q ks.length c) wr
 rt:jO (w.1.size+1) [] 0 0 (.slice none 0 0) (.slice none 0 0) 0 (.slice none 0 0) (.slice none 0 0) wr
 kt:jX wr (w.1.size+1) 73
 sb:jO NS op ln co tv ev fn (.slice none 0 0) (.slice none 0 0) wr
 kn:jX wr NS 73
 ka:yD M.L wr ks q
 li:xZ wr (· < M.L) (.mk k x m ln co ks) (.slice q ks.length c)
 vw:∀ g,(M.vv fs).ownBlock=some g->g < w.1.size
theorem jX.lt{w:World}{b:Nat}{T:TypeId}(h:jX w b T):b < w.1.size:=by obtain⟨cs,fr,h⟩:=h;exact qZF h
theorem SIn.below{M:Mem}{fs:List FnM}{k x:List UInt8}{m ln co:Int}{ks:List qQ}{q:Option Addr}{c NS:Nat}{op:List UInt8}{tv ev:Value}{fn:Int}{w wr wr':World}(h:SIn M fs k x m ln co ks q c NS op tv ev fn w wr)(hb:Below wr.1.size wr wr'):SIn M fs k x m ln co ks q c NS op tv ev fn w wr' :=
 have s:=h.bl.size;have hL:=h.hL
 ⟨h.bl.trans (hb.mono s),⟨h.sz.1,Nat.lt_of_lt_of_le h.sz.2 hb.size⟩,h.hL,h.mm.below hb,h.nd.below hb,h.rt.below hb,h.kt.turn (hb.block _ h.kt.lt),h.sb.below hb,h.kn.turn (hb.block _ h.kn.lt),h.ka.keep (hb.mono (by omega)),xZ.move (fun g hg hok=>⟨hok,hb.block g hg⟩) _ _ h.li,h.vw⟩
theorem SIn.store{M:Mem}{fs:List FnM}{k x:List UInt8}{m ln co:Int}{ks:List qQ}{q:Option Addr}{c NS:Nat}{op op':List UInt8}{tv ev tv' ev':Value}{fn fn':Int}{w wr:World}(h:SIn M fs k x m ln co ks q c NS op tv ev fn w wr)(o:Nat)(u:Value)(hs:jO NS op' ln co tv' ev' fn' (.slice none 0 0) (.slice none 0 0) (wr.setCell ⟨NS,o,none⟩ u)):SIn M fs k x m ln co ks q c NS op' tv' ev' fn' w (wr.setCell ⟨NS,o,none⟩ u) :=
 have s:=h.sz;have hL:=h.hL;have he:∀ b,b≠NS->(wr.setCell ⟨NS,o,none⟩ u).1[b]? = wr.1[b]?:=fun b hb=>hS wr ⟨NS,o,none⟩ u b hb
 ⟨jR h.bl (by omega) u,⟨s.1,by simpa using s.2⟩,h.hL,Mem.setS h.mm h.kn (by omega) o u,(he _ (by omega)).trans h.nd,h.rt.turn (he _ (by omega)),h.kt.turn (he _ (by omega)),hs,h.kn.set _ _ _,h.ka.keep (jR (Below.refl _ _) (by omega) u),xZ.move (fun g hg hok=>⟨hok,he g (by have:g < M.L:=hok;omega)⟩) _ _ h.li,h.vw⟩
theorem SIn.setT{M:Mem}{fs:List FnM}{k x:List UInt8}{m ln co:Int}{ks:List qQ}{q:Option Addr}{c NS:Nat}{op:List UInt8}{tv ev:Value}{fn:Int}{w wr:World}(h:SIn M fs k x m ln co ks q c NS op tv ev fn w wr)(u:Value):SIn M fs k x m ln co ks q c NS op u ev fn w (wr.setCell ⟨NS,3,none⟩ u):=h.store 3 u (h.sb.setT u)
theorem SIn.setE{M:Mem}{fs:List FnM}{k x:List UInt8}{m ln co:Int}{ks:List qQ}{q:Option Addr}{c NS:Nat}{op:List UInt8}{tv ev:Value}{fn:Int}{w wr:World}(h:SIn M fs k x m ln co ks q c NS op tv ev fn w wr)(u:Value):SIn M fs k x m ln co ks q c NS op tv u fn w (wr.setCell ⟨NS,4,none⟩ u):=h.store 4 u (h.sb.setE u)
theorem SIn.setF{M:Mem}{fs:List FnM}{k x:List UInt8}{m ln co:Int}{ks:List qQ}{q:Option Addr}{c NS:Nat}{op:List UInt8}{tv ev:Value}{fn:Int}{w wr:World}(h:SIn M fs k x m ln co ks q c NS op tv ev fn w wr)(n:Int):SIn M fs k x m ln co ks q c NS op tv ev n w (wr.setCell ⟨NS,5,none⟩ (.int .i64 n)):=h.store 5 _ (h.sb.setF n)
theorem SIn.ra{M:Mem}{fs:List FnM}{k x:List UInt8}{m ln co:Int}{ks:List qQ}{q:Option Addr}{c NS:Nat}{op:List UInt8}{tv ev:Value}{fn:Int}{w wr:World}(h:SIn M fs k x m ln co ks q c NS op tv ev fn w wr):RAt M.B M.gs fs M.ci wr:=⟨_,_,_,_,_,_,_,_,h.mm.rd⟩
theorem SIn.ea{M:Mem}{fs:List FnM}{k x:List UInt8}{m ln co:Int}{ks:List qQ}{q:Option Addr}{c NS:Nat}{op:List UInt8}{tv ev:Value}{fn:Int}{w wr:World}(h:SIn M fs k x m ln co ks q c NS op tv ev fn w wr):EAt M.B ⟨M.gs,M.own fs⟩ wr:=h.ra.en
theorem SIn.le{M:Mem}{fs:List FnM}{k x:List UInt8}{m ln co:Int}{ks:List qQ}{q:Option Addr}{c NS:Nat}{op:List UInt8}{tv ev:Value}{fn:Int}{w wr:World}(h:SIn M fs k x m ln co ks q c NS op tv ev fn w wr):M.L<=wr.1.size:=by have:=h.hL;have:=h.bl.size;omega
theorem SIn.bad{M:Mem}{fs:List FnM}{k x:List UInt8}{m ln co:Int}{ks:List qQ}{q:Option Addr}{c NS:Nat}{op:List UInt8}{tv ev:Value}{fn:Int}{w wr:World}{p:CR (Sx×List qI)}{l' c' code:Int}(h:SIn M fs k x m ln co ks q c NS op tv ev fn w wr)(hp:p=.bad l' c' code):qQX M fs p (StR w) w (.panicked [{ v:=xO l' c' code,recovered:=false }]) wr :=
 qQX.badI hp (yX.of_below h.bl)
theorem SIn.fin{M:Mem}{fs:List FnM}{k x:List UInt8}{m ln co:Int}{ks:List qQ}{q:Option Addr}{c NS:Nat}{op:List UInt8}{tv ev:Value}{fn:Int}{w wr:World}{p:CR (Sx×List qI)}{tg es:List Ex}(h:SIn M fs k x m ln co ks q c NS op tv ev fn w wr)(hp:p=.ok (.mk op ln co tg es fn [] [],M.own fs))(ht:qU wr (fun g=>w.1.size+2<=g) tg tv)(he:qU wr (fun g=>w.1.size+2<=g) es ev)(u0 u1 u2 u3 u4 u5 u6 u7:Value) :
 qQX M fs p (StR w) w (.returned (sxV (.mk op ln co tg es fn [] []) ⟨tv,ev, .slice none 0 0, .slice none 0 0⟩)) ((((((((wr.setCell ⟨w.1.size+1,0,none⟩ u0).setCell ⟨w.1.size+1,1,none⟩ u1).setCell ⟨w.1.size+1,2,none⟩ u2).setCell ⟨w.1.size+1,3,none⟩ u3).setCell ⟨w.1.size+1,4,none⟩ u4).setCell ⟨w.1.size+1,5,none⟩ u5).setCell ⟨w.1.size+1,6,none⟩ u6).setCell ⟨w.1.size+1,7,none⟩ u7):=by
 have hL:=h.hL;have hv:=h.vw;have hmv:∀ {es:List Ex} {v:Value},qU wr (fun g=>w.1.size+2<=g) es v->qU ((((((((wr.setCell ⟨w.1.size+1,0,none⟩ u0).setCell ⟨w.1.size+1,1,none⟩ u1).setCell ⟨w.1.size+1,2,none⟩ u2).setCell ⟨w.1.size+1,3,none⟩ u3).setCell ⟨w.1.size+1,4,none⟩ u4).setCell ⟨w.1.size+1,5,none⟩ u5).setCell ⟨w.1.size+1,6,none⟩ u6).setCell ⟨w.1.size+1,7,none⟩ u7) (fun g=>w.1.size<=g/\some g≠(M.vv fs).ownBlock) es v:=fun h =>
  qU.move h (fun g hg hok=>⟨⟨by omega,fun e=>by have:=hv g e.symm;omega⟩,qJI _ _ _ (by omega) _ _ _ _ _ _ _ _⟩)
 refine qQX.okI (vv':=M.vv fs) hp ?_ (yX.of_below (set8 h.bl (by omega) _ _ _ _ _ _ _ _)) (.inl rfl) ⟨_,rfl,hmv ht,hmv he,jE.nil _ _,jE.nil _ _⟩;rw[show xU fs M.ci (M.own fs) (M.vv fs)=fs from qXB h.mm.rd.hi];exact Mem.set8 h.mm h.kt (by omega) _ _ _ _ _ _ _ _
theorem qQf.set9{N:Nat}{op op':List UInt8}{T T':Ty}{n va n' va' l c l' c':Int}{g g':Bool}{kv kv':Value}{W:World}(h:qQf N op T n va g l c kv W):qQf N op' T' n' va' g' l' c' kv' (((((((((W.setCell ⟨N,0,none⟩ (.string ⟨op'.toArray⟩)).setCell ⟨N,1,none⟩ (.int .i64 T'.1)).setCell ⟨N,2,none⟩ (.bool T'.2)).setCell ⟨N,3,none⟩ (.int .u64 n')).setCell ⟨N,4,none⟩ (.int .i64 va')).setCell ⟨N,5,none⟩ (.bool g')).setCell ⟨N,6,none⟩ (.int .i64 l')).setCell ⟨N,7,none⟩ (.int .i64 c')).setCell ⟨N,8,none⟩ kv'):=by
 have⟨h0,h1,h2,h3,h4,h5,h6,h7,h8,_⟩:=h.a;have hf:=h.f;constructor
 case f=>intro j hj;have:=hf j hj;simp[go_sem, *]
 all_goals simp[go_sem, *]
theorem qU.single{w:World}{ok:Nat->Prop}{p:Ex}{kv:Value}(h:qU w ok p.kids kv)(hok:ok w.1.size):qU (w.alloc (.cells (exC p kv).toArray 76)) ok [p] (.slice (some ⟨w.1.size,0,none⟩) 1 1):=by
 refine⟨[kv],fun g hg=>by injection hg with e;subst e;exact hok,?_,(qVr p kv).2 (h.below ((Below.refl _ _).alloc (Nat.le_refl _) _)),trivial⟩;have:=World.ownsRow_lit (base:=0) (e:=76) (size:=9) w (exC p kv).toArray 1 (Nat.zero_le _) (by decide) (by cases p;rfl);simpa[qVM]using this
theorem qQf.turn{N:Nat}{op:List UInt8}{T:Ty}{n va l c:Int}{g:Bool}{kv:Value}{w w':World}(h:qQf N op T n va g l c kv w)(hb:w'.1[N]? = w.1[N]?):qQf N op T n va g l c kv w' :=
 have k:=fun {o:Nat} {u:Value} (e:w.cell? ⟨N,o,none⟩=some u)=>(cB (w:=w) (w':=w') (a:=⟨N,o,none⟩) hb).trans e
 ⟨k h.c0,k h.c1,k h.c2,k h.c3,k h.c4,k h.c5,k h.c6,k h.c7,k h.c8,fun j hj=>(World.frozen?_of_block hb).trans (h.f j hj)⟩
theorem comm8(w:World)(N:Nat)(o:Obj)(h:N < w.1.size)(u0 u1 u2 u3 u4 u5 u6 u7:Value):(((((((((w.alloc o).setCell ⟨N,0,none⟩ u0).setCell ⟨N,1,none⟩ u1).setCell ⟨N,2,none⟩ u2).setCell ⟨N,3,none⟩ u3).setCell ⟨N,4,none⟩ u4).setCell ⟨N,5,none⟩ u5).setCell ⟨N,6,none⟩ u6).setCell ⟨N,7,none⟩ u7)=(((((((((w.setCell ⟨N,0,none⟩ u0).setCell ⟨N,1,none⟩ u1).setCell ⟨N,2,none⟩ u2).setCell ⟨N,3,none⟩ u3).setCell ⟨N,4,none⟩ u4).setCell ⟨N,5,none⟩ u5).setCell ⟨N,6,none⟩ u6).setCell ⟨N,7,none⟩ u7).alloc o):=by
 rw[World.setCell_alloc_past _ _ _ _ h,World.setCell_alloc_past _ _ _ _ (by simpa using h),World.setCell_alloc_past _ _ _ _ (by simpa using h),World.setCell_alloc_past _ _ _ _ (by simpa using h),World.setCell_alloc_past _ _ _ _ (by simpa using h),World.setCell_alloc_past _ _ _ _ (by simpa using h),World.setCell_alloc_past _ _ _ _ (by simpa using h),World.setCell_alloc_past _ _ _ _ (by simpa using h)]
theorem st_return(k x:List UInt8)(m ln co:Int)(ks:List qQ)(hkl:k.length<=1000000)(h1:(k == qP)=false)(h2:(k == qW)=false)(h3:(k == zW)=false)(h4:(k == qN)=false)(h5:(k == qV)=true)
 (hret:qZV ks=true/\ks.length<=2):qUB (.mk k x m ln co ks):=by
 intro M fs v w h hL hl;obtain⟨q,c,rfl,hc1,hc2,hK⟩:=hl.kids;have hbl:=bal (bal (Below.refl w.1.size w) (qB (.mk k x m ln co ks) (.slice q ks.length c))) (sxO [] 0 0 (.slice none 0 0) (.slice none 0 0) 0 (.slice none 0 0) (.slice none 0 0));have HBL:=hI hbl;have HN:=hI ((Bx.new (.mk k x m ln co ks) (.slice q ks.length c) w).below (bal (Below.refl _ _) (sxO [] 0 0 (.slice none 0 0) (.slice none 0 0) 0 (.slice none 0 0) (.slice none 0 0))));have HT:=hI (jO.new [] 0 0 (.slice none 0 0) (.slice none 0 0) 0 (.slice none 0 0) (.slice none 0 0) (w.alloc (qB (.mk k x m ln co ks) (.slice q ks.length c))));simp only[World.size_alloc]at HT;have HKT0:=hI (show jX ((w.alloc (qB (.mk k x m ln co ks) (.slice q ks.length c))).alloc (sxO [] 0 0 (.slice none 0 0) (.slice none 0 0) 0 (.slice none 0 0) (.slice none 0 0))) (w.1.size+1) 73 from by
  have:=jO.kind (op:=[]) (l:=0) (c:=0) (tv:=.slice none 0 0) (ev:=.slice none 0 0) (fn:=0) (hv:=.slice none 0 0) (lv:=.slice none 0 0) (w.alloc (qB (.mk k x m ln co ks) (.slice q ks.length c)));simpa using this)
 have HM:=hI (show M.at fs ((w.alloc (qB (.mk k x m ln co ks) (.slice q ks.length c))).alloc (sxO [] 0 0 (.slice none 0 0) (.slice none 0 0) 0 (.slice none 0 0) (.slice none 0 0)))from h.below hbl);have HM0:=hI h;have HLI:=hI hl;have hsz:((w.alloc (qB (.mk k x m ln co ks) (.slice q ks.length c))).alloc (sxO [] 0 0 (.slice none 0 0) (.slice none 0 0) 0 (.slice none 0 0) (.slice none 0 0))).1.size=w.1.size+2:=by simp
 have HSC:=hI (qVP M.gs (fs.map (·.h)) (fs.getD M.ci noF).h.t k x m ln co ks (M.own fs));have HK:=hI hK;have HRET:=hI hret;have hF0:M.L<=w.1.size:=hL;clear h hl hK hbl;simp only[qZ,qB,sxO,qS,qQ.kind,qQ.text,qQ.num,qQ.line,qQ.col,qQ.kids]at *;go_enter func122,ntmps122
 go_wp2
 generalize ((w.alloc _).alloc _)=W at *;have HSZ:=hI hsz;clear hsz;obtain⟨n0,n1,n2,n3,n4,n5⟩:=HN.o.cells;refine qXG (fun a N=>(((((((((a.put (some 7) (.pointer (some ⟨w.1.size,0,none⟩))).put (some 8) (.string ⟨k.toArray⟩)).put (some 9) (.string ⟨k.toArray⟩)).put (some 10) (.pointer (some ⟨w.1.size,3,none⟩))).put (some 11) (.int .i64 ln)).put (some 12) (.pointer (some ⟨w.1.size,4,none⟩))).put (some 13) (.int .i64 co)).put (some 14) (.agg #[.string ⟨k.toArray⟩, .int .i64 ln, .int .i64 co, .slice none 0 0, .slice none 0 0, .int .i64 0, .slice none 0 0, .slice none 0 0])).put (some 5) (.pointer (some ⟨N,0,none⟩)))) (fun N w'=>StIn W k ln co N w') ?_ ?_
 ·refine wRg (S:=fun w'=>Below W.1.size W w') 99 ?_;refine wTk 0 7 (.pointer (some ⟨w.1.size,0,none⟩)) ?_ (bD W) ?_
  ·intro _ y;go_simp
  refine wTk 1 8 (.string ⟨k.toArray⟩) ?_ (bD W) ?_
  ·intro _ y;obtain⟨n0,n3,n4⟩:=kP3 y n0 n3 n4;go_simp
  refine wTk 3 10 (.pointer (some ⟨w.1.size,3,none⟩)) ?_ (bD W) ?_
  ·intro _ y;go_simp
  refine wTk 4 11 (.int .i64 ln) ?_ (bD W) ?_
  ·intro _ y;obtain⟨n0,n3,n4⟩:=kP3 y n0 n3 n4;go_simp
  refine wTk 5 12 (.pointer (some ⟨w.1.size,4,none⟩)) ?_ (bD W) ?_
  ·intro _ y;go_simp
  refine wTk 6 13 (.int .i64 co) ?_ (bD W) ?_
  ·intro _ y;obtain⟨n0,n3,n4⟩:=kP3 y n0 n3 n4;go_simp
  refine wE (i:=2) (j:=8) rfl rfl (by kernel_rfl) (by rfl) (by rfl) (fun K hK=>?_) (fun K hK=>?_)
  ·go_simp;refine(yP ⟨k.toArray⟩ _ (by simpa[ByteArray.size]using hkl)).mono ?_;rintro e w3 ⟨rfl,hb3⟩;have hb3:=zF hb3;refine kK hK hb3 ?_;clear hK K;refine wTk 7 14 (.agg #[.string ⟨k.toArray⟩, .int .i64 ln, .int .i64 co, .slice none 0 0, .slice none 0 0, .int .i64 0, .slice none 0 0, .slice none 0 0]) ?_ (hb3) ?_
   ·intro _ y;go_simp
   refine wOn 8 fun K hK=>?_
   go_simp;refine kK hK (bal hb3 _) ?_;clear hK K;refine wOn 9 fun K hK=>?_
   go_simp;refine kK hK (bal hb3 _) ?_;clear hK K;refine wDn ?_ _;exact⟨w3.1.size,by simp only[Act.put,pZa,pZb,pZc],bal hb3 (sxO k ln co (.slice none 0 0) (.slice none 0 0) 0 (.slice none 0 0) (.slice none 0 0)),jO.new k ln co (.slice none 0 0) (.slice none 0 0) 0 (.slice none 0 0) (.slice none 0 0) w3,jO.kind w3,hb3.size⟩
  ·go_simp;refine kK hK (bal (Below.refl W.1.size W).drew (.cells #[.string ⟨#[]⟩, .int .i64 0, .int .i64 0, .slice none 0 0, .slice none 0 0, .int .i64 0, .slice none 0 0, .slice none 0 0] 73)) ?_;clear hK K;refine wOn 2 fun K hK=>?_
   go_simp;refine(yP ⟨k.toArray⟩ _ (by simpa[ByteArray.size]using hkl)).mono ?_;rintro e w3 ⟨rfl,hb3⟩;have hb4:=(bal (Below.refl W.1.size W).drew (.cells #[.string ⟨#[]⟩, .int .i64 0, .int .i64 0, .slice none 0 0, .slice none 0 0, .int .i64 0, .slice none 0 0, .slice none 0 0] 73)).trans (hb3.mono (by simp));refine kK hK hb4 ?_;clear hK K;refine wTk 7 14 (.agg #[.string ⟨k.toArray⟩, .int .i64 ln, .int .i64 co, .slice none 0 0, .slice none 0 0, .int .i64 0, .slice none 0 0, .slice none 0 0]) ?_ (hb4) ?_
   ·intro _ y;go_simp
   have hb3:Below (W.alloc (sxO [] 0 0 (.slice none 0 0) (.slice none 0 0) 0 (.slice none 0 0) (.slice none 0 0))).1.size (W.alloc (sxO [] 0 0 (.slice none 0 0) (.slice none 0 0) 0 (.slice none 0 0) (.slice none 0 0))) w3:=⟨hb3.os,hb3.tape,hb3.output,hb3.size,hb3.block⟩;have sb:=(jO.new [] 0 0 (.slice none 0 0) (.slice none 0 0) 0 (.slice none 0 0) (.slice none 0 0) W).below hb3;have kd:jX w3 W.1.size 73:=(jO.kind (op:=[]) (l:=0) (c:=0) (tv:=.slice none 0 0) (ev:=.slice none 0 0) (fn:=0) (hv:=.slice none 0 0) (lv:=.slice none 0 0) W).turn (hb3.block _ (by simp));have⟨z0,z1,z2,z3,z4,z5,z6,z7,_⟩:=sb.a;have⟨zf0,zf1,zf2,zf3,zf4,zf5,zf6,zf7,_⟩:=sb.b;refine wOn 9 fun K hK=>?_
   go_simp;refine kK hK (set8 hb4 (Nat.le_refl _) _ _ _ _ _ _ _ _) ?_;clear hK K;refine wDn ?_ _;exact⟨W.1.size,by simp only[Act.put,pZa,pZb,pZc],set8 hb4 (Nat.le_refl _) _ _ _ _ _ _ _ _,sb.set8,(((((((kd.set _ _ _).set _ _ _).set _ _ _).set _ _ _).set _ _ _).set _ _ _).set _ _ _).set _ _ _,Nat.le_refl _⟩
 ·intro NS w5 hIq;obtain⟨hb5,hS5,hkd,hNS⟩:=hIq;try simp only[Act.put,pZa,pZb,pZc]
  have hsz:=HSZ.o;have hs52:w.1.size+2<=w5.1.size:=by have:=hb5.size;omega
  have hLN:M.L<=NS:=by omega
  have hL5:M.L<=w5.1.size:=by have:=hb5.size;omega
  have HW5:=hI (HBL.o.trans (hb5.mono (by omega)));have HM5:=hI (show M.at fs w5 from HM.o.below hb5);have HN5:=hI (HN.o.below hb5);have HT5:=hI (HT.o.below hb5);have HS5:=hI hS5;have HKD:=hI hkd;have HLI5:=hI (show xZ w5 (· < M.L) (.mk k x m ln co ks) (.slice q ks.length c)from xZ.move (fun g hg hok=>⟨hok,HW5.o.block g hg⟩) _ _ HLI.o);have HK5:=hI (HK.o.keep (HW5.o.mono hL));have HKT:=hI (show jX w5 (w.1.size+1) 73 from by
   have h1:=HT.o.c0;exact(show jX W (w.1.size+1) 73 from HKT0.o).turn (hb5.block _ (by omega)))
  obtain⟨n0,n1,n2,n3,n4,n5⟩:=HN5.o.cells;clear hb5 hS5 hkd hsz;obtain⟨hwk,hkl2⟩:=HRET.o;have HP:=hI (HSC.o.trans (by rw[h1,h2,h3,h4,h5];rfl:_=(qXp ⟨M.gs,M.own fs⟩ (fs.getD M.ci noF).h.t (.mk k x m ln co ks)).bind fun es=>.ok (.mk k ln co [] es 0 [] [],M.own fs)));have HC:=hI (leave_any M.B M.L NS M.gs fs M.ci k x m ln co ks q c k ln co (.slice none 0 0) (.slice none 0 0) 0 (.slice none 0 0) (.slice none 0 0) w5 hwk hkl2 ⟨_,_,_,_,_,_,_,_,HM5.o.rd⟩ hL5 HK5.o HS5.o);simp only[qZ,qQ.kind,qQ.text,qQ.num,qQ.line,qQ.col,qQ.kids]at HC;unfold qP at h1;unfold qW at h2;unfold zW at h3;unfold qN at h4;unfold qV at h5;clear hkl2 hwk;go_wp2_with fail
  refine(HC.o).mono ?_;rintro e w6 hX;cases hp:qXp ⟨M.gs,M.own fs⟩ (fs.getD M.ci noF).h.t (.mk k x m ln co ks)with
  | bad l' c' code =>
   have hX':=hX;unfold qQY at hX';rw[show qXp ⟨M.gs,(fs.getD M.ci noF).vars⟩ (fs.getD M.ci noF).h.t (.mk k x m ln co ks)=.bad l' c' code from hp]at hX';obtain⟨rfl,hg⟩:=hX';refine⟨rfl,qQX.badI (by rw[HP.o,hp];rfl) ?_⟩;exact⟨hg.os.trans HW5.o.os,hg.tape.trans HW5.o.tape,hg.output.trans HW5.o.output,Nat.le_trans HW5.o.size hg.size,fun b hb _ _ _=>(hg.block b (by have:=HW5.o.size;omega) (fun e=>by injection e with e;have:=HSZ.o;omega)).trans (HW5.o.block b hb)⟩
  | ok es =>
   unfold qQY at hX;rw[show qXp ⟨M.gs,(fs.getD M.ci noF).vars⟩ (fs.getD M.ci noF).h.t (.mk k x m ln co ks)=.ok es from hp]at hX;obtain⟨rfl,⟨kv,hS6,hles⟩,hg⟩:=hX;obtain⟨uq,uc,rfl⟩:=hles.shape;have hsz:=HSZ.o;have hs5:=HW5.o.size;have hg5:=hg.size;have hNT:w.1.size+1≠NS:=by omega
   have HQ:=hI (HP.o.trans (by rw[hp];rfl:_=.ok (.mk k ln co [] es 0 [] [],M.own fs)));have HT6:=hI (HT5.o.turn (hg.block _ HT5.o.lt (fun e=>hNT (by injection e))));have HS6:=hI hS6;have HM6:=hI (show M.at fs w6 from Mem.keep HM5.o (fun b S kk hSq=>hg.block b (by obtain⟨cs,fr,kk⟩:=kk;exact qZF kk) (fun e=>(kk.ne HKD.o hSq) (by injection e))) (fun b kk=>hg.block b (by obtain⟨es',cc,kk⟩:=kk;exact qZF kk) (fun e=>(vU kk HKD.o) (by injection e))) (fun b hb hbL=>hg.block b hb (fun e=>by injection e with e;omega)));have HTN:=hI ((yX.toN (NS:=NS) (yX.of_below (F:=M.F) (Mo:=M.Mo) (vv:=M.vv fs) HW5.o)).trans (grown_N (vv:=M.vv fs) hg) (.inl rfl));have HKT6:=hI (HKT.o.turn (hg.block _ HT5.o.lt (fun e=>hNT (by injection e))));have HLS:=hI hles;have hvw:∀ g,(M.vv fs).ownBlock=some g->g < w.1.size:=Mem.vlt HM0.o;have hi:=HM0.o.rd.hi;have HI:=hI hi;have⟨r0,r1,r2,r3,r4,r5,r6,r7,_⟩:=HT6.o.a;have⟨rf0,rf1,rf2,rf3,rf4,rf5,rf6,rf7,_⟩:=HT6.o.b;have⟨s0,s1,s2,s3,s4,s5,s6,s7,_⟩:=hS6.a;have rl:=HT6.o.lt;clear n0 n1 n2 n3 n4 n5 hp hS6 hles hg HC hi hsz;go_wp2
   refine bodyPost_ret (v:=sxV (.mk k ln co [] es 0 [] []) ⟨.slice none 0 0, .slice uq es.length uc, .slice none 0 0, .slice none 0 0⟩) (by simp[results,results122,go_sem,sxV,r0,r1,r2,r3,r4,r5,r6,r7,rl]) rfl (qQX.okI (vv':=M.vv fs) HQ.o ?_ ?_ (.inl rfl) ⟨_,rfl,?_⟩)
   ·rw[show xU fs M.ci (M.own fs) (M.vv fs)=fs from qXB HI.o];exact Mem.set8 HM6.o HKT6.o (by omega) _ _ _ _ _ _ _ _
   ·exact yX.fin HTN.o (by have:=HSZ.o;omega) (by omega) _ _ _ _ _ _ _ _
   ·refine⟨qU.nil _ _,qU.move HLS.o (fun g hg hok=>?_),jE.nil _ _,jE.nil _ _⟩;exact⟨⟨by omega,fun e=>by have:=hvw g e.symm;omega⟩,qJI _ _ _ (by omega) _ _ _ _ _ _ _ _⟩
theorem qJj(k x:List UInt8)(m ln co:Int)(ks:List qQ)(hkl:k.length<=1000000)(h1:(k == qP)=false)(h2:(k == qW)=false)(h3:(k == zW)=false)(h4:(k == qN)=false)(h5:(k == qV)=false)
 (hgu:∃ a rest,ks=a :: rest/\wfE a=true/\rest.length<=2/\∀ b∈rest,qUz b):qUB (.mk k x m ln co ks):=by
 intro M fs v w h hL hl;obtain⟨q,c,rfl,hc1,hc2,hK⟩:=hl.kids;have hbl:=bal (bal (Below.refl w.1.size w) (qB (.mk k x m ln co ks) (.slice q ks.length c))) (sxO [] 0 0 (.slice none 0 0) (.slice none 0 0) 0 (.slice none 0 0) (.slice none 0 0));have HBL:=hI hbl;have HN:=hI ((Bx.new (.mk k x m ln co ks) (.slice q ks.length c) w).below (bal (Below.refl _ _) (sxO [] 0 0 (.slice none 0 0) (.slice none 0 0) 0 (.slice none 0 0) (.slice none 0 0))));have HT:=hI (jO.new [] 0 0 (.slice none 0 0) (.slice none 0 0) 0 (.slice none 0 0) (.slice none 0 0) (w.alloc (qB (.mk k x m ln co ks) (.slice q ks.length c))));simp only[World.size_alloc]at HT;have HKT0:=hI (show jX ((w.alloc (qB (.mk k x m ln co ks) (.slice q ks.length c))).alloc (sxO [] 0 0 (.slice none 0 0) (.slice none 0 0) 0 (.slice none 0 0) (.slice none 0 0))) (w.1.size+1) 73 from by
  have:=jO.kind (op:=[]) (l:=0) (c:=0) (tv:=.slice none 0 0) (ev:=.slice none 0 0) (fn:=0) (hv:=.slice none 0 0) (lv:=.slice none 0 0) (w.alloc (qB (.mk k x m ln co ks) (.slice q ks.length c)));simpa using this)
 have HM:=hI (show M.at fs ((w.alloc (qB (.mk k x m ln co ks) (.slice q ks.length c))).alloc (sxO [] 0 0 (.slice none 0 0) (.slice none 0 0) 0 (.slice none 0 0) (.slice none 0 0)))from h.below hbl);have HM0:=hI h;have HLI:=hI hl;have hsz:((w.alloc (qB (.mk k x m ln co ks) (.slice q ks.length c))).alloc (sxO [] 0 0 (.slice none 0 0) (.slice none 0 0) 0 (.slice none 0 0) (.slice none 0 0))).1.size=w.1.size+2:=by simp
 have HSC:=hI (qVP M.gs (fs.map (·.h)) (fs.getD M.ci noF).h.t k x m ln co ks (M.own fs));have HK:=hI hK;have hF0:M.L<=w.1.size:=hL;clear h hl hK hbl;simp only[qZ,qB,sxO,qS,qQ.kind,qQ.text,qQ.num,qQ.line,qQ.col,qQ.kids]at *;go_enter func122,ntmps122
 go_wp2
 generalize ((w.alloc _).alloc _)=W at *;have HSZ:=hI hsz;clear hsz;obtain⟨n0,n1,n2,n3,n4,n5⟩:=HN.o.cells;refine qXG (fun a N=>(((((((((a.put (some 7) (.pointer (some ⟨w.1.size,0,none⟩))).put (some 8) (.string ⟨k.toArray⟩)).put (some 9) (.string ⟨k.toArray⟩)).put (some 10) (.pointer (some ⟨w.1.size,3,none⟩))).put (some 11) (.int .i64 ln)).put (some 12) (.pointer (some ⟨w.1.size,4,none⟩))).put (some 13) (.int .i64 co)).put (some 14) (.agg #[.string ⟨k.toArray⟩, .int .i64 ln, .int .i64 co, .slice none 0 0, .slice none 0 0, .int .i64 0, .slice none 0 0, .slice none 0 0])).put (some 5) (.pointer (some ⟨N,0,none⟩)))) (fun N w'=>StIn W k ln co N w') ?_ ?_
 ·refine wRg (S:=fun w'=>Below W.1.size W w') 99 ?_;refine wTk 0 7 (.pointer (some ⟨w.1.size,0,none⟩)) ?_ (bD W) ?_
  ·intro _ y;go_simp
  refine wTk 1 8 (.string ⟨k.toArray⟩) ?_ (bD W) ?_
  ·intro _ y;obtain⟨n0,n3,n4⟩:=kP3 y n0 n3 n4;go_simp
  refine wTk 3 10 (.pointer (some ⟨w.1.size,3,none⟩)) ?_ (bD W) ?_
  ·intro _ y;go_simp
  refine wTk 4 11 (.int .i64 ln) ?_ (bD W) ?_
  ·intro _ y;obtain⟨n0,n3,n4⟩:=kP3 y n0 n3 n4;go_simp
  refine wTk 5 12 (.pointer (some ⟨w.1.size,4,none⟩)) ?_ (bD W) ?_
  ·intro _ y;go_simp
  refine wTk 6 13 (.int .i64 co) ?_ (bD W) ?_
  ·intro _ y;obtain⟨n0,n3,n4⟩:=kP3 y n0 n3 n4;go_simp
  refine wE (i:=2) (j:=8) rfl rfl (by kernel_rfl) (by rfl) (by rfl) (fun K hK=>?_) (fun K hK=>?_)
  ·go_simp;refine(yP ⟨k.toArray⟩ _ (by simpa[ByteArray.size]using hkl)).mono ?_;rintro e w3 ⟨rfl,hb3⟩;have hb3:=zF hb3;refine kK hK hb3 ?_;clear hK K;refine wTk 7 14 (.agg #[.string ⟨k.toArray⟩, .int .i64 ln, .int .i64 co, .slice none 0 0, .slice none 0 0, .int .i64 0, .slice none 0 0, .slice none 0 0]) ?_ (hb3) ?_
   ·intro _ y;go_simp
   refine wOn 8 fun K hK=>?_
   go_simp;refine kK hK (bal hb3 _) ?_;clear hK K;refine wOn 9 fun K hK=>?_
   go_simp;refine kK hK (bal hb3 _) ?_;clear hK K;refine wDn ?_ _;exact⟨w3.1.size,by simp only[Act.put,pZa,pZb,pZc],bal hb3 (sxO k ln co (.slice none 0 0) (.slice none 0 0) 0 (.slice none 0 0) (.slice none 0 0)),jO.new k ln co (.slice none 0 0) (.slice none 0 0) 0 (.slice none 0 0) (.slice none 0 0) w3,jO.kind w3,hb3.size⟩
  ·go_simp;refine kK hK (bal (Below.refl W.1.size W).drew (.cells #[.string ⟨#[]⟩, .int .i64 0, .int .i64 0, .slice none 0 0, .slice none 0 0, .int .i64 0, .slice none 0 0, .slice none 0 0] 73)) ?_;clear hK K;refine wOn 2 fun K hK=>?_
   go_simp;refine(yP ⟨k.toArray⟩ _ (by simpa[ByteArray.size]using hkl)).mono ?_;rintro e w3 ⟨rfl,hb3⟩;have hb4:=(bal (Below.refl W.1.size W).drew (.cells #[.string ⟨#[]⟩, .int .i64 0, .int .i64 0, .slice none 0 0, .slice none 0 0, .int .i64 0, .slice none 0 0, .slice none 0 0] 73)).trans (hb3.mono (by simp));refine kK hK hb4 ?_;clear hK K;refine wTk 7 14 (.agg #[.string ⟨k.toArray⟩, .int .i64 ln, .int .i64 co, .slice none 0 0, .slice none 0 0, .int .i64 0, .slice none 0 0, .slice none 0 0]) ?_ (hb4) ?_
   ·intro _ y;go_simp
   have hb3:Below (W.alloc (sxO [] 0 0 (.slice none 0 0) (.slice none 0 0) 0 (.slice none 0 0) (.slice none 0 0))).1.size (W.alloc (sxO [] 0 0 (.slice none 0 0) (.slice none 0 0) 0 (.slice none 0 0) (.slice none 0 0))) w3:=⟨hb3.os,hb3.tape,hb3.output,hb3.size,hb3.block⟩;have sb:=(jO.new [] 0 0 (.slice none 0 0) (.slice none 0 0) 0 (.slice none 0 0) (.slice none 0 0) W).below hb3;have kd:jX w3 W.1.size 73:=(jO.kind (op:=[]) (l:=0) (c:=0) (tv:=.slice none 0 0) (ev:=.slice none 0 0) (fn:=0) (hv:=.slice none 0 0) (lv:=.slice none 0 0) W).turn (hb3.block _ (by simp));have⟨z0,z1,z2,z3,z4,z5,z6,z7,_⟩:=sb.a;have⟨zf0,zf1,zf2,zf3,zf4,zf5,zf6,zf7,_⟩:=sb.b;refine wOn 9 fun K hK=>?_
   go_simp;refine kK hK (set8 hb4 (Nat.le_refl _) _ _ _ _ _ _ _ _) ?_;clear hK K;refine wDn ?_ _;exact⟨W.1.size,by simp only[Act.put,pZa,pZb,pZc],set8 hb4 (Nat.le_refl _) _ _ _ _ _ _ _ _,sb.set8,(((((((kd.set _ _ _).set _ _ _).set _ _ _).set _ _ _).set _ _ _).set _ _ _).set _ _ _).set _ _ _,Nat.le_refl _⟩
 ·intro NS w5 hIq;obtain⟨hb5,hS5,hkd,hNS⟩:=hIq;try simp only[Act.put,pZa,pZb,pZc]
  have hsz:=HSZ.o;have hs52:w.1.size+2<=w5.1.size:=by have:=hb5.size;omega
  have hLN:M.L<=NS:=by omega
  have hL5:M.L<=w5.1.size:=by have:=hb5.size;omega
  have HW5:=hI (HBL.o.trans (hb5.mono (by omega)));have HM5:=hI (show M.at fs w5 from HM.o.below hb5);have HN5:=hI (HN.o.below hb5);have HT5:=hI (HT.o.below hb5);have HS5:=hI hS5;have HKD:=hI hkd;have HLI5:=hI (show xZ w5 (· < M.L) (.mk k x m ln co ks) (.slice q ks.length c)from xZ.move (fun g hg hok=>⟨hok,HW5.o.block g hg⟩) _ _ HLI.o);have HK5:=hI (HK.o.keep (HW5.o.mono hL));have HKT:=hI (show jX w5 (w.1.size+1) 73 from by
   have h1:=HT.o.c0;exact(show jX W (w.1.size+1) 73 from HKT0.o).turn (hb5.block _ (by omega)))
  obtain⟨n0,n1,n2,n3,n4,n5⟩:=HN5.o.cells;clear hb5 hS5 hkd hsz;obtain⟨a,rest,rfl,ha,hr,hbo⟩:=hgu;have HP:=hI (HSC.o.trans (by rw[h1,h2,h3,h4,h5];rfl:_=(qZw M.gs (fs.map (·.h)) (fs.getD M.ci noF).h.t (a :: rest) (M.own fs)).bind fun r=>.ok (.mk k ln co [] r.1.1 0 r.1.2.1 r.1.2.2,r.2)));have HC:=hI (qPH M fs NS k x m ln co a rest (.slice q (a :: rest).length c) k ln co (.slice none 0 0) 0 w5 HM5.o hL5 HLI5.o ha hr hbo HS5.o HKD.o hLN);simp only[qZ,qQ.kind,qQ.text,qQ.num,qQ.line,qQ.col,qQ.kids]at HC;unfold qP at h1;unfold qW at h2;unfold zW at h3;unfold qN at h4;unfold qV at h5;have hFlt:M.F < w.1.size:=by obtain⟨cs,fr,kk⟩:=zE HM0.o.rd.frow rfl;exact qZF kk
  have hMolt:M.Mo < w.1.size:=by obtain⟨es,cc,kk⟩:=HM0.o.rd.en.om.isMap;exact qZF kk
  have hvw:∀ g,(M.vv fs).ownBlock=some g->g < w.1.size:=Mem.vlt HM0.o;clear ha hr hbo;go_wp2_with fail
  refine(HC.o).mono ?_;rintro e w6 hX;have hsz:=HSZ.o;cases hp:qZw M.gs (fs.map (·.h)) (fs.getD M.ci noF).h.t (a :: rest) (M.own fs)with
  | bad l' c' code =>
   unfold qXU at hX;rw[hp]at hX;obtain⟨rfl,hg⟩:=hX;refine⟨rfl,qQX.badI (by rw[HP.o,hp];rfl) ?_⟩;have hT:=(yX.toN (NS:=NS) (yX.of_below (F:=M.F) (Mo:=M.Mo) (vv:=M.vv fs) HW5.o)).trans hg (.inl rfl);exact yX.mk hT.os hT.tape hT.output hT.size (fun k a b c d=>hT.block k a b c (by omega) d)
  | ok r =>
   obtain⟨⟨es,ba,bb⟩,own'⟩:=r;unfold qXU at hX;rw[hp]at hX;obtain⟨vv',rfl,hM6,hT6,hR6,ev,hv,lv,hS6,hE,hH,hL'⟩:=hX;obtain⟨uq,uc,rfl⟩:=hE.shape;obtain⟨vq,vc,rfl⟩:=hH.shape;obtain⟨xq,xc,rfl⟩:=hL'.shape;have hg5:=hT6.size;have hbk:w6.1[w.1.size+1]? = w5.1[w.1.size+1]?:=hT6.block _ (by omega) (by omega) (by omega) (by omega) (fun e=>by have:=hvw _ e.symm;omega);have HQ:=hI (HP.o.trans (by rw[hp];rfl:_=.ok (.mk k ln co [] es 0 ba bb,own')));have HT6:=hI (HT5.o.turn hbk);have HM6:=hI hM6;have HTN:=hI ((yX.toN (NS:=NS) (yX.of_below (F:=M.F) (Mo:=M.Mo) (vv:=M.vv fs) HW5.o)).trans hT6 (.inl rfl));have HKT6:=hI (HKT.o.turn hbk);have HE:=hI hE;have HH:=hI hH;have HL':=hI hL';have HR6:=hI (vW.low hR6 (show w.1.size<=w5.1.size by omega));have⟨r0,r1,r2,r3,r4,r5,r6,r7,_⟩:=HT6.o.a;have⟨rf0,rf1,rf2,rf3,rf4,rf5,rf6,rf7,_⟩:=HT6.o.b;have⟨s0,s1,s2,s3,s4,s5,s6,s7,_⟩:=hS6.a;have rl:=HT6.o.lt;clear n0 n1 n2 n3 n4 n5 hp hS6 hE hH hL' hT6 hM6 hR6 hbk HC;go_wp2
   refine bodyPost_ret (v:=sxV (.mk k ln co [] es 0 ba bb) ⟨.slice none 0 0, .slice uq es.length uc, .slice vq ba.length vc, .slice xq bb.length xc⟩) (by simp[results,results122,go_sem,sxV,r0,r1,r2,r3,r4,r5,r6,r7,rl]) rfl (qQX.okI (vv':=vv') HQ.o ?_ ?_ HR6.o ⟨_,rfl,?_⟩)
   ·exact Mem.set8 HM6.o HKT6.o (by omega) _ _ _ _ _ _ _ _
   ·exact yX.fin HTN.o (by omega) (by omega) _ _ _ _ _ _ _ _
   ·exact⟨qU.nil _ _,qU.move HE.o (fun g hg hok=>⟨⟨by omega,hok.2⟩,qJI _ _ _ (by omega) _ _ _ _ _ _ _ _⟩),jE.move HH.o (fun g hg hok=>⟨⟨by omega,hok.2⟩,qJI _ _ _ (by omega) _ _ _ _ _ _ _ _⟩),jE.move HL'.o (fun g hg hok=>⟨⟨by omega,hok.2⟩,qJI _ _ _ (by omega) _ _ _ _ _ _ _ _⟩)⟩
end Go.Proofs.YtiajhekdhhhghaaGreatDoor
