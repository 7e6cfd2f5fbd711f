/- Walks. -/
import Derived.Test.YtiajhekdhhhghaaGreatDoorNag
set_option linter.all false
set_option maxHeartbeats 8000000
set_option maxRecDepth 100000
namespace Go.Proofs.YtiajhekdhhhghaaGreatDoor
open Tryz Go.Proofs.Tryz
open Go Go.RowKit
structure qQg where
 tv:Value
 ev:Value
 hv:Value
 lv:Value
def sxC:Sx->qQg->List Value
 | .mk op l c _ _ fn _ _,s=>[.string ⟨op.toArray⟩, .int .i64 l, .int .i64 c,s.tv,s.ev, .int .i64 fn,s.hv,s.lv]
def sxV:Sx->qQg->Value
 | .mk op l c _ _ fn _ _,s=>.agg #[.string ⟨op.toArray⟩, .int .i64 l, .int .i64 c,s.tv,s.ev, .int .i64 fn,s.hv,s.lv]
theorem sxC_len(e:Sx)(s:qQg):(sxC e s).length=8:=by cases e;rfl
def qVN:List Sx->List qQg->List Value
 | t :: ts,v :: vs=>sxC t v++qVN ts vs
 | _,_=>[]
mutual
def wL(w:World)(ok:Nat->Prop):Sx->qQg->Prop
 | .mk _ _ _ tg es _ th el,s=>qU w ok tg s.tv/\qU w ok es s.ev/\(∃ vs,(∀ g,s.hv.ownBlock=some g->ok g)/\w.ownsRow 0 73 8 s.hv th.length (qVN th vs)/\yZ w ok th vs) /\
  ∃ vs,(∀ g,s.lv.ownBlock=some g->ok g)/\w.ownsRow 0 73 8 s.lv el.length (qVN el vs)/\yZ w ok el vs
def yZ(w:World)(ok:Nat->Prop):List Sx->List qQg->Prop
 | [],[]=>True
 | t :: ts,v :: vs=>wL w ok t v/\yZ w ok ts vs
 | _,_=>False
end
def jE(w:World)(ok:Nat->Prop)(ss:List Sx)(v:Value):Prop:=∃ vs,(∀ g,v.ownBlock=some g->ok g)/\w.ownsRow 0 73 8 v ss.length (qVN ss vs)/\yZ w ok ss vs
mutual
theorem wL.move{w w':World}{ok ok':Nat->Prop}(hm:∀ g,g < w.1.size->ok g->ok' g/\w'.1[g]? = w.1[g]?):∀ (t:Sx) (v:qQg),wL w ok t v->wL w' ok' t v
 | .mk _ _ _ tg es _ th el,s,h=>by
  obtain⟨h1,h2,⟨vs,h3,h4,h5⟩,us,h6,h7,h8⟩:=h;exact⟨h1.move hm,h2.move hm,⟨vs,fun g hg=>(hm g (h4.lt g hg).2 (h3 g hg)).1,zU h4 (fun g hg=>(hm g (h4.lt g hg).2 (h3 g hg)).2),yZ.move hm th vs h5⟩,
   us,fun g hg=>(hm g (h7.lt g hg).2 (h6 g hg)).1,zU h7 (fun g hg=>(hm g (h7.lt g hg).2 (h6 g hg)).2),yZ.move hm el us h8⟩
theorem yZ.move{w w':World}{ok ok':Nat->Prop}(hm:∀ g,g < w.1.size->ok g->ok' g/\w'.1[g]? = w.1[g]?):∀ (ts:List Sx) (vs:List qQg),yZ w ok ts vs->yZ w' ok' ts vs
 | [],[],_=>trivial
 | t :: ts,v :: vs,h=>⟨wL.move hm t v h.1,yZ.move hm ts vs h.2⟩
 | [],_ :: _,h=>h.elim
 | _ :: _,[],h=>h.elim
end
theorem jE.move{w w':World}{ok ok':Nat->Prop}{ss:List Sx}{v:Value}(h:jE w ok ss v)(hm:∀ g,g < w.1.size->ok g->ok' g/\w'.1[g]? = w.1[g]?):jE w' ok' ss v:=by
 obtain⟨j,o,h2,h3⟩:=h;exact⟨j,fun g hg=>(hm g (h2.lt g hg).2 (o g hg)).1,zU h2 (fun g hg=>(hm g (h2.lt g hg).2 (o g hg)).2),yZ.move hm ss j h3⟩
theorem jE.nil(w:World)(ok:Nat->Prop):jE w ok [] (.slice none 0 0):=⟨[],fun g h=>by simp[Value.ownBlock]at h,World.ownsRow_nil _ _ _ _,trivial⟩
theorem jE.shape{w:World}{ok:Nat->Prop}{ss:List Sx}{v:Value}(h:jE w ok ss v):∃ q c,v=.slice q ss.length c:=by
 obtain⟨y,_,h2,_⟩:=h;rcases h2.2 with⟨rfl,s⟩ | ⟨g,j,o,rfl,_⟩
 ·exact⟨none,0,by rw[s]⟩
 ·exact⟨_,_,rfl⟩
theorem yZ.length{w:World}{ok:Nat->Prop}:∀ (ts:List Sx) (j:List qQg),yZ w ok ts j->ts.length=j.length
 | [],[],_=>rfl
 | _ :: ts,_ :: j,h=>by simp[yZ.length ts j h.2]
 | [],_ :: _,h=>h.elim
 | _ :: _,[],h=>h.elim
theorem qWb:∀ (ts us:List Sx) (j xs:List qQg),ts.length=j.length->qVN (ts++us) (j++xs)=qVN ts j++qVN us xs
 | [],us,[],xs,_=>rfl
 | t :: ts,us,v :: j,xs,h=>by simp only[lC,qVN,qWb ts us j xs (by simpa using h),List.append_assoc]
 | [],_,_ :: _,_,h=>by simp at h
 | _ :: _,_,[],_,h=>by simp at h
theorem yZ.append{w:World}{ok:Nat->Prop}:∀ (ts us:List Sx) (j xs:List qQg),yZ w ok ts j->yZ w ok us xs->yZ w ok (ts++us) (j++xs)
 | [],_,[],_,_,h=>h
 | _ :: ts,us,_ :: j,xs,h,h'=>⟨h.1,yZ.append ts us j xs h.2 h'⟩
 | [],_,_ :: _,_,h,_=>h.elim
 | _ :: _,_,[],_,h,_=>h.elim
def kH(w:World)(lo:Nat)(ok:Nat->Prop)(ss:List Sx)(v:Value):Prop:=∃ vs,w.ownsRow lo 73 8 v ss.length (qVN ss vs)/\(∀ g,v.ownBlock=some g->ok g)/\yZ w (fun g=>lo<=g/\ok g/\some g≠v.ownBlock) ss vs
theorem kH.nil(w:World)(lo:Nat)(ok:Nat->Prop):kH w lo ok [] (.slice none 0 0):=⟨[],World.ownsRow_nil _ _ _ _,fun g h=>by simp[Value.ownBlock]at h,trivial⟩
theorem kH.lies{w:World}{lo:Nat}{ok:Nat->Prop}{ss:List Sx}{v:Value}(h:kH w lo ok ss v):jE w (fun g=>lo<=g/\ok g) ss v:=by
 obtain⟨j,o,h2,h3⟩:=h;exact⟨j,fun g hg=>⟨(o.lt g hg).1,h2 g hg⟩,qX2 o (Nat.zero_le _),yZ.move (fun g _ hg=>⟨⟨hg.1,hg.2.1⟩,rfl⟩) _ j h3⟩
theorem kH.move{w w':World}{lo:Nat}{ok ok':Nat->Prop}{ss:List Sx}{v:Value}(h:kH w lo ok ss v)(hm:∀ g,g < w.1.size->lo<=g->ok g->ok' g/\w'.1[g]? = w.1[g]?):kH w' lo ok' ss v:=by
 obtain⟨o,j,h2,h3⟩:=h;exact⟨o,zU j (fun g hg=>(hm g (j.lt g hg).2 (j.lt g hg).1 (h2 g hg)).2),fun g hg=>(hm g (j.lt g hg).2 (j.lt g hg).1 (h2 g hg)).1,yZ.move (fun g hlt hg=>⟨⟨hg.1,(hm g hlt hg.1 hg.2.1).1,hg.2.2⟩,(hm g hlt hg.1 hg.2.1).2⟩) _ o h3⟩
theorem kH.lt{w:World}{lo:Nat}{ok:Nat->Prop}{ss:List Sx}{v:Value}(h:kH w lo ok ss v):∀ g,v.ownBlock=some g->lo<=g/\g < w.1.size:=by
 obtain⟨o,j,_⟩:=h;exact j.lt
theorem kH.shape{w:World}{lo:Nat}{ok:Nat->Prop}{ss:List Sx}{v:Value}(h:kH w lo ok ss v):∃ q n c,v=.slice q n c:=by
 obtain⟨y,o,_⟩:=h;rcases o.2 with⟨rfl,_⟩ | ⟨g,j,s,rfl,_⟩
 ·exact⟨none,0,0,rfl⟩
 ·exact⟨_,_,_,rfl⟩
theorem wL.one{w:World}{ok:Nat->Prop}{t:Sx}{s:qQg}(h:wL w ok t s):∀ u∈sxC t s,u.oneCell'=true:=by
 cases t with
 | mk op l c tg es fn th el =>
  obtain⟨z,h2,⟨I,h3,h4,R⟩,us,J,G,O⟩:=h;have A:s.hv.oneCell'=true:=by rcases h4.2 with⟨e,_⟩ | ⟨g,o,j,e,_⟩ <;> rw[e] <;> rfl
  have C:s.lv.oneCell'=true:=by rcases G.2 with⟨e,_⟩ | ⟨g,o,j,e,_⟩ <;> rw[e] <;> rfl
  intro u y;simp[sxC]at y;rcases y with rfl | rfl | rfl | rfl | rfl | rfl | rfl | rfl
  ·rfl
  ·rfl
  ·rfl
  ·exact z.one
  ·exact h2.one
  ·rfl
  ·exact A
  ·exact C
theorem info73:(prog.info? 73).map (fun i=>(i.zero,i.size,i.bytes))=some (some (.agg #[.string ⟨#[]⟩, .int .i64 0, .int .i64 0, .slice none 0 0, .slice none 0 0, .int .i64 0, .slice none 0 0, .slice none 0 0]),8,136):=by kernel_rfl
theorem append_sx{o:Oper}{a:Act}{K:Act->World->Prop}{Q:Exit->Act->World->Prop}{w:World}{lo G dd:Nat}{ok:Nat->Prop}{acc:List Sx}{e:Sx}{v:Value}{u:qQg}(s x:Operand)
 (ho:o.op=.call { callee:=.builtin .append,args:=#[s,x],argTypes:=#[38,38] }) (hd:o.dst=some dd) (hB:kH w lo ok acc v) (I:wL w (fun g=>lo<=g/\ok g/\some g≠v.ownBlock) e u) (hlo:lo<=w.1.size)
 (A:ok (w.1.size+1)) (hs:a.eval s=v) (C:w.1.size=G) (O:a.eval x=.slice (some ⟨G,0,none⟩) 1 1) (R:acc.length < 1000000)
 (h:∀ v' w',kH w' lo ok (acc++[e]) v'->(w.alloc (.cells (sxC e u).toArray 73)).grownBy w' v.ownBlock->K (a.put (some dd) v') w') :
 o.wp prog a (w.alloc (.cells (sxC e u).toArray 73)) K Q:=by
 obtain⟨j,J,h2,h3⟩:=hB;refine qQJ underlying38 info73 (by decide) rfl (by decide) s x ho hd J hlo hs C O (sxC_len e u) I.one R fun v' w' ho' hg' hbk=>h v' w' ?_ hg'
 have y:=yZ.length acc j h3;have z:∀ g,g < w.1.size->lo<=g/\ok g/\some g≠v.ownBlock->(lo<=g/\ok g/\some g≠v'.ownBlock)/\w'.1[g]? = w.1[g]?:=fun g hg hk=>by
  refine⟨⟨hk.1,hk.2.1,fun e=>?_⟩,(hg'.block g (by simp;omega) hk.2.2).trans (Below.heap_alloc w _ g hg)⟩;rcases hbk with h | h
  ·exact hk.2.2 (e.trans h)
  ·rw[h]at e;injection e with e;omega
 refine⟨j++[u],?_,fun g hg=>?_,yZ.append acc [e] j [u] (yZ.move z acc j h3) ⟨I.move z,trivial⟩⟩
 ·rw[qWb acc [e] j [u] y,lL];simpa[qVN]using ho'
 ·rcases hbk with h | h
  ·exact h2 g (h ▸ hg)
  ·rw[h]at hg;injection hg with hg;subst hg;exact A
theorem qVT{ops:Array Oper}{rest:List Oper}{o:Oper}{a:Act}{Q:Exit->Act->World->Prop}{w:World}{lo A dd:Nat}{ok:Nat->Prop}{acc:List Sx}{e:Sx}{v:Value}{u:qQg}(y:o.guard=none)(s x:Operand)
 (ho:o.op=.call { callee:=.builtin .append,args:=#[s,x],argTypes:=#[38,38] }) (hd:o.dst=some dd) (hB:kH w lo ok acc v) (G:wL w (fun g=>lo<=g/\ok g/\some g≠v.ownBlock) e u) (hlo:lo<=w.1.size)
 (j:ok (w.1.size+1)) (hs:a.eval s=v) (z:w.1.size=A) (C:a.eval x=.slice (some ⟨A,0,none⟩) 1 1) (I:acc.length < 1000000)
 (h:∀ v' w',kH w' lo ok (acc++[e]) v'->(w.alloc (.cells (sxC e u).toArray 73)).grownBy w' v.ownBlock->wpList prog ops Q rest (a.put (some dd) v') w') :
 wpList prog ops Q (o :: rest) a (w.alloc (.cells (sxC e u).toArray 73)) :=
 wpList_plain y fun _ hK'=>append_sx s x ho hd hB G hlo j hs z C I fun v' w' h1 h2=>hK' _ _ (h v' w' h1 h2)
structure Mem where
 B:Nat
 L:Nat
 gs:List qI
 ci:Nat
 FC:Nat
 Mf:Nat
 gv:Value
 Mg:Nat
 Mo:Nat
 Mr:Nat
 F:Nat
 cl:vE
def Mem.at(M:Mem)(fs:List FnM)(w:World):Prop:=WIn M.B M.L M.gs fs M.ci M.FC M.Mf M.gv M.Mg M.Mo M.Mr M.F M.cl w
def Mem.vv(M:Mem)(fs:List FnM):Value:=(fs.getD M.ci noF).vv
def Mem.own(M:Mem)(fs:List FnM):List qI:=(fs.getD M.ci noF).vars
def vW(u v:Value)(w:World):Prop:=u.ownBlock=v.ownBlock\/∃ g,w.1.size<=g/\u.ownBlock=some g
theorem vW.trans{a b c:Value}{w w':World}(h:vW a b w')(k:vW b c w)(hs:w.1.size<=w'.1.size):vW a c w:=by
 rcases h with h | ⟨g,hg,h⟩
 ·rcases k with k | ⟨g,hg,k⟩
  ·exact .inl (h.trans k)
  ·exact .inr ⟨g,hg,h.trans k⟩
 ·exact .inr ⟨g,by omega,h⟩
def qQX{α:Type}(M:Mem)(fs:List FnM)(p:CR (α×List qI))(R:α->Value->Value->World->Prop)(w:World)(e:Ending)(w':World):Prop :=
 match p with
 | .ok (a,own')=>∃ u vv',e=.returned u/\M.at (xU fs M.ci own' vv') w'/\yX M.F M.Mo (M.vv fs) w w'/\vW vv' (M.vv fs) w/\R a u vv' w'
 | .bad ln co code=>e=.panicked [{ v:=xO ln co code,recovered:=false }]/\yX M.F M.Mo (M.vv fs) w w'
theorem qQX.okI{α:Type}{M:Mem}{fs:List FnM}{p:CR (α×List qI)}{R:α->Value->Value->World->Prop}{w w':World}{a:α}{j:List qI}{u vv':Value}(hp:p=.ok (a,j))(o:M.at (xU fs M.ci j vv') w')(h2:yX M.F M.Mo (M.vv fs) w w')(h3:vW vv' (M.vv fs) w)(h4:R a u vv' w') :
 qQX M fs p R w (.returned u) w':=by rw[hp];exact⟨u,vv',rfl,o,h2,h3,h4⟩
theorem qQX.badI{α:Type}{M:Mem}{fs:List FnM}{p:CR (α×List qI)}{R:α->Value->Value->World->Prop}{w w':World}{ln co code:Int}(hp:p=.bad ln co code)(h2:yX M.F M.Mo (M.vv fs) w w') :
 qQX M fs p R w (.panicked [{ v:=xO ln co code,recovered:=false }]) w':=by rw[hp];exact⟨rfl,h2⟩
theorem qQX.cases{α:Type}{M:Mem}{fs:List FnM}{p:CR (α×List qI)}{R:α->Value->Value->World->Prop}{w w':World}{e:Ending}(h:qQX M fs p R w e w') :
 (∃ a j u vv',p=.ok (a,j)/\e=.returned u/\M.at (xU fs M.ci j vv') w'/\yX M.F M.Mo (M.vv fs) w w'/\vW vv' (M.vv fs) w/\R a u vv' w') \/
 ∃ ln co code,p=.bad ln co code/\e=.panicked [{ v:=xO ln co code,recovered:=false }]/\yX M.F M.Mo (M.vv fs) w w':=by
 cases p with
 | ok a=>obtain⟨a,j⟩:=a;obtain⟨u,vv',o,h2⟩:=h;exact .inl ⟨a,j,u,vv',rfl,o,h2⟩
 | bad ln co code=>exact .inr ⟨ln,co,code,rfl,h.1,h.2⟩
def StR(w:World)(s:Sx)(u vv':Value)(w':World):Prop:=∃ sv,u=sxV s sv/\wL w' (fun g=>w.1.size<=g/\some g≠vv'.ownBlock) s sv
def qUB(t:qQ):Prop:=∀ (M:Mem) (fs:List FnM) (v:Value) (w:World),M.at fs w->M.L<=w.1.size->xZ w (· < M.L) t v ->
 Calls prog 122 #[.pointer (some ⟨M.B,0,none⟩),qZ t v] w (qQX M fs (stC M.gs (fs.map (·.h)) (fs.getD M.ci noF).h.t t (M.own fs)) (StR w) w)
theorem Mem.low{M:Mem}{fs:List FnM}{w w':World}(h:M.at fs w)(T:yX M.F M.Mo (M.vv fs) w w'):∀ b,b < w.1.size->b < M.L->w'.1[b]? = w.1[b]?:=fun b hb hL =>
 T.block b hb (by have:=h.lo;omega) (by have:=h.lo;omega) (fun e=>by have:=(h.lv b e.symm).1;omega)
theorem yD.low{L:Nat}{w w':World}{ts:List qQ}{q:Option Addr}(h:yD L w ts q)(hL:L<=w.1.size)(T:∀ b,b < w.1.size->b < L->w'.1[b]? = w.1[b]?):yD L w' ts q:=by
 rcases h with h | ⟨g,j,s,h2⟩
 ·exact .inl h
 ·refine .inr ⟨g,j,s,h2.1,fun i hi=>?_⟩;obtain⟨y,n',c',k1,o⟩:=h2.2 i hi;exact⟨y,n',c',xZ.move (fun g hg hok=>⟨hok,T g (by omega) hok⟩) _ _ k1,o.move (T g (by have:=h2.1;omega) h2.1)⟩
theorem stsC_local{gs:List qI}{fs:List kI}{ret:Ty}{ts:List qQ}{k:Nat}{own:List qI}(h:k < ts.length)(hl:(ts[k].kind == qE)=true):qXJ gs fs ret (ts.drop k) own=(qJJ own ts[k]).bind fun own'=>qXJ gs fs ret (ts.drop (k+1)) own':=by
 rw[List.drop_eq_getElem_cons h,qXJ,if_pos hl]
theorem stsC_other{gs:List qI}{fs:List kI}{ret:Ty}{ts:List qQ}{k:Nat}{own:List qI}(h:k < ts.length)(hl:(ts[k].kind == qE)=false):qXJ gs fs ret (ts.drop k) own=(stC gs fs ret ts[k] own).bind fun s=>(qXJ gs fs ret (ts.drop (k+1)) s.2).bind fun q=>.ok (s.1 :: q.1,q.2):=by
 rw[List.drop_eq_getElem_cons h,qXJ,if_neg (by simp[hl])]
def BlRel(M:Mem)(fs:List FnM)(ts:List qQ)(W:World)(v i:Value)(wr:World):Prop :=
 ∃ (k:Nat) (acc:List Sx) (own':List qI) (vv':Value),k<=ts.length/\i=.int .i64 k/\acc.length<=k/\kH wr W.1.size (fun g=>some g≠vv'.ownBlock) acc v /\
  qXJ M.gs (fs.map (·.h)) (fs.getD M.ci noF).h.t ts (M.own fs)=((qXJ M.gs (fs.map (·.h)) (fs.getD M.ci noF).h.t (ts.drop k) own').bind fun q=>.ok (acc++q.1,q.2)) /\
  M.at (xU fs M.ci own' vv') wr/\yX M.F M.Mo (M.vv fs) W wr/\vW vv' (M.vv fs) W
theorem vW.low{a b:Value}{w W:World}(h:vW a b W)(hs:w.1.size<=W.1.size):vW a b w:=by
 rcases h with h | ⟨g,hg,h⟩
 ·exact .inl h
 ·exact .inr ⟨g,by omega,h⟩
theorem kH.turn{F Mo lo:Nat}{vv o v:Value}{w w':World}{ss:List Sx}(h:kH w lo (fun g=>some g≠vv.ownBlock) ss v)(T:yX F Mo vv w w')(z:F < lo)(y:Mo < lo)(j:vW o vv w):kH w' lo (fun g=>some g≠o.ownBlock) ss v :=
 h.move fun g hlt hlo hok=>⟨fun e=>by
  rcases j with j | ⟨g',s,j⟩
  ·exact hok (e.trans j)
  ·rw[j]at e;injection e with e;omega,T.block g hlt (by omega) (by omega) hok⟩
theorem kH.bel{lo:Nat}{ok:Nat->Prop}{v:Value}{w w':World}{ss:List Sx}(h:kH w lo ok ss v)(hb:Below w.1.size w w'):kH w' lo ok ss v:=h.move fun g hlt _ hok=>⟨hok,hb.block g hlt⟩
theorem Mem.vlt{M:Mem}{fs:List FnM}{w:World}(h:M.at fs w):∀ g,(M.vv fs).ownBlock=some g->g < w.1.size:=fun g hg=>(h.rd.en.vrow.lt g hg).2
theorem Mem.keep{M:Mem}{fs:List FnM}{w w':World}(h:M.at fs w)(A:∀ (b:Nat) S,jX w b S->S≠73->w'.1[b]? = w.1[b]?)(hm:∀ b:Nat,(∃ J c,w.1[b]? = some (Obj.map J c))->w'.1[b]? = w.1[b]?)(hL:∀ b:Nat,b < w.1.size->b < M.L->w'.1[b]? = w.1[b]?):M.at fs w':=by
 have e:=h.rd.en;have X:jX w M.F 40:=zE h.rd.frow rfl;have j:∀ {b o u},w'.1[b]? = w.1[b]?->w.cell? ⟨b,o,none⟩=some u->w'.cell? ⟨b,o,none⟩=some u:=fun hb hc=>(cB hb).trans hc
 have s:=A _ _ h.kb (by decide);have U:=A _ _ h.kc (by decide);have R:=A _ _ h.ke (by decide);have Y:=A _ _ X (by decide);obtain⟨b,C,G,y,I⟩:=h.wt;have z:qZo b C G w':=by
  have Z:=hL 4 (qJ y.tg) h.lo.2.2.1;have sb:w'.1[b]? = w.1[b]?:=hL b (qJ (y.tn 0 (by omega))) I;exact⟨j Z y.tg,fun i hi=>j sb (y.tn i hi),fun i hi=>j sb (y.tw i hi),fun i hi=>j sb (y.ts i hi)⟩
 have V:w'.1[(1:Nat)]? = w.1[(1:Nat)]?:=hL 1 (qJ e.b0) (by have:=h.lo;omega);have O:w'.1[(2:Nat)]? = w.1[(2:Nat)]?:=hL 2 (qJ e.d0) (by have:=h.lo;omega);refine⟨⟨h.rd.hi,?_,j s h.rd.c1,j s h.rd.c4,zU h.rd.frow (fun g hg=>A g 40 (zE h.rd.frow hg) (by decide)),fun f hf=>zU (h.rd.vrow f hf) (fun g hg=>A g 42 (zE (h.rd.vrow f hf) hg) (by decide)),h.rd.fm.kept (hm _ h.rd.fm.isMap),h.rd.par,h.rd.fl,h.rd.vl⟩,h.kb.turn s,h.kc.turn U,h.ke.turn R,h.mg,h.mf,h.mr,h.lo,h.lv,b,C,G,z,I⟩;exact⟨j s e.c0,j s e.c3,j s e.c6,j s e.c7,j s e.c8,j Y e.fv,zU e.grow (fun g hg=>A g 42 (zE e.grow hg) (by decide)),zU e.vrow (fun g hg=>A g 42 (zE e.vrow hg) (by decide)),e.gm.kept (hm _ e.gm.isMap),e.om.kept (hm _ e.om.isMap),
  (by obtain⟨n,D,⟨J,k,g1,g2⟩,g3⟩:=e.rm;exact⟨n,D,⟨J,k,(hm _ e.rm.isMap).trans g1,g2⟩,g3⟩),j U e.cc,j R e.ce,⟨b,C,G,z⟩,j V e.b0,j V e.b1,j O e.d0,j O e.d1,e.gl,e.ol⟩
theorem block_any(M:Mem)(fs:List FnM)(t:qQ)(v:Value)(w:World)(h:M.at fs w)(hL:M.L<=w.1.size)(hl:xZ w (· < M.L) t v)(hn:t.kids.length<=900000)
 (m7:∀ u∈t.kids,(u.kind == qE)=false->qUB u) (hlo:∀ u∈t.kids,(u.kind == qE)=true->u.text.length<=1000000/\∃ a r,u.kids=a :: r) :
 Calls prog 101 #[.pointer (some ⟨M.B,0,none⟩),qZ t v] w (qQX M fs (qXJ M.gs (fs.map (·.h)) (fs.getD M.ci noF).h.t t.kids (M.own fs)) (fun ss u vv' w'=>jE w' (fun g=>w.1.size<=g/\some g≠vv'.ownBlock) ss u) w):=by
 obtain⟨q,c,rfl,s0,r4,hK⟩:=hl.kids;have J:=hI (bal (Below.refl w.1.size w) (qB t (.slice q t.kids.length c)));have HN:=hI (Bx.new t (.slice q t.kids.length c) w);have HM:=hI (show M.at fs (w.alloc (qB t (.slice q t.kids.length c)))from h.below J.o);have HK:=hI (hK.keep (J.o.mono hL));have p1:=hI m7;have p7:=hI hlo;have r8:(w.alloc (qB t (.slice q t.kids.length c))).1.size=w.1.size+1:=by simp
 clear h hl hK m7 hlo;obtain⟨k,x,m,ln,co,ks⟩:=t;simp only[qZ,qB,qS,qQ.kind,qQ.text,qQ.num,qQ.line,qQ.col,qQ.kids]at *;go_enter func101,ntmps101
 go_wp2
 generalize (w.alloc _)=W at *;have HI:=hI HM.o.rd.hi;go_loopw [5,11] (fun v i wr=>BlRel M fs ks W v i wr) (fun _ i _=>ks.length - (intOf i).toNat)
 case atStart=>exact⟨0,[],M.own fs,M.vv fs,Nat.zero_le _,rfl,Nat.zero_le _,kH.nil _ _ _,by rw[List.drop_zero];cases qXJ M.gs (fs.map (·.h)) (fs.getD M.ci noF).h.t ks (M.own fs) <;> rfl,by rw[show xU fs M.ci (M.own fs) (M.vv fs)=fs from qXB HI.o];exact HM.o,yX.of_below (Below.refl _ _), .inl rfl⟩
 case round =>
  obtain⟨j,acc,y,vv',hj,rfl,r3,g4,hf,hM,hT,hR⟩:=hrel;obtain⟨q5,n5,c5,rfl⟩:=g4.shape;have f5:=hI g4;have HF:=hI hf;have m0:=hI hM;have d5:=hI hT;have X:=hI hR;have r6:=hT.size;clear g4 hf hM hT hR;by_cases d4:j < ks.length
  ·obtain⟨g,r5,rfl,n3⟩:=(HK.o.low (by omega) (Mem.low HM.o d5.o)).resolve_left (fun e=>by rw[e]at d4;simp at d4);obtain⟨qa,na,ca,n4,n6⟩:=n3.2 j d4;have⟨k0,k1,k2,k3,k4,k5,_⟩:=n6.a;have d6:ks[j]∈ks:=List.getElem_mem d4;have r7:=hI (Bx.new ks[j] (.slice qa na ca) wr);have I:=hI (bal (Below.refl wr.1.size wr) (qB ks[j] (.slice qa na ca)));have r0:(wr.alloc (qB ks[j] (.slice qa na ca))).1.size=wr.1.size+1:=by simp
   have n0:=hI (show M.at (xU fs M.ci y vv') (wr.alloc (qB ks[j] (.slice qa na ca)))from m0.o.below I.o);have g8:=hI (show xZ (wr.alloc (qB ks[j] (.slice qa na ca))) (· < M.L) ks[j] (.slice qa na ca)from xZ.move (fun g hg f6=>⟨f6,I.o.block g hg⟩) _ _ n4);have f7:=hI (stsC_local (gs:=M.gs) (fs:=fs.map (·.h)) (ret:=(fs.getD M.ci noF).h.t) (own:=y) d4);have f4:=hI (stsC_other (gs:=M.gs) (fs:=fs.map (·.h)) (ret:=(fs.getD M.ci noF).h.t) (own:=y) d4);have p3:=hI (p1.o _ d6);have p2:=hI (p7.o _ d6);have f3:=qZC HI.o y vv';have G:=hI f3;clear n6 n4 n3 d6 f3;generalize hu:ks[j]=u at *;cases U:(u.kind == qE);case true =>
    have r9:=hI U;obtain⟨m3,a1,r1,d7⟩:=p2.o U;have HC:=hI (local_any M.B M.L M.gs (xU fs M.ci y vv') M.ci M.FC M.Mf M.gv M.Mg M.Mo M.Mr M.F M.cl u a1 r1 (.slice qa na ca) _ n0.o d7 (by simp;omega) g8.o m3);have f7:=hI (f7.o U);unfold qE at U;clear d7 m3;simp only[qS,qZ,qB]at *;go_wp2_with fail
    generalize (wr.alloc _)=Z at *;refine(HC.o).mono ?_;rintro e w2 hX;unfold qKS at hX;rw[G.o]at hX;simp only at hX;have TZ:yX M.F M.Mo (M.vv fs) w Z:=((yX.of_below J.o).trans d5.o (.inl rfl)).trans (yX.of_below (vv:=M.vv fs) I.o) (.inl rfl);have RZ:vW vv' (M.vv fs) w:=X.o.low J.o.size;cases d8:qJJ y u with
    | bad l' c' code =>
     rw[d8]at hX;obtain⟨rfl,z⟩:=hX;exact⟨rfl,qQX.badI (by rw[HF.o,f7.o,d8];rfl) (TZ.trans z RZ)⟩
    | ok C =>
     rw[d8]at hX;obtain⟨rfl,A,Y,z,R⟩:=hX;rw[qJZ fs HI.o]at Y;have p5:=hI d8;have f8:=hI (show M.at (xU fs M.ci C A) w2 from Y);have TW:yX M.F M.Mo (M.vv fs) W w2:=(d5.o.trans (yX.of_below (vv:=M.vv fs) I.o) (.inl rfl)).trans z X.o;have V:=hI TW;have g3:=hI (vW.trans (show vW A vv' Z from R) (X.o.low (Nat.le_refl _)) (by omega));have g5:=(HM.o.rd.frow.lt M.F rfl).2;have g1:=HM.o.rd.en.om.lt;have d9:=hI ((f5.o.bel I.o).turn z g5 g1 R);clear TZ RZ TW z R Y d8 HC k0 k1 k2 k3 k4 k5;go_wp2
     refine⟨⟨j+1,acc,C,A,by omega,rfl,by omega,d9.o,?_,f8.o,V.o,g3.o⟩,by simp[intOf];omega⟩;rw[HF.o,f7.o,p5.o];rfl
   case false =>
    have f9:=U;have hC:=p3.o U M (xU fs M.ci y vv') (.slice qa na ca) _ n0.o (by simp;omega) g8.o;have n2:M.vv (xU fs M.ci y vv')=vv':=by unfold Mem.vv;rw[G.o]
    have m2:M.own (xU fs M.ci y vv')=y:=by unfold Mem.own;rw[G.o]
    have g0:((xU fs M.ci y vv').getD M.ci noF).h.t=(fs.getD M.ci noF).h.t:=by rw[G.o]
    rw[qJY HI.o,g0,m2]at hC;have HC:=hI hC;have m1:=hI n2;have f4:=hI (f4.o f9);unfold qE at U;clear hC n2 m2 g0 f9;simp only[qS,qZ,qB]at *;go_wp2_with fail
    generalize (wr.alloc _)=Z at *;refine(HC.o).mono ?_;rintro e w2 hX;have TZ:yX M.F M.Mo (M.vv fs) w Z:=((yX.of_below J.o).trans d5.o (.inl rfl)).trans (yX.of_below (vv:=M.vv fs) I.o) (.inl rfl);have RZ:vW vv' (M.vv fs) w:=X.o.low J.o.size;rcases hX.cases with⟨s,C,u2,A,hp,rfl,Y,z,R,sv,rfl,m6⟩ | ⟨l',c',code,hp,rfl,z⟩;rotate_left
    ·rw[m1.o]at z;exact⟨rfl,qQX.badI (by rw[HF.o,f4.o,hp];rfl) (TZ.trans z RZ)⟩
    rw[m1.o]at z R;rw[qJZ fs HI.o]at Y;have HP:=hI hp;have f8:=hI Y;have V:=hI ((d5.o.trans (yX.of_below (vv:=M.vv fs) I.o) (.inl rfl)).trans z X.o);have g3:=hI (vW.trans (show vW A vv' Z from R) (X.o.low (Nat.le_refl _)) (by omega));have g5:=(HM.o.rd.frow.lt M.F rfl).2;have g1:=HM.o.rd.en.om.lt;have d9:=hI ((f5.o.bel I.o).turn z g5 g1 R);have hs2:=z.size;have m5:=f5.o.lt;obtain⟨m9,sl,sc,n1,g6,n7,g7,g9⟩:=s;have p4:=hI (wL.move (w':=w2) (ok':=fun g=>W.1.size<=g/\some g≠A.ownBlock/\some g≠(Value.slice q5 n5 c5).ownBlock) (fun g _ hg=>⟨⟨by omega,hg.2,fun e=>by have:=(m5 g e.symm).2;omega⟩,rfl⟩) _ _ m6);have m4:=Mem.vlt f8.o;have d2:M.vv (xU fs M.ci C A)=A:=by unfold Mem.vv;rw[qZC HI.o]
    rw[d2]at m4;have f6:some (w2.1.size+1)≠A.ownBlock:=fun e=>by have:=m4 _ e.symm;omega
    have p0:=hI f6;have r2:=V.o.size;clear TZ RZ z R Y hp HC m6 hX d2 f6 k0 k1 k2 k3 k4 k5;simp only[sxV]at *;go_wp2_with (at_builtin;refine qVT (dd:=26) (e:=.mk m9 sl sc n1 g6 n7 g7 g9) (u:=sv) (acc:=acc) (lo:=W.1.size) (ok:=fun g=>some g≠A.ownBlock) rfl _ _ rfl rfl d9.o p4.o (by omega) p0.o rfl rfl rfl (by omega) ?_)
    intro v9 w9 g2 d3;obtain⟨q9,n9,c9,rfl⟩:=g2.shape;have p6:=d3.size;simp at p6;have h5:=d9.o.lt;have k5:∀ g,(Value.slice q5 n5 c5).ownBlock=some g->jX w2 g 73:=fun g hg=>by
     obtain⟨vs,hr,_⟩:=d9.o;exact zE hr hg
    have O:∀ b,b < w2.1.size->some b≠(Value.slice q5 n5 c5).ownBlock->w9.1[b]? = w2.1[b]?:=fun b hb hne=>(d3.block b (by simp;omega) hne).trans (Below.heap_alloc w2 _ b hb)
    have s1:=HM.o.lo;have p9:=hI (Mem.keep f8.o (fun b S hk hSq=>O b (by obtain⟨cs,fr,k⟩:=hk;exact qZF k) (fun e=>(hk.ne (k5 b e.symm) hSq) rfl)) (fun b hk=>O b (by obtain⟨es,cc,k⟩:=hk;exact qZF k) (fun e=>vU hk (k5 b e.symm) rfl)) (fun b hb hbL=>O b hb (fun e=>by have:=(h5 b e.symm).1;omega)));have n8:=hI (show yX M.F M.Mo (M.vv fs) W w9 from⟨d3.os.trans V.o.os,d3.tape.trans V.o.tape,d3.output.trans V.o.output,by omega,fun b hb h1 h2 h3=>(O b (by omega) (fun e=>by have:=(h5 b e.symm).1;omega)).trans (V.o.block b hb h1 h2 h3)⟩);have p8:=hI g2;clear g2 d3 O k5;go_wp2
    refine⟨⟨j+1,acc++[.mk m9 sl sc n1 g6 n7 g7 g9],C,A,by omega,rfl,by simp;omega,p8.o,?_,p9.o,n8.o,g3.o⟩,by simp[intOf];omega⟩;rw[HF.o,f4.o,HP.o];simp only[CR.bind];generalize qXJ M.gs (List.map (fun x=>x.h) fs) (fs.getD M.ci noF).h.t (List.drop (j+1) ks) C=rr;cases rr <;> simp[CR.bind]
  ·have HE:=hI (show qXJ M.gs (fs.map (·.h)) (fs.getD M.ci noF).h.t ks (M.own fs)=.ok (acc,y) by rw[HF.o,List.drop_eq_nil_of_le (by omega),qXJ];simp[CR.bind]);go_wp2
   go_ret;exact qQX.okI HE.o m0.o ((yX.of_below J.o).trans d5.o (.inl rfl)) (X.o.low J.o.size) ((f5.o.lies).move (fun g hg ho=>⟨⟨by omega,ho.2⟩,rfl⟩))
theorem jO.setH{N:Nat}{op:List UInt8}{l c:Int}{tv ev:Value}{fn:Int}{hv lv:Value}{w:World}(h:jO N op l c tv ev fn hv lv w)(v:Value):jO N op l c tv ev fn v lv (w.setCell ⟨N,6,none⟩ v):=by
 have⟨y,s,h2,h3,h4,A,z,C,_⟩:=h.a;have hf:=h.f;constructor
 case f=>intro j o;have:=hf j o;simp[go_sem, *]
 all_goals simp[go_sem, *]
theorem jO.setL{N:Nat}{op:List UInt8}{l c:Int}{tv ev:Value}{fn:Int}{hv lv:Value}{w:World}(h:jO N op l c tv ev fn hv lv w)(v:Value):jO N op l c tv ev fn hv v (w.setCell ⟨N,7,none⟩ v):=by
 have⟨y,s,h2,h3,h4,A,z,C,_⟩:=h.a;have hf:=h.f;constructor
 case f=>intro j o;have:=hf j o;simp[go_sem, *]
 all_goals simp[go_sem, *]
structure qXk(F Mo NS:Nat)(vv:Value)(w w':World):Prop where
 os:w'.os=w.os
 tape:w'.tape=w.tape
 output:w'.output=w.output
 size:w.1.size<=w'.1.size
 block:∀ k,k < w.1.size->k≠F->k≠Mo->k≠NS->some k≠vv.ownBlock->w'.1[k]? = w.1[k]?
theorem yX.toN{F Mo NS:Nat}{vv:Value}{w w':World}(h:yX F Mo vv w w'):qXk F Mo NS vv w w':=⟨h.os,h.tape,h.output,h.size,fun k h1 h2 h3 _ h4=>h.block k h1 h2 h3 h4⟩
theorem qXk.trans{F Mo NS:Nat}{vv vv':Value}{u v w:World}(h:qXk F Mo NS vv u v)(k:qXk F Mo NS vv' v w)(hv:vW vv' vv u):qXk F Mo NS vv u w :=
 ⟨k.os.trans h.os,k.tape.trans h.tape,k.output.trans h.output,Nat.le_trans h.size k.size,fun b hb h1 h2 hN h3=>(k.block b (Nat.lt_of_lt_of_le hb h.size) h1 h2 hN (fun e=>by
  rcases hv with hv | ⟨g,hg,hv⟩
  ·exact h3 (e.trans hv)
  ·rw[hv]at e;injection e with e;omega)).trans (h.block b hb h1 h2 hN h3)⟩
theorem qXk.set{F Mo NS:Nat}{vv:Value}{w w':World}(h:qXk F Mo NS vv w w')(o:Nat)(u:Value):qXk F Mo NS vv w (w'.setCell ⟨NS,o,none⟩ u) :=
 ⟨(rfl:(w'.setCell ⟨NS,o,none⟩ u).os=w'.os).trans h.os,(by simpa using h.tape),(rfl:(w'.setCell ⟨NS,o,none⟩ u).output=w'.output).trans h.output,by simpa using h.size,fun k h1 h2 h3 h4 h5=>(hS w' ⟨NS,o,none⟩ u k h4).trans (h.block k h1 h2 h3 h4 h5)⟩
theorem Mem.setS{M:Mem}{fs:List FnM}{w:World}(h:M.at fs w){NS:Nat}(j:jX w NS 73)(hL:M.L<=NS)(o:Nat)(u:Value):M.at fs (w.setCell ⟨NS,o,none⟩ u) :=
 Mem.keep h (fun b S k hSq=>hS w ⟨NS,o,none⟩ u b (k.ne j hSq)) (fun b k=>hS w ⟨NS,o,none⟩ u b (vU k j)) (fun b _ hb=>hS w ⟨NS,o,none⟩ u b (by show b≠NS;omega))
def qUz(t:qQ):Prop:=∀ (M:Mem) (fs:List FnM) (v:Value) (w:World),M.at fs w->M.L<=w.1.size->xZ w (· < M.L) t v ->
 Calls prog 101 #[.pointer (some ⟨M.B,0,none⟩),qZ t v] w (qQX M fs (blC M.gs (fs.map (·.h)) (fs.getD M.ci noF).h.t t (M.own fs)) (fun ss u vv' w'=>jE w' (fun g=>w.1.size<=g/\some g≠vv'.ownBlock) ss u) w)
theorem qMn(gs:List qI)(fs:List kI)(ret:Ty)(t:qQ)(own:List qI):blC gs fs ret t own=qXJ gs fs ret t.kids own:=by cases t;rw[blC];rfl
theorem block_ok(t:qQ)(o:t.kids.length<=900000)(j:∀ u∈t.kids,(u.kind == qE)=false->qUB u)(hlo:∀ u∈t.kids,(u.kind == qE)=true->u.text.length<=1000000/\∃ a r,u.kids=a :: r):qUz t:=by
 intro M fs v w h hL hl;rw[qMn];exact block_any M fs t v w h hL hl o j hlo
def qXU{α:Type}(M:Mem)(fs:List FnM)(NS:Nat)(p:CR (α×List qI))(R:α->Value->World->Prop)(w:World)(e:Ending)(w':World):Prop :=
 match p with
 | .ok (a,own')=>∃ vv',e=.returned (.tuple #[])/\M.at (xU fs M.ci own' vv') w'/\qXk M.F M.Mo NS (M.vv fs) w w'/\vW vv' (M.vv fs) w/\R a vv' w'
 | .bad ln co code=>e=.panicked [{ v:=xO ln co code,recovered:=false }]/\qXk M.F M.Mo NS (M.vv fs) w w'
theorem qXU.okI{α:Type}{M:Mem}{fs:List FnM}{NS:Nat}{p:CR (α×List qI)}{R:α->Value->World->Prop}{w w':World}{a:α}{j:List qI}{vv':Value}(hp:p=.ok (a,j))(o:M.at (xU fs M.ci j vv') w')(h2:qXk M.F M.Mo NS (M.vv fs) w w')(h3:vW vv' (M.vv fs) w)(h4:R a vv' w') :
 qXU M fs NS p R w (.returned (.tuple #[])) w':=by rw[hp];exact⟨vv',rfl,o,h2,h3,h4⟩
theorem qXU.badI{α:Type}{M:Mem}{fs:List FnM}{NS:Nat}{p:CR (α×List qI)}{R:α->Value->World->Prop}{w w':World}{ln co code:Int}(hp:p=.bad ln co code)(h2:qXk M.F M.Mo NS (M.vv fs) w w') :
 qXU M fs NS p R w (.panicked [{ v:=xO ln co code,recovered:=false }]) w':=by rw[hp];exact⟨rfl,h2⟩
def qZw(gs:List qI)(fs:List kI)(ret:Ty)(ks:List qQ)(own:List qI):CR ((List Ex×List Sx×List Sx)×List qI) :=
 match ks with
 | []=>.ok (([],[],[]),own)
 | [a]=>(qQT ⟨gs,own⟩ a zO).bind fun e=>.ok (([e],[],[]),own)
 | [a,b]=>(qQT ⟨gs,own⟩ a zO).bind fun e=>(blC gs fs ret b own).bind fun r=>.ok (([e],r.1,[]),r.2)
 | a :: b :: c :: _=>(qQT ⟨gs,own⟩ a zO).bind fun e=>(blC gs fs ret b own).bind fun r=>(blC gs fs ret c r.2).bind fun q=>.ok (([e],r.1,q.1),q.2)
def GuR(NS:Nat)(op:List UInt8)(l c:Int)(tv:Value)(fn:Int)(w:World)(a:List Ex×List Sx×List Sx)(vv':Value)(w':World):Prop :=
 ∃ ev hv lv,jO NS op l c tv ev fn hv lv w'/\qU w' (fun g=>w.1.size<=g/\some g≠vv'.ownBlock) a.1 ev/\jE w' (fun g=>w.1.size<=g/\some g≠vv'.ownBlock) a.2.1 hv/\jE w' (fun g=>w.1.size<=g/\some g≠vv'.ownBlock) a.2.2 lv
theorem qPH(M:Mem)(fs:List FnM)(NS:Nat)(k x:List UInt8)(m ln co:Int)(a:qQ)(rest:List qQ)(v:Value)(op:List UInt8)(sl sc:Int)(tv:Value)(fn:Int)(w:World)(h:M.at fs w)(hL:M.L<=w.1.size)(hl:xZ w (· < M.L) (.mk k x m ln co (a :: rest)) v)
 (ha:wfE a=true) (hr:rest.length<=2) (s2:∀ b∈rest,qUz b) (g3:jO NS op sl sc tv (.slice none 0 0) fn (.slice none 0 0) (.slice none 0 0) w) (hk:jX w NS 73) (d5:M.L<=NS) :
 Calls prog 139 #[.pointer (some ⟨M.B,0,none⟩),qZ (.mk k x m ln co (a :: rest)) v, .pointer (some ⟨NS,0,none⟩)] w
  (qXU M fs NS (qZw M.gs (fs.map (·.h)) (fs.getD M.ci noF).h.t (a :: rest) (M.own fs)) (GuR NS op sl sc tv fn w) w):=by
 obtain⟨q,cp,rfl,N5,M1,hK⟩:=hl.kids;have d6:=hI (bal (Below.refl w.1.size w) (qB (.mk k x m ln co (a :: rest)) (.slice q (qQ.mk k x m ln co (a :: rest)).kids.length cp)));have HN:=hI (Bx.new (.mk k x m ln co (a :: rest)) (.slice q (qQ.mk k x m ln co (a :: rest)).kids.length cp) w);have G6:=hI h;have HM:=hI (show M.at fs (w.alloc (qB (.mk k x m ln co (a :: rest)) (.slice q (qQ.mk k x m ln co (a :: rest)).kids.length cp)))from h.below d6.o);have HK:=hI (hK.keep (d6.o.mono hL));have D7:=hI (g3.below d6.o);have F5:=hI (hk.turn (d6.o.block NS g3.lt));have t1:=hI s2;have N0:=g3.lt;have N1:(w.alloc (qB (.mk k x m ln co (a :: rest)) (.slice q (qQ.mk k x m ln co (a :: rest)).kids.length cp))).1.size=w.1.size+1:=by simp
 have F7:=hI (qXZ [a] (by simp[qZV,ha]));have M4:M.B < w.1.size:=qJ h.rd.c1;have N6:M.F < w.1.size:=(h.rd.frow.lt M.F rfl).2;have N7:M.Mo < w.1.size:=h.rd.en.om.lt;clear h hl hK g3 hk s2;generalize p0:(a :: rest)=ks at *;have M7:ks.length<=3/\0 < ks.length:=by rw[<-p0];simp;omega
 simp only[qZ,qB,qS,qQ.kind,qQ.text,qQ.num,qQ.line,qQ.col,qQ.kids]at *;have j:=hI p0;clear p0;go_enter func139,ntmps139
 go_wp2
 generalize (w.alloc _)=W at *;obtain⟨n0,n1,n2,n3,n4,n5⟩:=HN.o.cells;have d0:=HM.o.rd.en.b0;have d1:=HM.o.rd.en.b1;have M2:(1:Int)<=(cp:Nat):=by omega
 have G0:=hI (show yD M.L W [a] q from by
  rcases HK.o with h | ⟨g,D8,h1,h2⟩
  ·rw[<-j.o]at h;cases h
  ·exact .inr ⟨g,D8,h1,by simpa using h2.sub [a] 0 (fun i hi=>by
    have:i=0:=by simpa using hi
    subst this;exact⟨by omega,by simp[<-j.o]⟩)⟩)
 refine wRg (S:=fun w'=>Below W.1.size W w') 9 ?_;refine wTk 0 6 (.pointer (some ⟨NS,0,none⟩)) ?_ (bD W) ?_
 ·intro _ y;go_simp
 refine wTk 1 7 (.pointer (some ⟨M.B,0,none⟩)) ?_ (bD W) ?_
 ·intro _ y;go_simp
 refine wTk 2 8 (.pointer (some ⟨w.1.size,5,none⟩)) ?_ (bD W) ?_
 ·intro _ y;go_simp
 refine wTk 3 9 (.slice q ks.length cp) ?_ (bD W) ?_
 ·intro _ y;obtain⟨d0,d1,n5⟩:=kP3 y d0 d1 n5;go_simp
 refine wTk 4 10 (.slice q 1 cp) ?_ (bD W) ?_
 ·intro _ y;go_simp
 refine wTk 5 11 (.agg #[.int .i64 1, .bool false]) ?_ (bD W) ?_
 ·intro _ y;obtain⟨d0,d1,n5⟩:=kP3 y d0 d1 n5;go_simp
 refine wOn 6 fun K hK=>?_
 go_simp;refine(qZs M.B M.L ⟨M.gs,M.own fs⟩ [a] q cp zO _ F7.o (EAt.drew ⟨_,_,_,_,_,_,_,_,HM.o.rd.en⟩) (by simp;omega) (G0.o.keep (Below.refl _ _).drew) (by simp)).mono ?_;rintro e w3 hX;have m7:vD ⟨M.gs,M.own fs⟩ [a] zO=(qQT ⟨M.gs,M.own fs⟩ a zO).bind fun e=>.ok [e]:=by
  rw[vD];cases qQT ⟨M.gs,M.own fs⟩ a zO <;> simp[CR.bind,vD]
 rcases hX.cases with⟨es,u,hp,rfl,d7,hb3⟩ | ⟨l',c',code,hp,rfl,hb3⟩;rotate_left
 ·have r2:qQT ⟨M.gs,M.own fs⟩ a zO=.bad l' c' code:=by
   rw[m7]at hp;cases hq:qQT ⟨M.gs,M.own fs⟩ a zO with
   | ok _=>rw[hq]at hp;cases hp
   | bad _ _ _=>rw[hq]at hp;change CR.bad _ _ _=CR.bad _ _ _ at hp;injection hp with h1 h2 h3;rw[h1,h2,h3]
  refine⟨rfl,qXU.badI (ln:=l') (co:=c') (code:=code) ?_ (yX.toN (yX.of_below (d6.o.trans ((zF hb3).mono (by omega)))))⟩;rw[<-j.o];rcases rest with _ | ⟨b1,_ | ⟨b2,r3⟩⟩ <;> simp only[qZw] <;> rw[r2] <;> rfl
 obtain⟨ea,s8,rfl⟩:∃ ea,qQT ⟨M.gs,M.own fs⟩ a zO=.ok ea/\es=[ea]:=by
  rw[m7]at hp;cases hq:qQT ⟨M.gs,M.own fs⟩ a zO with
  | ok ea=>rw[hq]at hp;injection hp with hp;exact⟨ea,rfl,hp.symm⟩
  | bad _ _ _=>rw[hq]at hp;cases hp
 obtain⟨uq,uc,rfl⟩:=d7.shape;have hb3:=zF hb3;have f3:=hI s8;have hs3:=hb3.size;have p2:=hI (D7.o.below hb3);have D9:=hI (show M.at fs w3 from HM.o.below hb3);have F9:=hI (HK.o.keep (hb3.mono (by omega)));have G7:=hI (HN.o.below hb3);have n6:=hI hb3;have G5:=hI (d6.o.trans (hb3.mono (by omega)));have g5:=hI (F5.o.turn (hb3.block NS (by omega)));have F3:=hI (d7.mono (ok':=fun g=>w.1.size+1<=g) (fun g hg=>by simp at hg;omega));simp only[List.length]at *;refine kK hK n6.o ?_;clear hK K;have s4:=p2.o.c4;have F6:=p2.o.f 4 nL;clear hX m7 hp d7 hb3 s8 n0 n1 n2 n3 n4 n5 d0 d1;refine wOn 7 fun K hK=>?_
 go_simp;refine kK hK n6.o ?_;clear hK K;refine wOn 8 fun K hK=>?_
 go_simp;refine kK hK n6.o ?_;clear hK K;refine wOn 9 fun K hK=>?_
 go_simp;refine kD hK ?_;clear hK K;refine wDn ?_ _;have s5:=hI (p2.o.setE (.slice uq (0+1) uc));have U:=hI (Mem.setS D9.o g5.o d5 4 (.slice uq (0+1) uc));have n7:=hI (qXk.set (yX.toN (NS:=NS) (yX.of_below (F:=M.F) (Mo:=M.Mo) (vv:=M.vv fs) G5.o)) 4 (.slice uq (0+1) uc));have t8:=hI (qU.setN (N:=NS) F3.o (by omega) (o:=4) (.slice uq (0+1) uc));have d4:=hI (show jX (w3.setCell ⟨NS,4,none⟩ (.slice uq (0+1) uc)) NS 73 by obtain⟨cs,fr,hk⟩:=g5.o;exact⟨_,fr,Lib.heap_setCell_same hk _⟩);have m4:w.1.size≠NS:=by omega
 have p8:=hI (show Bx w.1.size (.mk k x m ln co ks) (.slice q ks.length cp) (w3.setCell ⟨NS,4,none⟩ (.slice uq (0+1) uc))from(hS w3 ⟨NS,4,none⟩ _ _ m4).trans G7.o);have r9:=hI (F9.o.keep ((Below.refl M.L w3).setCell (p:=⟨NS,4,none⟩) d5 (.slice uq (0+1) uc)));simp only[Nat.zero_add]at *;clear s4 F6;generalize (w3.setCell ⟨NS,4,none⟩ (.slice uq 1 uc))=V at *;obtain⟨n0,n1,n2,n3,n4,n5⟩:=p8.o.cells;rcases rest with _ | ⟨b1,d8⟩
 ·have M9:(ks.length:Int)<=1:=by rw[<-j.o];simp
  have t9:(ks.length:Int)<=2:=by omega
  have HG:=hI (show qZw M.gs (fs.map (·.h)) (fs.getD M.ci noF).h.t ks (M.own fs)=.ok (([ea],[],[]),M.own fs) by rw[<-j.o];simp only[qZw];rw[f3.o];rfl);go_wp2
  go_end0;have hv:=Mem.vlt U.o;have G1:∀ g,(M.vv fs).ownBlock=some g->g < W.1.size:=Mem.vlt HM.o;refine qXU.okI HG.o (vv':=M.vv fs) (by rw[show xU fs M.ci (M.own fs) (M.vv fs)=fs from qXB HM.o.rd.hi];exact U.o) n7.o (.inl rfl) ⟨_,_,_,s5.o,?_,jE.nil _ _,jE.nil _ _⟩;exact qU.move t8.o (fun g _ hg=>⟨⟨by omega,fun e=>by have:=G1 g e.symm;omega⟩,rfl⟩)
 ·have F1:(1:Int) < (ks.length:Nat):=by rw[<-j.o];simp;omega
  obtain⟨g1,g8,rfl,s1⟩:=r9.o.resolve_left (fun e=>by rw[<-j.o]at e;cases e);obtain⟨qb,nb,cb,f5,d3⟩:=s1.2 1 (by rw[<-j.o];simp);have D3:ks[1]'(by rw[<-j.o];simp)=b1:=by simp[<-j.o]
  rw[D3]at d3 f5;simp only[Nat.one_mul]at d3;have⟨k0,k1,k2,k3,k4,k5,_⟩:=d3.a;have M6:=p8.o.lt;have m3:=hI (t1.o b1 (by simp) M fs (.slice qb nb cb) V U.o (by omega) f5);unfold qZ at m3;clear f5 d3 s1 D3;go_wp2_with fail
  refine(m3.o).mono ?_;rintro e O hX;rcases hX.cases with⟨ss,z,u1,s,hp,rfl,r6,X,p5,Z⟩ | ⟨l',c',code,hp,rfl,X⟩;rotate_left
  ·refine⟨rfl,qXU.badI (ln:=l') (co:=c') (code:=code) ?_ (n7.o.trans (yX.toN X) (.inl rfl))⟩;rw[<-j.o];rcases d8 with _ | ⟨b2,r3⟩ <;> simp only[qZw] <;> rw[f3.o] <;> simp only[CR.bind] <;> rw[hp]
  obtain⟨A,C,rfl⟩:=Z.shape;have n8:=hI hp;have M5:=X.size;have f8:∀ g,(M.vv fs).ownBlock=some g->g < w.1.size:=Mem.vlt G6.o;have r7:some NS≠(M.vv fs).ownBlock:=fun e=>by
   have k:=zE U.o.rd.en.vrow (show(M.vv fs).ownBlock=some NS from e.symm);exact(d4.o.ne k (by decide)) rfl
  have r8:M.F≠NS:=(zE U.o.rd.frow rfl:jX V M.F 40).ne d4.o (by decide);have t4:M.Mo≠NS:=vU U.o.rd.en.om.isMap d4.o;have N9:V.1.size > NS:=by omega
  have G:∀ b,b < V.1.size->b≠M.F->b≠M.Mo->some b≠(M.vv fs).ownBlock->O.1[b]? = V.1[b]?:=X.block;have R:=G NS (by omega) r8.symm t4.symm r7;have r4:=G w.1.size (by omega) (by omega) (by omega) (fun e=>by have:=f8 _ e.symm;omega);have r0:=hI (s5.o.turn R);have g4:=hI (d4.o.turn R);have p7:=hI (show Bx w.1.size (.mk k x m ln co ks) (.slice (some ⟨g1,g8,none⟩) ks.length cp) O from r4.trans p8.o);have G3:=hI (show M.at (xU fs M.ci z s) O from r6);have G2:=hI (n7.o.trans (yX.toN X) (.inl rfl));have g0:=hI (vW.low (show vW s (M.vv fs) V from p5) (by omega) (w:=w));have t7:=hI p5;have F2:=hI (qU.move (w':=O) (ok':=fun g=>w.1.size+1<=g/\some g≠s.ownBlock) t8.o (fun g hlt hg=>⟨⟨hg,fun e=>by
   rcases t7.o with h | ⟨g',t0,h⟩
   ·have:=f8 g (h ▸ e.symm);omega
   ·rw[h]at e;injection e with e;omega⟩,G g hlt (by omega) (by omega) (fun e=>by have:=f8 g e.symm;omega)⟩))
  have F8:=hI (Z.move (w':=O) (ok':=fun g=>w.1.size+1<=g/\some g≠s.ownBlock) (fun g _ hg=>⟨⟨by omega,hg.2⟩,rfl⟩));have r5:=hI (r9.o.low (by omega) (Mem.low U.o X));have s6:=r0.o.c6;have N2:=r0.o.f 6 nL;clear n0 n1 n2 n3 n4 n5 k0 k1 k2 k3 k4 k5 hX hp r6 X p5 Z G R r4 F1 m3;obtain⟨n0,n1,n2,n3,n4,n5⟩:=p7.o.cells;have t3:=hI (r0.o.setH (.slice A ss.length C));have n9:=hI (Mem.setS G3.o g4.o d5 6 (.slice A ss.length C));have p9:=hI (G2.o.set 6 (.slice A ss.length C));have f6:∀ g,g < O.1.size->(w.1.size+1<=g/\some g≠s.ownBlock)->(w.1.size+1<=g/\some g≠s.ownBlock)/\(O.setCell ⟨NS,6,none⟩ (.slice A ss.length C)).1[g]? = O.1[g]?:=fun g _ hg=>⟨hg,hS O ⟨NS,6,none⟩ _ g (by show g≠NS;omega)⟩
  have t2:=hI (qU.move F2.o f6);have g7:=hI (jE.move F8.o f6);have m4:w.1.size≠NS:=by omega
  have D6:=hI (show Bx w.1.size (.mk k x m ln co ks) (.slice (some ⟨g1,g8,none⟩) ks.length cp) (O.setCell ⟨NS,6,none⟩ (.slice A ss.length C))from(hS O ⟨NS,6,none⟩ _ _ m4).trans p7.o);have N8:=hI (r5.o.keep ((Below.refl M.L O).setCell (p:=⟨NS,6,none⟩) d5 (.slice A ss.length C)));have m1:=hI (show jX (O.setCell ⟨NS,6,none⟩ (.slice A ss.length C)) NS 73 by obtain⟨cs,fr,hk⟩:=g4.o;exact⟨_,fr,Lib.heap_setCell_same hk _⟩);have G9:=p7.o.lt;clear f6;rcases d8 with _ | ⟨b2,r3⟩
  ·have t9:(ks.length:Int)<=2:=by rw[<-j.o];simp
   have HG:=hI (show qZw M.gs (fs.map (·.h)) (fs.getD M.ci noF).h.t ks (M.own fs)=.ok (([ea],ss,[]),z) by rw[<-j.o];simp only[qZw];rw[f3.o];simp only[CR.bind];rw[n8.o]);go_wp2
   go_end0;exact qXU.okI HG.o n9.o p9.o g0.o ⟨_,_,_,t3.o,qU.move t2.o (fun g _ hg=>⟨⟨by omega,hg.2⟩,rfl⟩),jE.move g7.o (fun g _ hg=>⟨⟨by omega,hg.2⟩,rfl⟩),jE.nil _ _⟩
  ·have s9:(2:Int) < (ks.length:Nat):=by rw[<-j.o];simp;omega
   obtain⟨g2,M0,p6,r1⟩:=r5.o.resolve_left (fun e=>by rw[<-j.o]at e;cases e);injection p6 with p6;injection p6 with hq2a hq2b _;subst hq2a hq2b;obtain⟨qd,nd,cd,d9,f4⟩:=r1.2 2 (by rw[<-j.o];simp);have D4:ks[2]'(by rw[<-j.o];simp)=b2:=by simp[<-j.o]
   rw[D4]at f4 d9;have G8:g1≠NS:=by have:=r1.1;omega
   have⟨k0,k1,k2,k3,k4,k5,_⟩:=f4.a;have s0:xZ (O.setCell ⟨NS,6,none⟩ (.slice A ss.length C)) (· < M.L) b2 (.slice qd nd cd):=d9.keep ((Below.refl M.L O).setCell (p:=⟨NS,6,none⟩) d5 (.slice A ss.length C));have m6:=t1.o b2 (by simp) M (xU fs M.ci z s) (.slice qd nd cd) _ n9.o (by simp;omega) s0;have I:=hI (qZC HM.o.rd.hi z s);have HI:=hI HM.o.rd.hi;have g6:M.vv (xU fs M.ci z s)=s:=by unfold Mem.vv;rw[I.o]
   have g9:M.own (xU fs M.ci z s)=z:=by unfold Mem.own;rw[I.o]
   have m0:((xU fs M.ci z s).getD M.ci noF).h.t=(fs.getD M.ci noF).h.t:=by rw[I.o]
   rw[qJY HI.o,m0,g9]at m6;have p1:=hI m6;have s3:=hI g6;unfold qZ at p1;clear m6 g6 g9 m0 d9 f4 r1 D4 s0;go_wp2_with fail
   generalize (O.setCell ⟨NS,6,none⟩ (.slice A ss.length C))=Y at *;refine(p1.o).mono ?_;rintro e w7 hX;rcases hX.cases with⟨tt,m2,u2,f7,hp,rfl,p4,J,f9,Z⟩ | ⟨l',c',code,hp,rfl,J⟩;rotate_left
   ·rw[s3.o]at J;refine⟨rfl,qXU.badI (ln:=l') (co:=c') (code:=code) ?_ (p9.o.trans (yX.toN J) g0.o)⟩;rw[<-j.o];simp only[qZw];rw[f3.o];simp only[CR.bind];rw[n8.o];simp only[CR.bind];rw[hp]
   rw[s3.o]at J f9;rw[qJZ fs HI.o]at p4;obtain⟨t5,D0,rfl⟩:=Z.shape;have M3:=J.size;have N3:=D6.o.lt;have HG:=hI (show qZw M.gs (fs.map (·.h)) (fs.getD M.ci noF).h.t ks (M.own fs)=.ok (([ea],ss,tt),m2) by
    rw[<-j.o];simp only[qZw];rw[f3.o];simp only[CR.bind];rw[n8.o];simp only[CR.bind];rw[hp])
   have M8:∀ g,s.ownBlock=some g->g < w.1.size\/w.1.size+1<=g:=fun g hg=>by
    rcases t7.o with h | ⟨g',t0,h⟩
    ·exact .inl (f8 g (h ▸ hg))
    ·rw[h]at hg;injection hg with hg;omega
   have p3:some NS≠s.ownBlock:=fun e=>by
    have hv:=n9.o.rd.en.vrow;rw[I.o]at hv;have k:=zE hv (show s.ownBlock=some NS from e.symm);exact(m1.o.ne k (by decide)) rfl
   have d2:∀ b,b < Y.1.size->b≠M.F->b≠M.Mo->some b≠s.ownBlock->w7.1[b]? = Y.1[b]?:=J.block;have R:=d2 NS (by omega) r8.symm t4.symm p3;have m5:=hI (t3.o.turn R);have t6:=hI (m1.o.turn R);have F4:=hI (show M.at (xU fs M.ci m2 f7) w7 from p4);have F0:=hI (p9.o.trans (yX.toN J) g0.o);have G4:=hI (vW.trans (w:=w) (w':=Y) (show vW f7 s Y from f9) g0.o (by omega));have m9:∀ g,g < Y.1.size->(w.1.size+1<=g/\some g≠s.ownBlock)->(w.1.size<=g/\some g≠f7.ownBlock)/\(w7.setCell ⟨NS,7,none⟩ (.slice t5 tt.length D0)).1[g]? = Y.1[g]?:=fun g hlt hg=>⟨⟨by omega,fun e=>by
    rcases f9 with h | ⟨g',t0,h⟩
    ·exact hg.2 (h ▸ e)
    ·rw[h]at e;injection e with e;omega⟩,(hS w7 ⟨NS,7,none⟩ _ g (by show g≠NS;omega)).trans (d2 g hlt (by omega) (by omega) hg.2)⟩
   have D5:=hI (qU.move t2.o m9);have D1:=hI (jE.move g7.o m9);have D2:=hI (Z.move (w':=w7.setCell ⟨NS,7,none⟩ (.slice t5 tt.length D0)) (ok':=fun g=>w.1.size<=g/\some g≠f7.ownBlock) (fun g _ hg=>⟨⟨by omega,hg.2⟩,hS w7 ⟨NS,7,none⟩ _ g (by show g≠NS;omega)⟩));have s7:=m5.o.c7;have N4:=m5.o.f 7 nL;clear n0 n1 n2 n3 n4 n5 k0 k1 k2 k3 k4 k5 hX hp p4 J f9 Z d2 R m9 s9 p1;go_wp2
   go_end0;exact qXU.okI HG.o (Mem.setS F4.o t6.o d5 7 _) (F0.o.set 7 _) G4.o ⟨_,_,_,m5.o.setL _,D5.o,D1.o,D2.o⟩
theorem jO.kind{op:List UInt8}{l c:Int}{tv ev:Value}{fn:Int}{hv lv:Value}(w:World):jX (w.alloc (sxO op l c tv ev fn hv lv)) w.1.size 73:=⟨_,_,vL _ _⟩
theorem set8{b N:Nat}{a w:World}(h:Below b a w)(hN:b<=N)(G A y s o z C j:Value):Below b a ((((((((w.setCell ⟨N,0,none⟩ G).setCell ⟨N,1,none⟩ A).setCell ⟨N,2,none⟩ y).setCell ⟨N,3,none⟩ s).setCell ⟨N,4,none⟩ o).setCell ⟨N,5,none⟩ z).setCell ⟨N,6,none⟩ C).setCell ⟨N,7,none⟩ j) :=
 jR (jR (jR (jR (jR (jR (jR (jR h hN _) hN _) hN _) hN _) hN _) hN _) hN _) hN _
theorem qJI(w:World)(N b:Nat)(h:b≠N)(G A y s o z C j:Value):((((((((w.setCell ⟨N,0,none⟩ G).setCell ⟨N,1,none⟩ A).setCell ⟨N,2,none⟩ y).setCell ⟨N,3,none⟩ s).setCell ⟨N,4,none⟩ o).setCell ⟨N,5,none⟩ z).setCell ⟨N,6,none⟩ C).setCell ⟨N,7,none⟩ j).1[b]? = w.1[b]?:=by
 rw[hS _ _ _ _ h,hS _ _ _ _ h,hS _ _ _ _ h,hS _ _ _ _ h,hS _ _ _ _ h,hS _ _ _ _ h,hS _ _ _ _ h,hS _ _ _ _ h]
theorem jO.set8{N:Nat}{op op':List UInt8}{l c l' c':Int}{tv ev z o:Value}{fn s:Int}{hv lv A y:Value}{w:World}(h:jO N op l c tv ev fn hv lv w) :
 jO N op' l' c' z o s A y ((((((((w.setCell ⟨N,0,none⟩ (.string ⟨op'.toArray⟩)).setCell ⟨N,1,none⟩ (.int .i64 l')).setCell ⟨N,2,none⟩ (.int .i64 c')).setCell ⟨N,3,none⟩ z).setCell ⟨N,4,none⟩ o).setCell ⟨N,5,none⟩ (.int .i64 s)).setCell ⟨N,6,none⟩ A).setCell ⟨N,7,none⟩ y):=by
 have⟨I,G,h2,h3,h4,O,J,R,_⟩:=h.a;have hf:=h.f;constructor
 case f=>intro j C;have:=hf j C;simp[go_sem, *]
 all_goals simp[go_sem, *]
theorem jX.set{w:World}{N:Nat}{T:TypeId}(h:jX w N T)(M o:Nat)(u:Value):jX (w.setCell ⟨M,o,none⟩ u) N T:=by
 obtain⟨y,s,j⟩:=h;by_cases hm:N=M
 ·subst hm;exact⟨_,s,Lib.heap_setCell_same j _⟩
 ·exact⟨y,s,(hS w ⟨M,o,none⟩ u N hm).trans j⟩
theorem Mem.set8{M:Mem}{fs:List FnM}{w:World}(h:M.at fs w){N:Nat}(j:jX w N 73)(hL:M.L<=N)(G C z y s A I o:Value):M.at fs ((((((((w.setCell ⟨N,0,none⟩ G).setCell ⟨N,1,none⟩ C).setCell ⟨N,2,none⟩ z).setCell ⟨N,3,none⟩ y).setCell ⟨N,4,none⟩ s).setCell ⟨N,5,none⟩ A).setCell ⟨N,6,none⟩ I).setCell ⟨N,7,none⟩ o) :=
 Mem.keep h (fun b S k hSq=>qJI w N b (k.ne j hSq) _ _ _ _ _ _ _ _) (fun b k=>qJI w N b (vU k j) _ _ _ _ _ _ _ _) (fun b _ hb=>qJI w N b (by omega) _ _ _ _ _ _ _ _)
theorem yX.fin{F Mo NS N:Nat}{vv:Value}{w w':World}(h:qXk F Mo NS vv w w')(I:w.1.size<=NS)(h2:w.1.size<=N)(y G s j C z o A:Value):yX F Mo vv w ((((((((w'.setCell ⟨N,0,none⟩ y).setCell ⟨N,1,none⟩ G).setCell ⟨N,2,none⟩ s).setCell ⟨N,3,none⟩ j).setCell ⟨N,4,none⟩ C).setCell ⟨N,5,none⟩ z).setCell ⟨N,6,none⟩ o).setCell ⟨N,7,none⟩ A) :=
 have hb:=yX.mk h.os h.tape h.output h.size (fun k a b c d=>h.block k a b c (by omega) d);have g:Below w'.1.size w' w':=Below.refl _ _;have e:=set8 (N:=N) (Below.refl 0 w') (Nat.zero_le _) y G s j C z o A
 ⟨e.os.trans h.os,e.tape.trans h.tape,e.output.trans h.output,Nat.le_trans h.size e.size,fun k a b c d=>(qJI w' N k (by omega) _ _ _ _ _ _ _ _).trans (h.block k a b c (by omega) d)⟩
theorem grown_N{F Mo NS:Nat}{vv:Value}{w w':World}(h:w.grownBy w' (some NS)):qXk F Mo NS vv w w':=⟨h.os,h.tape,h.output,h.size,fun k hk _ _ hN _=>h.block k hk (fun e=>hN (by injection e))⟩
theorem qVP (gs : List qI) (fs : List kI) (ret : Ty) (k x : List UInt8) (m ln co : Int) (ks : List qQ) (own : List qI) : stC gs fs ret (.mk k x m ln co ks) own =
    if k == qP then (wJ ⟨gs, own⟩ (kid ks 0)).bind fun a => (qQT ⟨gs, own⟩ (kid ks 1) a.ty).bind fun e => .ok (.mk k ln co [a] [e] 0 [] [], own)
    else if k == qW then (wJ ⟨gs, own⟩ (kid ks 0)).bind fun a => .ok (.mk k ln co [a] [] 0 [] [], own)
    else if k == zW then (wI fs (.mk k x m ln co ks)).bind fun h => (wM ⟨gs, own⟩ ks h.1.params).bind fun es => .ok (.mk k ln co [] es h.2 [] [], own)
    else if k == qN then (wJ ⟨gs, own⟩ (kid ks 0)).bind fun a => (wI fs (kid ks 1)).bind fun h => (jQ (decide (h.1.t = a.ty)) (kid ks 1) 41).bind fun _ =>
      (wM ⟨gs, own⟩ (kid ks 1).kids h.1.params).bind fun es => .ok (.mk zW ln co [a] es h.2 [] [], own)
    else if k == qV then (qXp ⟨gs, own⟩ ret (.mk k x m ln co ks)).bind fun es => .ok (.mk k ln co [] es 0 [] [], own)
    else (qZw gs fs ret ks own).bind fun r => .ok (.mk k ln co [] r.1.1 0 r.1.2.1 r.1.2.2, r.2) := by
  conv => lhs; unfold stC
  cases j : (k == qP) <;> cases h2 : (k == qW) <;> cases h3 : (k == zW) <;> cases h4 : (k == qN) <;> cases o : (k == qV)
  all_goals first
    | rfl
    | (simp only [bF, if_false, if_true]
       first
       | rfl
       | (simp only [qXp, CR.bind_assoc]; rfl)
       | (rcases ks with _ | ⟨a, _ | ⟨b, _ | ⟨c, r⟩⟩⟩ <;> first | rfl | (simp only [qZw, CR.bind_assoc]; rfl)))
def StIn(W:World)(k:List UInt8)(ln co:Int)(NS:Nat)(w':World):Prop :=
 Below W.1.size W w'/\jO NS k ln co (.slice none 0 0) (.slice none 0 0) 0 (.slice none 0 0) (.slice none 0 0) w'/\jX w' NS 73/\W.1.size<=NS
structure SIn(M:Mem)(fs:List FnM)(k x:List UInt8)(m ln co:Int)(ks:List qQ)(q:Option Addr)(c NS:Nat)(op:List UInt8)(tv ev:Value)(fn:Int)(w wr:World):Prop where
 bl:Below w.1.size w wr
 sz:w.1.size+2<=NS/\NS < wr.1.size
 hL:M.L<=w.1.size
 mm:M.at fs wr
 nd:Bx w.1.size (.mk k x m ln co ks) (.slice q ks.length c) wr
 rt:jO (w.1.size+1) [] 0 0 (.slice none 0 0) (.slice none 0 0) 0 (.slice none 0 0) (.slice none 0 0) wr
 kt:jX wr (w.1.size+1) 73
 sb:jO NS op ln co tv ev fn (.slice none 0 0) (.slice none 0 0) wr
 kn:jX wr NS 73
 ka:yD M.L wr ks q
 li:xZ wr (· < M.L) (.mk k x m ln co ks) (.slice q ks.length c)
 vw:∀ g,(M.vv fs).ownBlock=some g->g < w.1.size
theorem jX.lt{w:World}{b:Nat}{T:TypeId}(h:jX w b T):b < w.1.size:=by obtain⟨j,o,h⟩:=h;exact qZF h
theorem SIn.below{M:Mem}{fs:List FnM}{k x:List UInt8}{m ln co:Int}{ks:List qQ}{q:Option Addr}{c NS:Nat}{op:List UInt8}{tv ev:Value}{fn:Int}{w wr wr':World}(h:SIn M fs k x m ln co ks q c NS op tv ev fn w wr)(hb:Below wr.1.size wr wr'):SIn M fs k x m ln co ks q c NS op tv ev fn w wr' :=
 have s:=h.bl.size;have hL:=h.hL
 ⟨h.bl.trans (hb.mono s),⟨h.sz.1,Nat.lt_of_lt_of_le h.sz.2 hb.size⟩,h.hL,h.mm.below hb,h.nd.below hb,h.rt.below hb,h.kt.turn (hb.block _ h.kt.lt),h.sb.below hb,h.kn.turn (hb.block _ h.kn.lt),h.ka.keep (hb.mono (by omega)),xZ.move (fun g hg hok=>⟨hok,hb.block g hg⟩) _ _ h.li,h.vw⟩
theorem SIn.store{M:Mem}{fs:List FnM}{k x:List UInt8}{m ln co:Int}{ks:List qQ}{q:Option Addr}{c NS:Nat}{op op':List UInt8}{tv ev z j:Value}{fn y:Int}{w wr:World}(h:SIn M fs k x m ln co ks q c NS op tv ev fn w wr)(o:Nat)(u:Value)(hs:jO NS op' ln co z j y (.slice none 0 0) (.slice none 0 0) (wr.setCell ⟨NS,o,none⟩ u)):SIn M fs k x m ln co ks q c NS op' z j y w (wr.setCell ⟨NS,o,none⟩ u) :=
 have s:=h.sz;have hL:=h.hL;have A:∀ b,b≠NS->(wr.setCell ⟨NS,o,none⟩ u).1[b]? = wr.1[b]?:=fun b hb=>hS wr ⟨NS,o,none⟩ u b hb
 ⟨jR h.bl (by omega) u,⟨s.1,by simpa using s.2⟩,h.hL,Mem.setS h.mm h.kn (by omega) o u,(A _ (by omega)).trans h.nd,h.rt.turn (A _ (by omega)),h.kt.turn (A _ (by omega)),hs,h.kn.set _ _ _,h.ka.keep (jR (Below.refl _ _) (by omega) u),xZ.move (fun g hg hok=>⟨hok,A g (by have:g < M.L:=hok;omega)⟩) _ _ h.li,h.vw⟩
theorem SIn.setT{M:Mem}{fs:List FnM}{k x:List UInt8}{m ln co:Int}{ks:List qQ}{q:Option Addr}{c NS:Nat}{op:List UInt8}{tv ev:Value}{fn:Int}{w wr:World}(h:SIn M fs k x m ln co ks q c NS op tv ev fn w wr)(u:Value):SIn M fs k x m ln co ks q c NS op u ev fn w (wr.setCell ⟨NS,3,none⟩ u):=h.store 3 u (h.sb.setT u)
theorem SIn.setE{M:Mem}{fs:List FnM}{k x:List UInt8}{m ln co:Int}{ks:List qQ}{q:Option Addr}{c NS:Nat}{op:List UInt8}{tv ev:Value}{fn:Int}{w wr:World}(h:SIn M fs k x m ln co ks q c NS op tv ev fn w wr)(u:Value):SIn M fs k x m ln co ks q c NS op tv u fn w (wr.setCell ⟨NS,4,none⟩ u):=h.store 4 u (h.sb.setE u)
theorem SIn.setF{M:Mem}{fs:List FnM}{k x:List UInt8}{m ln co:Int}{ks:List qQ}{q:Option Addr}{c NS:Nat}{op:List UInt8}{tv ev:Value}{fn:Int}{w wr:World}(h:SIn M fs k x m ln co ks q c NS op tv ev fn w wr)(n:Int):SIn M fs k x m ln co ks q c NS op tv ev n w (wr.setCell ⟨NS,5,none⟩ (.int .i64 n)):=h.store 5 _ (h.sb.setF n)
theorem SIn.ra{M:Mem}{fs:List FnM}{k x:List UInt8}{m ln co:Int}{ks:List qQ}{q:Option Addr}{c NS:Nat}{op:List UInt8}{tv ev:Value}{fn:Int}{w wr:World}(h:SIn M fs k x m ln co ks q c NS op tv ev fn w wr):RAt M.B M.gs fs M.ci wr:=⟨_,_,_,_,_,_,_,_,h.mm.rd⟩
theorem SIn.ea{M:Mem}{fs:List FnM}{k x:List UInt8}{m ln co:Int}{ks:List qQ}{q:Option Addr}{c NS:Nat}{op:List UInt8}{tv ev:Value}{fn:Int}{w wr:World}(h:SIn M fs k x m ln co ks q c NS op tv ev fn w wr):EAt M.B ⟨M.gs,M.own fs⟩ wr:=h.ra.en
theorem SIn.le{M:Mem}{fs:List FnM}{k x:List UInt8}{m ln co:Int}{ks:List qQ}{q:Option Addr}{c NS:Nat}{op:List UInt8}{tv ev:Value}{fn:Int}{w wr:World}(h:SIn M fs k x m ln co ks q c NS op tv ev fn w wr):M.L<=wr.1.size:=by have:=h.hL;have:=h.bl.size;omega
theorem SIn.bad{M:Mem}{fs:List FnM}{k x:List UInt8}{m ln co:Int}{ks:List qQ}{q:Option Addr}{c NS:Nat}{op:List UInt8}{tv ev:Value}{fn:Int}{w wr:World}{p:CR (Sx×List qI)}{l' c' code:Int}(h:SIn M fs k x m ln co ks q c NS op tv ev fn w wr)(hp:p=.bad l' c' code):qQX M fs p (StR w) w (.panicked [{ v:=xO l' c' code,recovered:=false }]) wr :=
 qQX.badI hp (yX.of_below h.bl)
theorem SIn.fin{M:Mem}{fs:List FnM}{k x:List UInt8}{m ln co:Int}{ks:List qQ}{q:Option Addr}{c NS:Nat}{op:List UInt8}{tv ev:Value}{fn:Int}{w wr:World}{p:CR (Sx×List qI)}{tg j:List Ex}(h:SIn M fs k x m ln co ks q c NS op tv ev fn w wr)(hp:p=.ok (.mk op ln co tg j fn [] [],M.own fs))(ht:qU wr (fun g=>w.1.size+2<=g) tg tv)(O:qU wr (fun g=>w.1.size+2<=g) j ev)(A J z s I C y G:Value) :
 qQX M fs p (StR w) w (.returned (sxV (.mk op ln co tg j fn [] []) ⟨tv,ev, .slice none 0 0, .slice none 0 0⟩)) ((((((((wr.setCell ⟨w.1.size+1,0,none⟩ A).setCell ⟨w.1.size+1,1,none⟩ J).setCell ⟨w.1.size+1,2,none⟩ z).setCell ⟨w.1.size+1,3,none⟩ s).setCell ⟨w.1.size+1,4,none⟩ I).setCell ⟨w.1.size+1,5,none⟩ C).setCell ⟨w.1.size+1,6,none⟩ y).setCell ⟨w.1.size+1,7,none⟩ G):=by
 have hL:=h.hL;have hv:=h.vw;have o:∀ {j:List Ex} {v:Value},qU wr (fun g=>w.1.size+2<=g) j v->qU ((((((((wr.setCell ⟨w.1.size+1,0,none⟩ A).setCell ⟨w.1.size+1,1,none⟩ J).setCell ⟨w.1.size+1,2,none⟩ z).setCell ⟨w.1.size+1,3,none⟩ s).setCell ⟨w.1.size+1,4,none⟩ I).setCell ⟨w.1.size+1,5,none⟩ C).setCell ⟨w.1.size+1,6,none⟩ y).setCell ⟨w.1.size+1,7,none⟩ G) (fun g=>w.1.size<=g/\some g≠(M.vv fs).ownBlock) j v:=fun h =>
  qU.move h (fun g hg hok=>⟨⟨by omega,fun e=>by have:=hv g e.symm;omega⟩,qJI _ _ _ (by omega) _ _ _ _ _ _ _ _⟩)
 refine qQX.okI (vv':=M.vv fs) hp ?_ (yX.of_below (set8 h.bl (by omega) _ _ _ _ _ _ _ _)) (.inl rfl) ⟨_,rfl,o ht,o O,jE.nil _ _,jE.nil _ _⟩;rw[show xU fs M.ci (M.own fs) (M.vv fs)=fs from qXB h.mm.rd.hi];exact Mem.set8 h.mm h.kt (by omega) _ _ _ _ _ _ _ _
theorem qQf.set9{N:Nat}{op op':List UInt8}{T T':Ty}{n va n' va' l c l' c':Int}{g g':Bool}{kv kv':Value}{W:World}(h:qQf N op T n va g l c kv W):qQf N op' T' n' va' g' l' c' kv' (((((((((W.setCell ⟨N,0,none⟩ (.string ⟨op'.toArray⟩)).setCell ⟨N,1,none⟩ (.int .i64 T'.1)).setCell ⟨N,2,none⟩ (.bool T'.2)).setCell ⟨N,3,none⟩ (.int .u64 n')).setCell ⟨N,4,none⟩ (.int .i64 va')).setCell ⟨N,5,none⟩ (.bool g')).setCell ⟨N,6,none⟩ (.int .i64 l')).setCell ⟨N,7,none⟩ (.int .i64 c')).setCell ⟨N,8,none⟩ kv'):=by
 have⟨y,s,h2,h3,h4,C,z,G,A,_⟩:=h.a;have hf:=h.f;constructor
 case f=>intro j o;have:=hf j o;simp[go_sem, *]
 all_goals simp[go_sem, *]
theorem qU.single{w:World}{ok:Nat->Prop}{p:Ex}{kv:Value}(h:qU w ok p.kids kv)(j:ok w.1.size):qU (w.alloc (.cells (exC p kv).toArray 76)) ok [p] (.slice (some ⟨w.1.size,0,none⟩) 1 1):=by
 refine⟨[kv],fun g hg=>by injection hg with e;subst e;exact j,?_,(qVr p kv).2 (h.below ((Below.refl _ _).alloc (Nat.le_refl _) _)),trivial⟩;have:=World.ownsRow_lit (base:=0) (e:=76) (size:=9) w (exC p kv).toArray 1 (Nat.zero_le _) (by decide) (by cases p;rfl);simpa[qVM]using this
theorem qQf.turn{N:Nat}{op:List UInt8}{T:Ty}{n va l c:Int}{g:Bool}{kv:Value}{w w':World}(h:qQf N op T n va g l c kv w)(hb:w'.1[N]? = w.1[N]?):qQf N op T n va g l c kv w' :=
 have k:=fun {o:Nat} {u:Value} (e:w.cell? ⟨N,o,none⟩=some u)=>(cB (w:=w) (w':=w') (a:=⟨N,o,none⟩) hb).trans e
 ⟨k h.c0,k h.c1,k h.c2,k h.c3,k h.c4,k h.c5,k h.c6,k h.c7,k h.c8,fun j hj=>(World.frozen?_of_block hb).trans (h.f j hj)⟩
theorem comm8(w:World)(N:Nat)(o:Obj)(h:N < w.1.size)(I C z y s A G j:Value):(((((((((w.alloc o).setCell ⟨N,0,none⟩ I).setCell ⟨N,1,none⟩ C).setCell ⟨N,2,none⟩ z).setCell ⟨N,3,none⟩ y).setCell ⟨N,4,none⟩ s).setCell ⟨N,5,none⟩ A).setCell ⟨N,6,none⟩ G).setCell ⟨N,7,none⟩ j)=(((((((((w.setCell ⟨N,0,none⟩ I).setCell ⟨N,1,none⟩ C).setCell ⟨N,2,none⟩ z).setCell ⟨N,3,none⟩ y).setCell ⟨N,4,none⟩ s).setCell ⟨N,5,none⟩ A).setCell ⟨N,6,none⟩ G).setCell ⟨N,7,none⟩ j).alloc o):=by
 rw[World.setCell_alloc_past _ _ _ _ h,World.setCell_alloc_past _ _ _ _ (by simpa using h),World.setCell_alloc_past _ _ _ _ (by simpa using h),World.setCell_alloc_past _ _ _ _ (by simpa using h),World.setCell_alloc_past _ _ _ _ (by simpa using h),World.setCell_alloc_past _ _ _ _ (by simpa using h),World.setCell_alloc_past _ _ _ _ (by simpa using h),World.setCell_alloc_past _ _ _ _ (by simpa using h)]
theorem st_return(k x:List UInt8)(m ln co:Int)(ks:List qQ)(d4:k.length<=1000000)(h1:(k == qP)=false)(h2:(k == qW)=false)(h3:(k == zW)=false)(h4:(k == qN)=false)(h5:(k == qV)=true)
 (f6:qZV ks=true/\ks.length<=2):qUB (.mk k x m ln co ks):=by
 intro M fs v w h hL hl;obtain⟨q,c,rfl,p8,m1,z⟩:=hl.kids;have V:=bal (bal (Below.refl w.1.size w) (qB (.mk k x m ln co ks) (.slice q ks.length c))) (sxO [] 0 0 (.slice none 0 0) (.slice none 0 0) 0 (.slice none 0 0) (.slice none 0 0));have g3:=hI V;have HN:=hI ((Bx.new (.mk k x m ln co ks) (.slice q ks.length c) w).below (bal (Below.refl _ _) (sxO [] 0 0 (.slice none 0 0) (.slice none 0 0) 0 (.slice none 0 0) (.slice none 0 0))));have HT:=hI (jO.new [] 0 0 (.slice none 0 0) (.slice none 0 0) 0 (.slice none 0 0) (.slice none 0 0) (w.alloc (qB (.mk k x m ln co ks) (.slice q ks.length c))));simp only[World.size_alloc]at HT;have f4:=hI (show jX ((w.alloc (qB (.mk k x m ln co ks) (.slice q ks.length c))).alloc (sxO [] 0 0 (.slice none 0 0) (.slice none 0 0) 0 (.slice none 0 0) (.slice none 0 0))) (w.1.size+1) 73 from by
  have:=jO.kind (op:=[]) (l:=0) (c:=0) (tv:=.slice none 0 0) (ev:=.slice none 0 0) (fn:=0) (hv:=.slice none 0 0) (lv:=.slice none 0 0) (w.alloc (qB (.mk k x m ln co ks) (.slice q ks.length c)));simpa using this)
 have HM:=hI (show M.at fs ((w.alloc (qB (.mk k x m ln co ks) (.slice q ks.length c))).alloc (sxO [] 0 0 (.slice none 0 0) (.slice none 0 0) 0 (.slice none 0 0) (.slice none 0 0)))from h.below V);have d3:=hI h;have g2:=hI hl;have A:((w.alloc (qB (.mk k x m ln co ks) (.slice q ks.length c))).alloc (sxO [] 0 0 (.slice none 0 0) (.slice none 0 0) 0 (.slice none 0 0) (.slice none 0 0))).1.size=w.1.size+2:=by simp
 have g1:=hI (qVP M.gs (fs.map (·.h)) (fs.getD M.ci noF).h.t k x m ln co ks (M.own fs));have HK:=hI z;have d9:=hI f6;have p1:M.L<=w.1.size:=hL;clear h hl z V;simp only[qZ,qB,sxO,qS,qQ.kind,qQ.text,qQ.num,qQ.line,qQ.col,qQ.kids]at *;go_enter func122,ntmps122
 go_wp2
 generalize ((w.alloc _).alloc _)=W at *;have I:=hI A;clear A;obtain⟨J,n1,n2,U,R,n5⟩:=HN.o.cells;refine qXG (fun a N=>(((((((((a.put (some 7) (.pointer (some ⟨w.1.size,0,none⟩))).put (some 8) (.string ⟨k.toArray⟩)).put (some 9) (.string ⟨k.toArray⟩)).put (some 10) (.pointer (some ⟨w.1.size,3,none⟩))).put (some 11) (.int .i64 ln)).put (some 12) (.pointer (some ⟨w.1.size,4,none⟩))).put (some 13) (.int .i64 co)).put (some 14) (.agg #[.string ⟨k.toArray⟩, .int .i64 ln, .int .i64 co, .slice none 0 0, .slice none 0 0, .int .i64 0, .slice none 0 0, .slice none 0 0])).put (some 5) (.pointer (some ⟨N,0,none⟩)))) (fun N w'=>StIn W k ln co N w') ?_ ?_
 ·refine wRg (S:=fun w'=>Below W.1.size W w') 99 ?_;refine wTk 0 7 (.pointer (some ⟨w.1.size,0,none⟩)) ?_ (bD W) ?_
  ·intro _ y;go_simp
  refine wTk 1 8 (.string ⟨k.toArray⟩) ?_ (bD W) ?_
  ·intro _ y;obtain⟨J,U,R⟩:=kP3 y J U R;go_simp
  refine wTk 3 10 (.pointer (some ⟨w.1.size,3,none⟩)) ?_ (bD W) ?_
  ·intro _ y;go_simp
  refine wTk 4 11 (.int .i64 ln) ?_ (bD W) ?_
  ·intro _ y;obtain⟨J,U,R⟩:=kP3 y J U R;go_simp
  refine wTk 5 12 (.pointer (some ⟨w.1.size,4,none⟩)) ?_ (bD W) ?_
  ·intro _ y;go_simp
  refine wTk 6 13 (.int .i64 co) ?_ (bD W) ?_
  ·intro _ y;obtain⟨J,U,R⟩:=kP3 y J U R;go_simp
  refine wE (i:=2) (j:=8) rfl rfl (by kernel_rfl) (by rfl) (by rfl) (fun K z=>?_) (fun K z=>?_)
  ·go_simp;refine(yP ⟨k.toArray⟩ _ (by simpa[ByteArray.size]using d4)).mono ?_;rintro e w3 ⟨rfl,hb3⟩;have hb3:=zF hb3;refine kK z hb3 ?_;clear z K;refine wTk 7 14 (.agg #[.string ⟨k.toArray⟩, .int .i64 ln, .int .i64 co, .slice none 0 0, .slice none 0 0, .int .i64 0, .slice none 0 0, .slice none 0 0]) ?_ (hb3) ?_
   ·intro _ y;go_simp
   refine wOn 8 fun K z=>?_
   go_simp;refine kK z (bal hb3 _) ?_;clear z K;refine wOn 9 fun K z=>?_
   go_simp;refine kK z (bal hb3 _) ?_;clear z K;refine wDn ?_ _;exact⟨w3.1.size,by simp only[Act.put,pZa,pZb,pZc],bal hb3 (sxO k ln co (.slice none 0 0) (.slice none 0 0) 0 (.slice none 0 0) (.slice none 0 0)),jO.new k ln co (.slice none 0 0) (.slice none 0 0) 0 (.slice none 0 0) (.slice none 0 0) w3,jO.kind w3,hb3.size⟩
  ·go_simp;refine kK z (bal (Below.refl W.1.size W).drew (.cells #[.string ⟨#[]⟩, .int .i64 0, .int .i64 0, .slice none 0 0, .slice none 0 0, .int .i64 0, .slice none 0 0, .slice none 0 0] 73)) ?_;clear z K;refine wOn 2 fun K z=>?_
   go_simp;refine(yP ⟨k.toArray⟩ _ (by simpa[ByteArray.size]using d4)).mono ?_;rintro e w3 ⟨rfl,hb3⟩;have hb4:=(bal (Below.refl W.1.size W).drew (.cells #[.string ⟨#[]⟩, .int .i64 0, .int .i64 0, .slice none 0 0, .slice none 0 0, .int .i64 0, .slice none 0 0, .slice none 0 0] 73)).trans (hb3.mono (by simp));refine kK z hb4 ?_;clear z K;refine wTk 7 14 (.agg #[.string ⟨k.toArray⟩, .int .i64 ln, .int .i64 co, .slice none 0 0, .slice none 0 0, .int .i64 0, .slice none 0 0, .slice none 0 0]) ?_ (hb4) ?_
   ·intro _ y;go_simp
   have hb3:Below (W.alloc (sxO [] 0 0 (.slice none 0 0) (.slice none 0 0) 0 (.slice none 0 0) (.slice none 0 0))).1.size (W.alloc (sxO [] 0 0 (.slice none 0 0) (.slice none 0 0) 0 (.slice none 0 0) (.slice none 0 0))) w3:=⟨hb3.os,hb3.tape,hb3.output,hb3.size,hb3.block⟩;have sb:=(jO.new [] 0 0 (.slice none 0 0) (.slice none 0 0) 0 (.slice none 0 0) (.slice none 0 0) W).below hb3;have kd:jX w3 W.1.size 73:=(jO.kind (op:=[]) (l:=0) (c:=0) (tv:=.slice none 0 0) (ev:=.slice none 0 0) (fn:=0) (hv:=.slice none 0 0) (lv:=.slice none 0 0) W).turn (hb3.block _ (by simp));have⟨z0,z1,z2,z3,z4,z5,z6,z7,_⟩:=sb.a;have⟨r9,r8,p3,m5,n7,m4,n6,m9,_⟩:=sb.b;refine wOn 9 fun K z=>?_
   go_simp;refine kK z (set8 hb4 (Nat.le_refl _) _ _ _ _ _ _ _ _) ?_;clear z K;refine wDn ?_ _;exact⟨W.1.size,by simp only[Act.put,pZa,pZb,pZc],set8 hb4 (Nat.le_refl _) _ _ _ _ _ _ _ _,sb.set8,(((((((kd.set _ _ _).set _ _ _).set _ _ _).set _ _ _).set _ _ _).set _ _ _).set _ _ _).set _ _ _,Nat.le_refl _⟩
 ·intro NS w5 g4;obtain⟨hb5,hS5,d5,n9⟩:=g4;try simp only[Act.put,pZa,pZb,pZc]
  have A:=I.o;have g9:w.1.size+2<=w5.1.size:=by have:=hb5.size;omega
  have m7:M.L<=NS:=by omega
  have hL5:M.L<=w5.1.size:=by have:=hb5.size;omega
  have s:=hI (g3.o.trans (hb5.mono (by omega)));have f5:=hI (show M.at fs w5 from HM.o.below hb5);have g6:=hI (HN.o.below hb5);have Y:=hI (HT.o.below hb5);have g7:=hI hS5;have d6:=hI d5;have m0:=hI (show xZ w5 (· < M.L) (.mk k x m ln co ks) (.slice q ks.length c)from xZ.move (fun g hg hok=>⟨hok,s.o.block g hg⟩) _ _ g2.o);have f7:=hI (HK.o.keep (s.o.mono hL));have f8:=hI (show jX w5 (w.1.size+1) 73 from by
   have h1:=HT.o.c0;exact(show jX W (w.1.size+1) 73 from f4.o).turn (hb5.block _ (by omega)))
  obtain⟨J,n1,n2,U,R,n5⟩:=g6.o.cells;clear hb5 hS5 d5 A;obtain⟨d7,O⟩:=d9.o;have HP:=hI (g1.o.trans (by rw[h1,h2,h3,h4,h5];rfl:_=(qXp ⟨M.gs,M.own fs⟩ (fs.getD M.ci noF).h.t (.mk k x m ln co ks)).bind fun es=>.ok (.mk k ln co [] es 0 [] [],M.own fs)));have HC:=hI (leave_any M.B M.L NS M.gs fs M.ci k x m ln co ks q c k ln co (.slice none 0 0) (.slice none 0 0) 0 (.slice none 0 0) (.slice none 0 0) w5 d7 O ⟨_,_,_,_,_,_,_,_,f5.o.rd⟩ hL5 f7.o g7.o);simp only[qZ,qQ.kind,qQ.text,qQ.num,qQ.line,qQ.col,qQ.kids]at HC;unfold qP at h1;unfold qW at h2;unfold zW at h3;unfold qN at h4;unfold qV at h5;clear O d7;go_wp2_with fail
  refine(HC.o).mono ?_;rintro e w6 hX;cases hp:qXp ⟨M.gs,M.own fs⟩ (fs.getD M.ci noF).h.t (.mk k x m ln co ks)with
  | bad l' c' code =>
   have X:=hX;unfold qQY at X;rw[show qXp ⟨M.gs,(fs.getD M.ci noF).vars⟩ (fs.getD M.ci noF).h.t (.mk k x m ln co ks)=.bad l' c' code from hp]at X;obtain⟨rfl,hg⟩:=X;refine⟨rfl,qQX.badI (by rw[HP.o,hp];rfl) ?_⟩;exact⟨hg.os.trans s.o.os,hg.tape.trans s.o.tape,hg.output.trans s.o.output,Nat.le_trans s.o.size hg.size,fun b hb _ _ _=>(hg.block b (by have:=s.o.size;omega) (fun e=>by injection e with e;have:=I.o;omega)).trans (s.o.block b hb)⟩
  | ok es =>
   unfold qQY at hX;rw[show qXp ⟨M.gs,(fs.getD M.ci noF).vars⟩ (fs.getD M.ci noF).h.t (.mk k x m ln co ks)=.ok es from hp]at hX;obtain⟨rfl,⟨kv,Z,C⟩,hg⟩:=hX;obtain⟨uq,uc,rfl⟩:=C.shape;have A:=I.o;have m6:=s.o.size;have hg5:=hg.size;have d8:w.1.size+1≠NS:=by omega
   have HQ:=hI (HP.o.trans (by rw[hp];rfl:_=.ok (.mk k ln co [] es 0 [] [],M.own fs)));have d2:=hI (Y.o.turn (hg.block _ Y.o.lt (fun e=>d8 (by injection e))));have p4:=hI Z;have f9:=hI (show M.at fs w6 from Mem.keep f5.o (fun b S G hSq=>hg.block b (by obtain⟨cs,fr,G⟩:=G;exact qZF G) (fun e=>(G.ne d6.o hSq) (by injection e))) (fun b G=>hg.block b (by obtain⟨p0,cc,G⟩:=G;exact qZF G) (fun e=>(vU G d6.o) (by injection e))) (fun b hb hbL=>hg.block b hb (fun e=>by injection e with e;omega)));have g8:=hI ((yX.toN (NS:=NS) (yX.of_below (F:=M.F) (Mo:=M.Mo) (vv:=M.vv fs) s.o)).trans (grown_N (vv:=M.vv fs) hg) (.inl rfl));have f3:=hI (f8.o.turn (hg.block _ Y.o.lt (fun e=>d8 (by injection e))));have g0:=hI C;have g5:∀ g,(M.vv fs).ownBlock=some g->g < w.1.size:=Mem.vlt d3.o;have hi:=d3.o.rd.hi;have HI:=hI hi;have⟨r0,r1,r2,r3,r4,r5,r6,r7,_⟩:=d2.o.a;have⟨p5,p9,p2,m3,p7,p6,m2,n8,_⟩:=d2.o.b;have⟨s0,s1,s2,s3,s4,s5,s6,s7,_⟩:=Z.a;have rl:=d2.o.lt;clear J n1 n2 U R n5 hp Z C hg HC hi A;go_wp2
   refine bodyPost_ret (v:=sxV (.mk k ln co [] es 0 [] []) ⟨.slice none 0 0, .slice uq es.length uc, .slice none 0 0, .slice none 0 0⟩) (by simp[results,results122,go_sem,sxV,r0,r1,r2,r3,r4,r5,r6,r7,rl]) rfl (qQX.okI (vv':=M.vv fs) HQ.o ?_ ?_ (.inl rfl) ⟨_,rfl,?_⟩)
   ·rw[show xU fs M.ci (M.own fs) (M.vv fs)=fs from qXB HI.o];exact Mem.set8 f9.o f3.o (by omega) _ _ _ _ _ _ _ _
   ·exact yX.fin g8.o (by have:=I.o;omega) (by omega) _ _ _ _ _ _ _ _
   ·refine⟨qU.nil _ _,qU.move g0.o (fun g hg hok=>?_),jE.nil _ _,jE.nil _ _⟩;exact⟨⟨by omega,fun e=>by have:=g5 g e.symm;omega⟩,qJI _ _ _ (by omega) _ _ _ _ _ _ _ _⟩
theorem qJj(k x:List UInt8)(m ln co:Int)(ks:List qQ)(d3:k.length<=1000000)(h1:(k == qP)=false)(h2:(k == qW)=false)(h3:(k == zW)=false)(h4:(k == qN)=false)(h5:(k == qV)=false)
 (f6:∃ a rest,ks=a :: rest/\wfE a=true/\rest.length<=2/\∀ b∈rest,qUz b):qUB (.mk k x m ln co ks):=by
 intro M fs v w h hL hl;obtain⟨q,c,rfl,r8,m6,s⟩:=hl.kids;have U:=bal (bal (Below.refl w.1.size w) (qB (.mk k x m ln co ks) (.slice q ks.length c))) (sxO [] 0 0 (.slice none 0 0) (.slice none 0 0) 0 (.slice none 0 0) (.slice none 0 0));have g5:=hI U;have HN:=hI ((Bx.new (.mk k x m ln co ks) (.slice q ks.length c) w).below (bal (Below.refl _ _) (sxO [] 0 0 (.slice none 0 0) (.slice none 0 0) 0 (.slice none 0 0) (.slice none 0 0))));have HT:=hI (jO.new [] 0 0 (.slice none 0 0) (.slice none 0 0) 0 (.slice none 0 0) (.slice none 0 0) (w.alloc (qB (.mk k x m ln co ks) (.slice q ks.length c))));simp only[World.size_alloc]at HT;have d9:=hI (show jX ((w.alloc (qB (.mk k x m ln co ks) (.slice q ks.length c))).alloc (sxO [] 0 0 (.slice none 0 0) (.slice none 0 0) 0 (.slice none 0 0) (.slice none 0 0))) (w.1.size+1) 73 from by
  have:=jO.kind (op:=[]) (l:=0) (c:=0) (tv:=.slice none 0 0) (ev:=.slice none 0 0) (fn:=0) (hv:=.slice none 0 0) (lv:=.slice none 0 0) (w.alloc (qB (.mk k x m ln co ks) (.slice q ks.length c)));simpa using this)
 have HM:=hI (show M.at fs ((w.alloc (qB (.mk k x m ln co ks) (.slice q ks.length c))).alloc (sxO [] 0 0 (.slice none 0 0) (.slice none 0 0) 0 (.slice none 0 0) (.slice none 0 0)))from h.below U);have V:=hI h;have g4:=hI hl;have z:((w.alloc (qB (.mk k x m ln co ks) (.slice q ks.length c))).alloc (sxO [] 0 0 (.slice none 0 0) (.slice none 0 0) 0 (.slice none 0 0) (.slice none 0 0))).1.size=w.1.size+2:=by simp
 have g3:=hI (qVP M.gs (fs.map (·.h)) (fs.getD M.ci noF).h.t k x m ln co ks (M.own fs));have HK:=hI s;have p4:M.L<=w.1.size:=hL;clear h hl s U;simp only[qZ,qB,sxO,qS,qQ.kind,qQ.text,qQ.num,qQ.line,qQ.col,qQ.kids]at *;go_enter func122,ntmps122
 go_wp2
 generalize ((w.alloc _).alloc _)=W at *;have f3:=hI z;clear z;obtain⟨G,n1,n2,O,J,n5⟩:=HN.o.cells;refine qXG (fun a N=>(((((((((a.put (some 7) (.pointer (some ⟨w.1.size,0,none⟩))).put (some 8) (.string ⟨k.toArray⟩)).put (some 9) (.string ⟨k.toArray⟩)).put (some 10) (.pointer (some ⟨w.1.size,3,none⟩))).put (some 11) (.int .i64 ln)).put (some 12) (.pointer (some ⟨w.1.size,4,none⟩))).put (some 13) (.int .i64 co)).put (some 14) (.agg #[.string ⟨k.toArray⟩, .int .i64 ln, .int .i64 co, .slice none 0 0, .slice none 0 0, .int .i64 0, .slice none 0 0, .slice none 0 0])).put (some 5) (.pointer (some ⟨N,0,none⟩)))) (fun N w'=>StIn W k ln co N w') ?_ ?_
 ·refine wRg (S:=fun w'=>Below W.1.size W w') 99 ?_;refine wTk 0 7 (.pointer (some ⟨w.1.size,0,none⟩)) ?_ (bD W) ?_
  ·intro _ y;go_simp
  refine wTk 1 8 (.string ⟨k.toArray⟩) ?_ (bD W) ?_
  ·intro _ y;obtain⟨G,O,J⟩:=kP3 y G O J;go_simp
  refine wTk 3 10 (.pointer (some ⟨w.1.size,3,none⟩)) ?_ (bD W) ?_
  ·intro _ y;go_simp
  refine wTk 4 11 (.int .i64 ln) ?_ (bD W) ?_
  ·intro _ y;obtain⟨G,O,J⟩:=kP3 y G O J;go_simp
  refine wTk 5 12 (.pointer (some ⟨w.1.size,4,none⟩)) ?_ (bD W) ?_
  ·intro _ y;go_simp
  refine wTk 6 13 (.int .i64 co) ?_ (bD W) ?_
  ·intro _ y;obtain⟨G,O,J⟩:=kP3 y G O J;go_simp
  refine wE (i:=2) (j:=8) rfl rfl (by kernel_rfl) (by rfl) (by rfl) (fun K s=>?_) (fun K s=>?_)
  ·go_simp;refine(yP ⟨k.toArray⟩ _ (by simpa[ByteArray.size]using d3)).mono ?_;rintro e Z ⟨rfl,hb3⟩;have hb3:=zF hb3;refine kK s hb3 ?_;clear s K;refine wTk 7 14 (.agg #[.string ⟨k.toArray⟩, .int .i64 ln, .int .i64 co, .slice none 0 0, .slice none 0 0, .int .i64 0, .slice none 0 0, .slice none 0 0]) ?_ (hb3) ?_
   ·intro _ y;go_simp
   refine wOn 8 fun K s=>?_
   go_simp;refine kK s (bal hb3 _) ?_;clear s K;refine wOn 9 fun K s=>?_
   go_simp;refine kK s (bal hb3 _) ?_;clear s K;refine wDn ?_ _;exact⟨Z.1.size,by simp only[Act.put,pZa,pZb,pZc],bal hb3 (sxO k ln co (.slice none 0 0) (.slice none 0 0) 0 (.slice none 0 0) (.slice none 0 0)),jO.new k ln co (.slice none 0 0) (.slice none 0 0) 0 (.slice none 0 0) (.slice none 0 0) Z,jO.kind Z,hb3.size⟩
  ·go_simp;refine kK s (bal (Below.refl W.1.size W).drew (.cells #[.string ⟨#[]⟩, .int .i64 0, .int .i64 0, .slice none 0 0, .slice none 0 0, .int .i64 0, .slice none 0 0, .slice none 0 0] 73)) ?_;clear s K;refine wOn 2 fun K s=>?_
   go_simp;refine(yP ⟨k.toArray⟩ _ (by simpa[ByteArray.size]using d3)).mono ?_;rintro e Z ⟨rfl,hb3⟩;have hb4:=(bal (Below.refl W.1.size W).drew (.cells #[.string ⟨#[]⟩, .int .i64 0, .int .i64 0, .slice none 0 0, .slice none 0 0, .int .i64 0, .slice none 0 0, .slice none 0 0] 73)).trans (hb3.mono (by simp));refine kK s hb4 ?_;clear s K;refine wTk 7 14 (.agg #[.string ⟨k.toArray⟩, .int .i64 ln, .int .i64 co, .slice none 0 0, .slice none 0 0, .int .i64 0, .slice none 0 0, .slice none 0 0]) ?_ (hb4) ?_
   ·intro _ y;go_simp
   have hb3:Below (W.alloc (sxO [] 0 0 (.slice none 0 0) (.slice none 0 0) 0 (.slice none 0 0) (.slice none 0 0))).1.size (W.alloc (sxO [] 0 0 (.slice none 0 0) (.slice none 0 0) 0 (.slice none 0 0) (.slice none 0 0))) Z:=⟨hb3.os,hb3.tape,hb3.output,hb3.size,hb3.block⟩;have sb:=(jO.new [] 0 0 (.slice none 0 0) (.slice none 0 0) 0 (.slice none 0 0) (.slice none 0 0) W).below hb3;have kd:jX Z W.1.size 73:=(jO.kind (op:=[]) (l:=0) (c:=0) (tv:=.slice none 0 0) (ev:=.slice none 0 0) (fn:=0) (hv:=.slice none 0 0) (lv:=.slice none 0 0) W).turn (hb3.block _ (by simp));have⟨z0,z1,z2,z3,z4,z5,z6,z7,_⟩:=sb.a;have⟨s9,s8,p6,n8,p1,n7,p0,n9,_⟩:=sb.b;refine wOn 9 fun K s=>?_
   go_simp;refine kK s (set8 hb4 (Nat.le_refl _) _ _ _ _ _ _ _ _) ?_;clear s K;refine wDn ?_ _;exact⟨W.1.size,by simp only[Act.put,pZa,pZb,pZc],set8 hb4 (Nat.le_refl _) _ _ _ _ _ _ _ _,sb.set8,(((((((kd.set _ _ _).set _ _ _).set _ _ _).set _ _ _).set _ _ _).set _ _ _).set _ _ _).set _ _ _,Nat.le_refl _⟩
 ·intro NS I g6;obtain⟨hb5,hS5,d5,p3⟩:=g6;try simp only[Act.put,pZa,pZb,pZc]
  have z:=f3.o;have m4:w.1.size+2<=I.1.size:=by have:=hb5.size;omega
  have f8:M.L<=NS:=by omega
  have hL5:M.L<=I.1.size:=by have:=hb5.size;omega
  have C:=hI (g5.o.trans (hb5.mono (by omega)));have m1:=hI (show M.at fs I from HM.o.below hb5);have m0:=hI (HN.o.below hb5);have g8:=hI (HT.o.below hb5);have m2:=hI hS5;have g2:=hI d5;have d7:=hI (show xZ I (· < M.L) (.mk k x m ln co ks) (.slice q ks.length c)from xZ.move (fun g hg hok=>⟨hok,C.o.block g hg⟩) _ _ g4.o);have n6:=hI (HK.o.keep (C.o.mono hL));have f7:=hI (show jX I (w.1.size+1) 73 from by
   have h1:=HT.o.c0;exact(show jX W (w.1.size+1) 73 from d9.o).turn (hb5.block _ (by omega)))
  obtain⟨G,n1,n2,O,J,n5⟩:=m0.o.cells;clear hb5 hS5 d5 z;obtain⟨a,rest,rfl,ha,hr,f4⟩:=f6;have HP:=hI (g3.o.trans (by rw[h1,h2,h3,h4,h5];rfl:_=(qZw M.gs (fs.map (·.h)) (fs.getD M.ci noF).h.t (a :: rest) (M.own fs)).bind fun r=>.ok (.mk k ln co [] r.1.1 0 r.1.2.1 r.1.2.2,r.2)));have HC:=hI (qPH M fs NS k x m ln co a rest (.slice q (a :: rest).length c) k ln co (.slice none 0 0) 0 I m1.o hL5 d7.o ha hr f4 m2.o g2.o f8);simp only[qZ,qQ.kind,qQ.text,qQ.num,qQ.line,qQ.col,qQ.kids]at HC;unfold qP at h1;unfold qW at h2;unfold zW at h3;unfold qN at h4;unfold qV at h5;have m5:M.F < w.1.size:=by obtain⟨cs,fr,kk⟩:=zE V.o.rd.frow rfl;exact qZF kk
  have g1:M.Mo < w.1.size:=by obtain⟨es,cc,kk⟩:=V.o.rd.en.om.isMap;exact qZF kk
  have g7:∀ g,(M.vv fs).ownBlock=some g->g < w.1.size:=Mem.vlt V.o;clear ha hr f4;go_wp2_with fail
  refine(HC.o).mono ?_;rintro e w6 hX;have z:=f3.o;cases hp:qZw M.gs (fs.map (·.h)) (fs.getD M.ci noF).h.t (a :: rest) (M.own fs)with
  | bad l' c' code =>
   unfold qXU at hX;rw[hp]at hX;obtain⟨rfl,hg⟩:=hX;refine⟨rfl,qQX.badI (by rw[HP.o,hp];rfl) ?_⟩;have hT:=(yX.toN (NS:=NS) (yX.of_below (F:=M.F) (Mo:=M.Mo) (vv:=M.vv fs) C.o)).trans hg (.inl rfl);exact yX.mk hT.os hT.tape hT.output hT.size (fun k a b c d=>hT.block k a b c (by omega) d)
  | ok r =>
   obtain⟨⟨es,ba,bb⟩,d4⟩:=r;unfold qXU at hX;rw[hp]at hX;obtain⟨vv',rfl,f5,A,d2,ev,hv,lv,d8,hE,hH,R⟩:=hX;obtain⟨uq,uc,rfl⟩:=hE.shape;obtain⟨vq,vc,rfl⟩:=hH.shape;obtain⟨xq,xc,rfl⟩:=R.shape;have hg5:=A.size;have X:w6.1[w.1.size+1]? = I.1[w.1.size+1]?:=A.block _ (by omega) (by omega) (by omega) (by omega) (fun e=>by have:=g7 _ e.symm;omega);have HQ:=hI (HP.o.trans (by rw[hp];rfl:_=.ok (.mk k ln co [] es 0 ba bb,d4)));have Y:=hI (g8.o.turn X);have f9:=hI f5;have m3:=hI ((yX.toN (NS:=NS) (yX.of_below (F:=M.F) (Mo:=M.Mo) (vv:=M.vv fs) C.o)).trans A (.inl rfl));have d6:=hI (f7.o.turn X);have HE:=hI hE;have HH:=hI hH;have g9:=hI R;have g0:=hI (vW.low d2 (show w.1.size<=I.1.size by omega));have⟨r0,r1,r2,r3,r4,r5,r6,r7,_⟩:=Y.o.a;have⟨p7,r9,p5,m9,p9,p8,m7,p2,_⟩:=Y.o.b;have⟨s0,s1,s2,s3,s4,s5,s6,s7,_⟩:=d8.a;have rl:=Y.o.lt;clear G n1 n2 O J n5 hp d8 hE hH R A f5 d2 X HC;go_wp2
   refine bodyPost_ret (v:=sxV (.mk k ln co [] es 0 ba bb) ⟨.slice none 0 0, .slice uq es.length uc, .slice vq ba.length vc, .slice xq bb.length xc⟩) (by simp[results,results122,go_sem,sxV,r0,r1,r2,r3,r4,r5,r6,r7,rl]) rfl (qQX.okI (vv':=vv') HQ.o ?_ ?_ g0.o ⟨_,rfl,?_⟩)
   ·exact Mem.set8 f9.o d6.o (by omega) _ _ _ _ _ _ _ _
   ·exact yX.fin m3.o (by omega) (by omega) _ _ _ _ _ _ _ _
   ·exact⟨qU.nil _ _,qU.move HE.o (fun g hg hok=>⟨⟨by omega,hok.2⟩,qJI _ _ _ (by omega) _ _ _ _ _ _ _ _⟩),jE.move HH.o (fun g hg hok=>⟨⟨by omega,hok.2⟩,qJI _ _ _ (by omega) _ _ _ _ _ _ _ _⟩),jE.move g9.o (fun g hg hok=>⟨⟨by omega,hok.2⟩,qJI _ _ _ (by omega) _ _ _ _ _ _ _ _⟩)⟩
theorem st_assign(k x:List UInt8)(m ln co:Int)(ks:List qQ)(m3:k.length<=1000000)(h1:(k == qP)=true)(p7:∃ a b,ks=[a,b]/\wfE a=true/\wfE b=true):qUB (.mk k x m ln co ks):=by
 intro M fs v w h hL hl;obtain⟨q,c,rfl,G3,D0,s⟩:=hl.kids;have g0:=bal (bal (Below.refl w.1.size w) (qB (.mk k x m ln co ks) (.slice q ks.length c))) (sxO [] 0 0 (.slice none 0 0) (.slice none 0 0) 0 (.slice none 0 0) (.slice none 0 0));have n7:=hI g0;have HN:=hI ((Bx.new (.mk k x m ln co ks) (.slice q ks.length c) w).below (bal (Below.refl _ _) (sxO [] 0 0 (.slice none 0 0) (.slice none 0 0) 0 (.slice none 0 0) (.slice none 0 0))));have HT:=hI (jO.new [] 0 0 (.slice none 0 0) (.slice none 0 0) 0 (.slice none 0 0) (.slice none 0 0) (w.alloc (qB (.mk k x m ln co ks) (.slice q ks.length c))));simp only[World.size_alloc]at HT;have f6:=hI (show jX ((w.alloc (qB (.mk k x m ln co ks) (.slice q ks.length c))).alloc (sxO [] 0 0 (.slice none 0 0) (.slice none 0 0) 0 (.slice none 0 0) (.slice none 0 0))) (w.1.size+1) 73 from by
  have:=jO.kind (op:=[]) (l:=0) (c:=0) (tv:=.slice none 0 0) (ev:=.slice none 0 0) (fn:=0) (hv:=.slice none 0 0) (lv:=.slice none 0 0) (w.alloc (qB (.mk k x m ln co ks) (.slice q ks.length c)));simpa using this)
 have HM:=hI (show M.at fs ((w.alloc (qB (.mk k x m ln co ks) (.slice q ks.length c))).alloc (sxO [] 0 0 (.slice none 0 0) (.slice none 0 0) 0 (.slice none 0 0) (.slice none 0 0)))from h.below g0);have m1:=hI h;have n6:=hI hl;have d9:((w.alloc (qB (.mk k x m ln co ks) (.slice q ks.length c))).alloc (sxO [] 0 0 (.slice none 0 0) (.slice none 0 0) 0 (.slice none 0 0) (.slice none 0 0))).1.size=w.1.size+2:=by simp
 have m9:=hI (qVP M.gs (fs.map (·.h)) (fs.getD M.ci noF).h.t k x m ln co ks (M.own fs));have HK:=hI s;have r8:M.L<=w.1.size:=hL;clear h hl s g0;simp only[qZ,qB,sxO,qS,qQ.kind,qQ.text,qQ.num,qQ.line,qQ.col,qQ.kids]at *;go_enter func122,ntmps122
 go_wp2
 generalize ((w.alloc _).alloc _)=W at *;have p3:=hI d9;clear d9;obtain⟨n0,n1,n2,n3,n4,n5⟩:=HN.o.cells;refine qXG (fun a N=>(((((((((a.put (some 7) (.pointer (some ⟨w.1.size,0,none⟩))).put (some 8) (.string ⟨k.toArray⟩)).put (some 9) (.string ⟨k.toArray⟩)).put (some 10) (.pointer (some ⟨w.1.size,3,none⟩))).put (some 11) (.int .i64 ln)).put (some 12) (.pointer (some ⟨w.1.size,4,none⟩))).put (some 13) (.int .i64 co)).put (some 14) (.agg #[.string ⟨k.toArray⟩, .int .i64 ln, .int .i64 co, .slice none 0 0, .slice none 0 0, .int .i64 0, .slice none 0 0, .slice none 0 0])).put (some 5) (.pointer (some ⟨N,0,none⟩)))) (fun N w'=>StIn W k ln co N w') ?_ ?_
 ·refine wRg (S:=fun w'=>Below W.1.size W w') 99 ?_;refine wTk 0 7 (.pointer (some ⟨w.1.size,0,none⟩)) ?_ (bD W) ?_
  ·intro _ y;go_simp
  refine wTk 1 8 (.string ⟨k.toArray⟩) ?_ (bD W) ?_
  ·intro _ y;obtain⟨n0,n3,n4⟩:=kP3 y n0 n3 n4;go_simp
  refine wTk 3 10 (.pointer (some ⟨w.1.size,3,none⟩)) ?_ (bD W) ?_
  ·intro _ y;go_simp
  refine wTk 4 11 (.int .i64 ln) ?_ (bD W) ?_
  ·intro _ y;obtain⟨n0,n3,n4⟩:=kP3 y n0 n3 n4;go_simp
  refine wTk 5 12 (.pointer (some ⟨w.1.size,4,none⟩)) ?_ (bD W) ?_
  ·intro _ y;go_simp
  refine wTk 6 13 (.int .i64 co) ?_ (bD W) ?_
  ·intro _ y;obtain⟨n0,n3,n4⟩:=kP3 y n0 n3 n4;go_simp
  refine wE (i:=2) (j:=8) rfl rfl (by kernel_rfl) (by rfl) (by rfl) (fun K s=>?_) (fun K s=>?_)
  ·go_simp;refine(yP ⟨k.toArray⟩ _ (by simpa[ByteArray.size]using m3)).mono ?_;rintro e w3 ⟨rfl,hb3⟩;have hb3:=zF hb3;refine kK s hb3 ?_;clear s K;refine wTk 7 14 (.agg #[.string ⟨k.toArray⟩, .int .i64 ln, .int .i64 co, .slice none 0 0, .slice none 0 0, .int .i64 0, .slice none 0 0, .slice none 0 0]) ?_ (hb3) ?_
   ·intro _ y;go_simp
   refine wOn 8 fun K s=>?_
   go_simp;refine kK s (bal hb3 _) ?_;clear s K;refine wOn 9 fun K s=>?_
   go_simp;refine kK s (bal hb3 _) ?_;clear s K;refine wDn ?_ _;exact⟨w3.1.size,by simp only[Act.put,pZa,pZb,pZc],bal hb3 (sxO k ln co (.slice none 0 0) (.slice none 0 0) 0 (.slice none 0 0) (.slice none 0 0)),jO.new k ln co (.slice none 0 0) (.slice none 0 0) 0 (.slice none 0 0) (.slice none 0 0) w3,jO.kind w3,hb3.size⟩
  ·go_simp;refine kK s (bal (Below.refl W.1.size W).drew (.cells #[.string ⟨#[]⟩, .int .i64 0, .int .i64 0, .slice none 0 0, .slice none 0 0, .int .i64 0, .slice none 0 0, .slice none 0 0] 73)) ?_;clear s K;refine wOn 2 fun K s=>?_
   go_simp;refine(yP ⟨k.toArray⟩ _ (by simpa[ByteArray.size]using m3)).mono ?_;rintro e w3 ⟨rfl,hb3⟩;have hb4:=(bal (Below.refl W.1.size W).drew (.cells #[.string ⟨#[]⟩, .int .i64 0, .int .i64 0, .slice none 0 0, .slice none 0 0, .int .i64 0, .slice none 0 0, .slice none 0 0] 73)).trans (hb3.mono (by simp));refine kK s hb4 ?_;clear s K;refine wTk 7 14 (.agg #[.string ⟨k.toArray⟩, .int .i64 ln, .int .i64 co, .slice none 0 0, .slice none 0 0, .int .i64 0, .slice none 0 0, .slice none 0 0]) ?_ (hb4) ?_
   ·intro _ y;go_simp
   have hb3:Below (W.alloc (sxO [] 0 0 (.slice none 0 0) (.slice none 0 0) 0 (.slice none 0 0) (.slice none 0 0))).1.size (W.alloc (sxO [] 0 0 (.slice none 0 0) (.slice none 0 0) 0 (.slice none 0 0) (.slice none 0 0))) w3:=⟨hb3.os,hb3.tape,hb3.output,hb3.size,hb3.block⟩;have sb:=(jO.new [] 0 0 (.slice none 0 0) (.slice none 0 0) 0 (.slice none 0 0) (.slice none 0 0) W).below hb3;have kd:jX w3 W.1.size 73:=(jO.kind (op:=[]) (l:=0) (c:=0) (tv:=.slice none 0 0) (ev:=.slice none 0 0) (fn:=0) (hv:=.slice none 0 0) (lv:=.slice none 0 0) W).turn (hb3.block _ (by simp));have⟨z0,z1,z2,z3,z4,z5,z6,z7,_⟩:=sb.a;have⟨G7,G6,F5,D4,F1,D3,F0,D9,_⟩:=sb.b;refine wOn 9 fun K s=>?_
   go_simp;refine kK s (set8 hb4 (Nat.le_refl _) _ _ _ _ _ _ _ _) ?_;clear s K;refine wDn ?_ _;exact⟨W.1.size,by simp only[Act.put,pZa,pZb,pZc],set8 hb4 (Nat.le_refl _) _ _ _ _ _ _ _ _,sb.set8,(((((((kd.set _ _ _).set _ _ _).set _ _ _).set _ _ _).set _ _ _).set _ _ _).set _ _ _).set _ _ _,Nat.le_refl _⟩
 ·intro NS w5 s8;obtain⟨hb5,hS5,m5,p8⟩:=s8;try simp only[Act.put,pZa,pZb,pZc]
  have d9:=p3.o;have R:=hI (show SIn M fs k x m ln co ks q c NS k (.slice none 0 0) (.slice none 0 0) 0 w w5 from
   have hW:=n7.o.trans (hb5.mono (by omega))
   ⟨hW,⟨by omega,hS5.lt⟩,r8,HM.o.below hb5,HN.o.below hb5,HT.o.below hb5,(show jX W (w.1.size+1) 73 from f6.o).turn (hb5.block _ (by omega)),hS5,m5,HK.o.keep (hW.mono hL),xZ.move (fun g hg hok=>⟨hok,hW.block g hg⟩) _ _ n6.o,Mem.vlt m1.o⟩)
  clear hb5 hS5 m5 d9 p8 n0 n1 n2 n3 n4 n5 HM HN HT f6 m1 HK n6 n7 p3;clear W;have G8:=h1;obtain⟨a,b,rfl,ha,hb⟩:=p7;have HP:=hI (m9.o.trans (by rw[if_pos h1];rfl:_=(wJ ⟨M.gs,M.own fs⟩ a).bind fun p=>(qQT ⟨M.gs,M.own fs⟩ b p.ty).bind fun e=>.ok (.mk k ln co [p] [e] 0 [] [],M.own fs)));obtain⟨g,m2,rfl,d3⟩:=R.o.ka.resolve_left (by simp);have F2:=d3.1;obtain⟨qa,na,ca,g3,g4⟩:=d3.2 0 (by simp);simp only[List.getElem_cons_zero]at g3 g4;have⟨k0,k1,k2,k3,k4,k5,_⟩:=g4.a;simp only[Nat.zero_mul,Nat.add_zero]at k0 k1 k2 k3 k4 k5;obtain⟨ak,ax,am,t4,p5,t3⟩:=a;have m6:=hI (qKO ak ax am t4 p5 t3 ha M.B M.L ⟨M.gs,M.own fs⟩ (.slice qa na ca) w5 R.o.ea R.o.le g3);simp only[qZ,qS,qQ.kind,qQ.text,qQ.num,qQ.line,qQ.col,qQ.kids,List.length]at *;have G5:(2:Int)<=(c:Nat):=by omega
  obtain⟨n0,n1,n2,n3,n4,n5⟩:=R.o.nd.cells;unfold qP at h1;clear m9;go_wp2_with fail
  refine(m6.o).mono ?_;rintro e X hX;rcases hX.cases with⟨p,u,hp,rfl,⟨kv,rfl,C⟩,Y⟩ | ⟨l',c',code,hp,rfl,Y⟩;rotate_left
  ·exact⟨rfl,(R.o.below Y).bad (by rw[HP.o,hp];rfl)⟩
  have d2:=hI (R.o.below Y);have g9:=R.o.sz;have p1:=hI C;have g2:=hI hp;have F7:=Y.size;have s9:=hI Y;obtain⟨G,⟨A,z⟩,pn,pv,pg,pl,pc,pk⟩:=p;obtain⟨uq,uc,rfl⟩:=C.shape;obtain⟨n0,n1,n2,n3,n4,n5⟩:=d2.o.nd.cells;have s3:=d2.o.sb.c3;have r9:=d2.o.sb.f 3 nL;have t7:=d2.o.sz;have D5:¬NS=X.1.size:=by omega
  have t6:¬NS=X.1.size+1:=by omega
  have D6:¬X.1.size=NS:=by omega
  have t8:¬X.1.size+1=NS:=by omega
  clear hX hp C Y m6 k0 k1 k2 k3 k4 k5 g3 g4;simp only[exV,Ex.kids]at *;go_wp2
  have g8:=hI (d2.o.setT (.slice (some ⟨X.1.size+1,0,none⟩) 1 1));have f9:=hI (qU.setN (N:=NS) p1.o g9.2 (o:=3) (.slice (some ⟨X.1.size+1,0,none⟩) 1 1));have f8:(X.setCell ⟨NS,3,none⟩ (.slice (some ⟨X.1.size+1,0,none⟩) 1 1)).1.size=X.1.size:=by simp
  generalize (X.setCell ⟨NS,3,none⟩ (.slice (some ⟨X.1.size+1,0,none⟩) 1 1))=V at *;have p4:=hI (bal (bal (Below.refl V.1.size V) (exO G (A,z) pn pv pg pl pc (.slice uq pk.length uc))) (exO G (A,z) pn pv pg pl pc (.slice uq pk.length uc)));have O:=hI (g8.o.below p4.o);have f3:=hI ((qQf.new G (A,z) pn pv pg pl pc (.slice uq pk.length uc) V).below (bal (Below.refl _ _) (exO G (A,z) pn pv pg pl pc (.slice uq pk.length uc))));have d5:=hI (qU.single (w:=V.alloc (exO G (A,z) pn pv pg pl pc (.slice uq pk.length uc))) (ok:=fun g=>NS+1<=g) (p:=.mk G (A,z) pn pv pg pl pc pk) (qU.mono (f9.o.below (bal (Below.refl V.1.size V) (exO G (A,z) pn pv pg pl pc (.slice uq pk.length uc)))) (fun g hg=>by omega)) (by simp;omega));simp only[World.size_alloc,f8,exO,exC,Ex.kids]at f3 d5 O;have D7:((V.alloc (.cells #[.string ⟨G.toArray⟩, .int .i64 A, .bool z, .int .u64 pn, .int .i64 pv, .bool pg, .int .i64 pl, .int .i64 pc, .slice uq pk.length uc] 76)).alloc (.cells #[.string ⟨G.toArray⟩, .int .i64 A, .bool z, .int .u64 pn, .int .i64 pv, .bool pg, .int .i64 pl, .int .i64 pc, .slice uq pk.length uc] 76)).1.size=X.1.size+2:=by simp[f8]
  clear s3 r9 n0 n1 n2 n3 n4 n5 d2 g8 p1 f9 s9 p4 R d3;generalize ((V.alloc _).alloc _)=W at *;obtain⟨n0,n1,n2,n3,n4,n5⟩:=O.o.nd.cells;have t0:=f3.o.c1;have t1:=f3.o.c2;obtain⟨g',t5,e,d3⟩:=O.o.ka.resolve_left (by simp);injection e with e;injection e with e1 e2;subst e1 e2;obtain⟨qb,nb,cb,g6,g5⟩:=d3.2 1 (by simp);simp only[List.getElem_cons_succ,List.getElem_cons_zero]at g6 g5;have⟨k0,k1,k2,k3,k4,k5,_⟩:=g5.a;simp only[Nat.one_mul,Nat.add_zero]at k0 k1 k2 k3 k4 k5;have g7:=hI (fun w' hw'=>exp_all b hb M.B M.L ⟨M.gs,M.own fs⟩ (.slice qb nb cb) (A,z) w' (EAt.below O.o.ea hw') (Nat.le_trans O.o.le hw'.size) (xZ.move (fun g hg hok=>⟨hok,hw'.block g hg⟩) _ _ g6));obtain⟨bk,bx,bm,t2,p6,D8⟩:=b;simp only[qZ,qS,tyV,qQ.kind,qQ.text,qQ.num,qQ.line,qQ.col,qQ.kids,List.length]at *;clear g6 g5 d3;refine wRg (S:=fun w'=>Below W.1.size W w') 10 ?_;refine wTk 0 31 (.pointer (some ⟨M.B,0,none⟩)) ?_ (bD W) ?_
  ·intro _ y;go_simp
  refine wTk 1 32 (.pointer (some ⟨w.1.size,5,none⟩)) ?_ (bD W) ?_
  ·intro _ y;go_simp
  refine wTk 2 33 (.slice (some ⟨g,m2,none⟩) 2 c) ?_ (bD W) ?_
  ·intro _ y;have n5:=kP y n5;go_simp
  refine wTk 3 34 (.pointer (some ⟨g,m2+6,none⟩)) ?_ (bD W) ?_
  ·intro _ y;go_simp
  refine wTk 4 35 (.agg #[.string ⟨bk.toArray⟩, .string ⟨bx.toArray⟩, .int .u64 bm, .int .i64 t2, .int .i64 p6, .slice qb nb cb]) ?_ (bD W) ?_
  ·intro _ y;obtain⟨k0,k1,k2,k3,k4,k5⟩:=kP6 y k0 k1 k2 k3 k4 k5;go_simp
  refine wTk 5 36 (.pointer (some ⟨X.1.size,1,none⟩)) ?_ (bD W) ?_
  ·intro _ y;go_simp
  refine wTk 6 37 (.agg #[.int .i64 A, .bool z]) ?_ (bD W) ?_
  ·intro _ y;have t0:=kP y t0;have t1:=kP y t1;go_simp
  refine wOn 7 fun K s=>?_
  go_simp;refine(g7.o _ (Below.refl _ _).drew).mono ?_;rintro e w9 hX;rcases hX.cases with⟨p2,u,hp,rfl,⟨kv,rfl,C⟩,I⟩ | ⟨l',c',code,hp,rfl,I⟩;rotate_left
  ·exact⟨rfl,(O.o.below (zF I)).bad (by rw[HP.o,g2.o];simp only[CR.bind,Ex.ty];rw[hp])⟩
  have I:=zF I;have d7:=hI (O.o.below I);have n8:=hI (d5.o.below I);have p0:=hI (C.mono (ok':=fun g=>W.1.size<=g) (fun g hg=>hg));have n9:=hI hp;obtain⟨f5,⟨f4,d8⟩,xn,xv,xg,xl,xc,xk⟩:=p2;obtain⟨vq,vc,rfl⟩:=C.shape;have s4:=d7.o.sb.c4;have p9:=d7.o.sb.f 4 nL;have F8:=I.size;have t9:=d7.o.sz;have G1:¬NS=w9.1.size:=by omega
  have F9:¬w9.1.size=NS:=by omega
  simp only[exV,Ex.kids]at *;refine kK s I ?_;clear s K;refine wOn 8 fun K s=>?_
  go_simp;refine kK s (bal I _) ?_;clear s K;refine wOn 9 fun K s=>?_
  go_simp;refine kK s (bal I _) ?_;clear s K;refine wOn 10 fun K s=>?_
  go_simp;refine kD s ?_;clear s K;refine wDn ?_ _;have f7:=hI (d7.o.setE (.slice (some ⟨w9.1.size,0,none⟩) 1 1));have d6:=hI (qU.setN (N:=NS) n8.o (by omega) (o:=4) (.slice (some ⟨w9.1.size,0,none⟩) 1 1));have d4:=hI (qU.setN (N:=NS) p0.o (by omega) (o:=4) (.slice (some ⟨w9.1.size,0,none⟩) 1 1));have m7:(w9.setCell ⟨NS,4,none⟩ (.slice (some ⟨w9.1.size,0,none⟩) 1 1)).1.size=w9.1.size:=by simp
  have HQ:=hI (HP.o.trans (by rw[g2.o];simp only[CR.bind,Ex.ty];rw[n9.o]:_=.ok (.mk k ln co [.mk G (A,z) pn pv pg pl pc pk] [.mk f5 (f4,d8) xn xv xg xl xc xk] 0 [] [],M.own fs)));clear s4 p9 n0 n1 n2 n3 n4 n5 k0 k1 k2 k3 k4 k5 t0 t1 n8 p0 d7 O f3 d5 g7 hX hp C HP g2 n9;generalize (w9.setCell ⟨NS,4,none⟩ (.slice (some ⟨w9.1.size,0,none⟩) 1 1))=U at *;have g1:=hI (bal (Below.refl U.1.size U) (exO f5 (f4,d8) xn xv xg xl xc (.slice vq xk.length vc)));have J:=hI (f7.o.below g1.o);have m0:=hI (qU.mono (d6.o.below g1.o) (ok':=fun g=>w.1.size+2<=g) (fun g hg=>by omega));have m4:=hI (qU.single (w:=U) (ok:=fun g=>w.1.size+2<=g) (p:=.mk f5 (f4,d8) xn xv xg xl xc xk) (qU.mono d4.o (fun g hg=>by omega)) (show w.1.size+2<=U.1.size by omega));simp only[exO,exC,m7]at J m0 m4;clear f7 d6 d4 g1;generalize (U.alloc _)=Z at *;have⟨r0,r1,r2,r3,r4,r5,r6,r7,_⟩:=J.o.rt.a;have⟨F6,G4,F4,D2,G2,G0,D1,F3,_⟩:=J.o.rt.b;have⟨s0,s1,s2,s3,s4,s5,s6,s7,_⟩:=J.o.sb.a;have rl:=J.o.rt.lt;go_wp2
  exact bodyPost_ret (v:=sxV (.mk k ln co [.mk G (A,z) pn pv pg pl pc pk] [.mk f5 (f4,d8) xn xv xg xl xc xk] 0 [] []) ⟨.slice (some ⟨X.1.size+1,0,none⟩) 1 1, .slice (some ⟨w9.1.size,0,none⟩) 1 1, .slice none 0 0, .slice none 0 0⟩) (by simp[results,results122,go_sem,sxV,r0,r1,r2,r3,r4,r5,r6,r7,rl]) rfl (J.o.fin HQ.o m0.o m4.o _ _ _ _ _ _ _ _)
theorem st_nondet(k x:List UInt8)(m ln co:Int)(ks:List qQ)(f3:k.length<=1000000)(h1:(k == qP)=false)(h2:(k == qW)=true)(g4:∃ a,ks=[a]/\wfE a=true):qUB (.mk k x m ln co ks):=by
 intro M fs v w h hL hl;obtain⟨q,c,rfl,s9,m3,s⟩:=hl.kids;have d4:=bal (bal (Below.refl w.1.size w) (qB (.mk k x m ln co ks) (.slice q ks.length c))) (sxO [] 0 0 (.slice none 0 0) (.slice none 0 0) 0 (.slice none 0 0) (.slice none 0 0));have f8:=hI d4;have HN:=hI ((Bx.new (.mk k x m ln co ks) (.slice q ks.length c) w).below (bal (Below.refl _ _) (sxO [] 0 0 (.slice none 0 0) (.slice none 0 0) 0 (.slice none 0 0) (.slice none 0 0))));have HT:=hI (jO.new [] 0 0 (.slice none 0 0) (.slice none 0 0) 0 (.slice none 0 0) (.slice none 0 0) (w.alloc (qB (.mk k x m ln co ks) (.slice q ks.length c))));simp only[World.size_alloc]at HT;have d2:=hI (show jX ((w.alloc (qB (.mk k x m ln co ks) (.slice q ks.length c))).alloc (sxO [] 0 0 (.slice none 0 0) (.slice none 0 0) 0 (.slice none 0 0) (.slice none 0 0))) (w.1.size+1) 73 from by
  have:=jO.kind (op:=[]) (l:=0) (c:=0) (tv:=.slice none 0 0) (ev:=.slice none 0 0) (fn:=0) (hv:=.slice none 0 0) (lv:=.slice none 0 0) (w.alloc (qB (.mk k x m ln co ks) (.slice q ks.length c)));simpa using this)
 have HM:=hI (show M.at fs ((w.alloc (qB (.mk k x m ln co ks) (.slice q ks.length c))).alloc (sxO [] 0 0 (.slice none 0 0) (.slice none 0 0) 0 (.slice none 0 0) (.slice none 0 0)))from h.below d4);have d9:=hI h;have f7:=hI hl;have U:((w.alloc (qB (.mk k x m ln co ks) (.slice q ks.length c))).alloc (sxO [] 0 0 (.slice none 0 0) (.slice none 0 0) 0 (.slice none 0 0) (.slice none 0 0))).1.size=w.1.size+2:=by simp
 have f6:=hI (qVP M.gs (fs.map (·.h)) (fs.getD M.ci noF).h.t k x m ln co ks (M.own fs));have HK:=hI s;have g6:M.L<=w.1.size:=hL;clear h hl s d4;simp only[qZ,qB,sxO,qS,qQ.kind,qQ.text,qQ.num,qQ.line,qQ.col,qQ.kids]at *;go_enter func122,ntmps122
 go_wp2
 generalize ((w.alloc _).alloc _)=W at *;have g0:=hI U;clear U;obtain⟨O,n1,n2,Y,X,n5⟩:=HN.o.cells;refine qXG (fun a N=>(((((((((a.put (some 7) (.pointer (some ⟨w.1.size,0,none⟩))).put (some 8) (.string ⟨k.toArray⟩)).put (some 9) (.string ⟨k.toArray⟩)).put (some 10) (.pointer (some ⟨w.1.size,3,none⟩))).put (some 11) (.int .i64 ln)).put (some 12) (.pointer (some ⟨w.1.size,4,none⟩))).put (some 13) (.int .i64 co)).put (some 14) (.agg #[.string ⟨k.toArray⟩, .int .i64 ln, .int .i64 co, .slice none 0 0, .slice none 0 0, .int .i64 0, .slice none 0 0, .slice none 0 0])).put (some 5) (.pointer (some ⟨N,0,none⟩)))) (fun N w'=>StIn W k ln co N w') ?_ ?_
 ·refine wRg (S:=fun w'=>Below W.1.size W w') 99 ?_;refine wTk 0 7 (.pointer (some ⟨w.1.size,0,none⟩)) ?_ (bD W) ?_
  ·intro _ y;go_simp
  refine wTk 1 8 (.string ⟨k.toArray⟩) ?_ (bD W) ?_
  ·intro _ y;obtain⟨O,Y,X⟩:=kP3 y O Y X;go_simp
  refine wTk 3 10 (.pointer (some ⟨w.1.size,3,none⟩)) ?_ (bD W) ?_
  ·intro _ y;go_simp
  refine wTk 4 11 (.int .i64 ln) ?_ (bD W) ?_
  ·intro _ y;obtain⟨O,Y,X⟩:=kP3 y O Y X;go_simp
  refine wTk 5 12 (.pointer (some ⟨w.1.size,4,none⟩)) ?_ (bD W) ?_
  ·intro _ y;go_simp
  refine wTk 6 13 (.int .i64 co) ?_ (bD W) ?_
  ·intro _ y;obtain⟨O,Y,X⟩:=kP3 y O Y X;go_simp
  refine wE (i:=2) (j:=8) rfl rfl (by kernel_rfl) (by rfl) (by rfl) (fun K s=>?_) (fun K s=>?_)
  ·go_simp;refine(yP ⟨k.toArray⟩ _ (by simpa[ByteArray.size]using f3)).mono ?_;rintro e w3 ⟨rfl,hb3⟩;have hb3:=zF hb3;refine kK s hb3 ?_;clear s K;refine wTk 7 14 (.agg #[.string ⟨k.toArray⟩, .int .i64 ln, .int .i64 co, .slice none 0 0, .slice none 0 0, .int .i64 0, .slice none 0 0, .slice none 0 0]) ?_ (hb3) ?_
   ·intro _ y;go_simp
   refine wOn 8 fun K s=>?_
   go_simp;refine kK s (bal hb3 _) ?_;clear s K;refine wOn 9 fun K s=>?_
   go_simp;refine kK s (bal hb3 _) ?_;clear s K;refine wDn ?_ _;exact⟨w3.1.size,by simp only[Act.put,pZa,pZb,pZc],bal hb3 (sxO k ln co (.slice none 0 0) (.slice none 0 0) 0 (.slice none 0 0) (.slice none 0 0)),jO.new k ln co (.slice none 0 0) (.slice none 0 0) 0 (.slice none 0 0) (.slice none 0 0) w3,jO.kind w3,hb3.size⟩
  ·go_simp;refine kK s (bal (Below.refl W.1.size W).drew (.cells #[.string ⟨#[]⟩, .int .i64 0, .int .i64 0, .slice none 0 0, .slice none 0 0, .int .i64 0, .slice none 0 0, .slice none 0 0] 73)) ?_;clear s K;refine wOn 2 fun K s=>?_
   go_simp;refine(yP ⟨k.toArray⟩ _ (by simpa[ByteArray.size]using f3)).mono ?_;rintro e w3 ⟨rfl,hb3⟩;have hb4:=(bal (Below.refl W.1.size W).drew (.cells #[.string ⟨#[]⟩, .int .i64 0, .int .i64 0, .slice none 0 0, .slice none 0 0, .int .i64 0, .slice none 0 0, .slice none 0 0] 73)).trans (hb3.mono (by simp));refine kK s hb4 ?_;clear s K;refine wTk 7 14 (.agg #[.string ⟨k.toArray⟩, .int .i64 ln, .int .i64 co, .slice none 0 0, .slice none 0 0, .int .i64 0, .slice none 0 0, .slice none 0 0]) ?_ (hb4) ?_
   ·intro _ y;go_simp
   have hb3:Below (W.alloc (sxO [] 0 0 (.slice none 0 0) (.slice none 0 0) 0 (.slice none 0 0) (.slice none 0 0))).1.size (W.alloc (sxO [] 0 0 (.slice none 0 0) (.slice none 0 0) 0 (.slice none 0 0) (.slice none 0 0))) w3:=⟨hb3.os,hb3.tape,hb3.output,hb3.size,hb3.block⟩;have sb:=(jO.new [] 0 0 (.slice none 0 0) (.slice none 0 0) 0 (.slice none 0 0) (.slice none 0 0) W).below hb3;have kd:jX w3 W.1.size 73:=(jO.kind (op:=[]) (l:=0) (c:=0) (tv:=.slice none 0 0) (ev:=.slice none 0 0) (fn:=0) (hv:=.slice none 0 0) (lv:=.slice none 0 0) W).turn (hb3.block _ (by simp));have⟨z0,z1,z2,z3,z4,z5,z6,z7,_⟩:=sb.a;have⟨t4,t2,p7,m9,p3,m7,p2,p0,_⟩:=sb.b;refine wOn 9 fun K s=>?_
   go_simp;refine kK s (set8 hb4 (Nat.le_refl _) _ _ _ _ _ _ _ _) ?_;clear s K;refine wDn ?_ _;exact⟨W.1.size,by simp only[Act.put,pZa,pZb,pZc],set8 hb4 (Nat.le_refl _) _ _ _ _ _ _ _ _,sb.set8,(((((((kd.set _ _ _).set _ _ _).set _ _ _).set _ _ _).set _ _ _).set _ _ _).set _ _ _).set _ _ _,Nat.le_refl _⟩
 ·intro NS w5 g7;obtain⟨hb5,hS5,f4,g5⟩:=g7;try simp only[Act.put,pZa,pZb,pZc]
  have U:=g0.o;have C:=hI (show SIn M fs k x m ln co ks q c NS k (.slice none 0 0) (.slice none 0 0) 0 w w5 from
   have hW:=f8.o.trans (hb5.mono (by omega))
   ⟨hW,⟨by omega,hS5.lt⟩,g6,HM.o.below hb5,HN.o.below hb5,HT.o.below hb5,(show jX W (w.1.size+1) 73 from d2.o).turn (hb5.block _ (by omega)),hS5,f4,HK.o.keep (hW.mono hL),xZ.move (fun g hg hok=>⟨hok,hW.block g hg⟩) _ _ f7.o,Mem.vlt d9.o⟩)
  clear hb5 hS5 f4 U g5 O n1 n2 Y X n5 HM HN HT d2 d9 HK f7 f8 g0;clear W;obtain⟨a,rfl,ha⟩:=g4;have HP:=hI (f6.o.trans (by rw[h1,h2];rfl:_=(wJ ⟨M.gs,M.own fs⟩ a).bind fun p=>.ok (.mk k ln co [p] [] 0 [] [],M.own fs)));obtain⟨g,p1,rfl,f9⟩:=C.o.ka.resolve_left (by simp);have p4:=f9.1;obtain⟨qa,na,ca,d5,d6⟩:=f9.2 0 (by simp);simp only[List.getElem_cons_zero]at d5 d6;have⟨k0,k1,k2,k3,k4,k5,_⟩:=d6.a;simp only[Nat.zero_mul,Nat.add_zero]at k0 k1 k2 k3 k4 k5;obtain⟨ak,ax,am,m1,g3,g9⟩:=a;have f5:=hI (qKO ak ax am m1 g3 g9 ha M.B M.L ⟨M.gs,M.own fs⟩ (.slice qa na ca) w5 C.o.ea C.o.le d5);simp only[qZ,qS,qQ.kind,qQ.text,qQ.num,qQ.line,qQ.col,qQ.kids,List.length]at *;have t1:(1:Int)<=(c:Nat):=by omega
  obtain⟨O,n1,n2,Y,X,n5⟩:=C.o.nd.cells;unfold qP at h1;unfold qW at h2;clear f6;go_wp2_with fail
  refine(f5.o).mono ?_;rintro e A hX;rcases hX.cases with⟨p,u,hp,rfl,⟨kv,rfl,G⟩,I⟩ | ⟨l',c',code,hp,rfl,I⟩;rotate_left
  ·exact⟨rfl,(C.o.below I).bad (by rw[HP.o,hp];rfl)⟩
  have z:=hI (C.o.below I);have d7:=C.o.sz;have g8:=hI G;have r8:=I.size;obtain⟨R,⟨Z,V⟩,pn,pv,pg,pl,pc,pk⟩:=p;have HQ:=hI (HP.o.trans (by rw[hp];rfl:_=.ok (.mk k ln co [.mk R (Z,V) pn pv pg pl pc pk] [] 0 [] [],M.own fs)));obtain⟨uq,uc,rfl⟩:=G.shape;obtain⟨O,n1,n2,Y,X,n5⟩:=z.o.nd.cells;have⟨r0,r1,r2,r3,r4,r5,r6,r7,_⟩:=z.o.rt.a;have⟨p9,t0,p6,m5,s8,r9,m4,p5,_⟩:=z.o.rt.b;have⟨s0,s1,s2,s3,s4,s5,s6,s7,_⟩:=z.o.sb.a;have rl:=z.o.rt.lt;have p8:=z.o.sb.f 3 nL;have m2:=z.o.sz;have n8:¬NS=A.1.size:=by omega
  have n9:¬A.1.size=NS:=by omega
  have t3:¬NS=w.1.size+1:=by omega
  have m6:¬w.1.size+1=NS:=by omega
  have n6:¬w.1.size+1=A.1.size:=by omega
  have n7:¬A.1.size=w.1.size+1:=by omega
  clear hX hp G I f5 k0 k1 k2 k3 k4 k5 d5 d6;simp only[exV,Ex.kids]at *;have g2:=hI (z.o.setT (.slice (some ⟨A.1.size,0,none⟩) 1 1));have g1:=hI (qU.setN (N:=NS) g8.o d7.2 (o:=3) (.slice (some ⟨A.1.size,0,none⟩) 1 1));have J:(A.setCell ⟨NS,3,none⟩ (.slice (some ⟨A.1.size,0,none⟩) 1 1)).1.size=A.1.size:=by simp
  have m0:=hI (bal (Below.refl (A.setCell ⟨NS,3,none⟩ (.slice (some ⟨A.1.size,0,none⟩) 1 1)).1.size (A.setCell ⟨NS,3,none⟩ (.slice (some ⟨A.1.size,0,none⟩) 1 1))) (exO R (Z,V) pn pv pg pl pc (.slice uq pk.length uc)));have d3:=hI (g2.o.below m0.o);have d8:=hI (qU.single (ok:=fun g=>w.1.size+2<=g) (p:=.mk R (Z,V) pn pv pg pl pc pk) (qU.mono g1.o (fun g hg=>by omega)) (show w.1.size+2<=(A.setCell ⟨NS,3,none⟩ (.slice (some ⟨A.1.size,0,none⟩) 1 1)).1.size by rw[J];omega));simp only[exO,exC,J]at d3 d8;go_wp2
  refine bodyPost_ret (v:=sxV (.mk k ln co [.mk R (Z,V) pn pv pg pl pc pk] [] 0 [] []) ⟨.slice (some ⟨A.1.size,0,none⟩) 1 1, .slice none 0 0, .slice none 0 0, .slice none 0 0⟩) (by simp[results,results122,go_sem,sxV,r0,r1,r2,r3,r4,r5,r6,r7,rl]) rfl ?_;have HF:=hI (d3.o.fin HQ.o d8.o (qU.nil _ _));rw[<-comm8 _ _ _ (by rw[J];omega)];exact HF.o _ _ _ _ _ _ _ _
theorem qWK{fs:List FnM}{t:qQ}{hd:kI}{i:Nat}(h:wI (fs.map (fun f=>f.h)) t=.ok (hd,i)):∃ hi:i < fs.length,hd=fs[i].h/\t.kids.length=fs[i].h.params.length:=by
 unfold wI at h;cases hl:qQN t.text 0 (fs.map (·.h))with
 | none=>rw[hl]at h;cases h
 | some r =>
  obtain⟨z,s⟩:=r;rw[hl]at h;obtain⟨y,e2,o,rfl⟩:=qJK hl;have hi:s < fs.length:=by simpa using o
  by_cases j:t.kids.length=(fs.map (fun f:FnM=>f.h))[s].params.length
  ·simp only[jQ,j,decide_true,if_true,CR.bind]at h;injection h with h;injection h with ha hb;subst hb;exact⟨hi,by rw[<-ha];simp,by simpa using j⟩
  ·simp only[jQ,j,decide_false,CR.bind]at h;cases h
theorem st_call(k x:List UInt8)(m ln co:Int)(ks:List qQ)(d7:k.length<=1000000)(h1:(k == qP)=false)(h2:(k == qW)=false)(h3:(k == zW)=true)(g3:qZV ks=true/\ks.length<=1000000/\x.length<=1000000):qUB (.mk k x m ln co ks):=by
 intro M fs v w h hL hl;obtain⟨q,c,rfl,p9,m3,s⟩:=hl.kids;have d4:=bal (bal (Below.refl w.1.size w) (qB (.mk k x m ln co ks) (.slice q ks.length c))) (sxO [] 0 0 (.slice none 0 0) (.slice none 0 0) 0 (.slice none 0 0) (.slice none 0 0));have f5:=hI d4;have HN:=hI ((Bx.new (.mk k x m ln co ks) (.slice q ks.length c) w).below (bal (Below.refl _ _) (sxO [] 0 0 (.slice none 0 0) (.slice none 0 0) 0 (.slice none 0 0) (.slice none 0 0))));have HT:=hI (jO.new [] 0 0 (.slice none 0 0) (.slice none 0 0) 0 (.slice none 0 0) (.slice none 0 0) (w.alloc (qB (.mk k x m ln co ks) (.slice q ks.length c))));simp only[World.size_alloc]at HT;have d3:=hI (show jX ((w.alloc (qB (.mk k x m ln co ks) (.slice q ks.length c))).alloc (sxO [] 0 0 (.slice none 0 0) (.slice none 0 0) 0 (.slice none 0 0) (.slice none 0 0))) (w.1.size+1) 73 from by
  have:=jO.kind (op:=[]) (l:=0) (c:=0) (tv:=.slice none 0 0) (ev:=.slice none 0 0) (fn:=0) (hv:=.slice none 0 0) (lv:=.slice none 0 0) (w.alloc (qB (.mk k x m ln co ks) (.slice q ks.length c)));simpa using this)
 have HM:=hI (show M.at fs ((w.alloc (qB (.mk k x m ln co ks) (.slice q ks.length c))).alloc (sxO [] 0 0 (.slice none 0 0) (.slice none 0 0) 0 (.slice none 0 0) (.slice none 0 0)))from h.below d4);have d6:=hI h;have f4:=hI hl;have d2:((w.alloc (qB (.mk k x m ln co ks) (.slice q ks.length c))).alloc (sxO [] 0 0 (.slice none 0 0) (.slice none 0 0) 0 (.slice none 0 0) (.slice none 0 0))).1.size=w.1.size+2:=by simp
 have f3:=hI (qVP M.gs (fs.map (·.h)) (fs.getD M.ci noF).h.t k x m ln co ks (M.own fs));have HK:=hI s;have g5:M.L<=w.1.size:=hL;clear h hl s d4;simp only[qZ,qB,sxO,qS,qQ.kind,qQ.text,qQ.num,qQ.line,qQ.col,qQ.kids]at *;go_enter func122,ntmps122
 go_wp2
 generalize ((w.alloc _).alloc _)=W at *;have f8:=hI d2;clear d2;obtain⟨X,n1,n2,Z,Y,n5⟩:=HN.o.cells;refine qXG (fun a N=>(((((((((a.put (some 7) (.pointer (some ⟨w.1.size,0,none⟩))).put (some 8) (.string ⟨k.toArray⟩)).put (some 9) (.string ⟨k.toArray⟩)).put (some 10) (.pointer (some ⟨w.1.size,3,none⟩))).put (some 11) (.int .i64 ln)).put (some 12) (.pointer (some ⟨w.1.size,4,none⟩))).put (some 13) (.int .i64 co)).put (some 14) (.agg #[.string ⟨k.toArray⟩, .int .i64 ln, .int .i64 co, .slice none 0 0, .slice none 0 0, .int .i64 0, .slice none 0 0, .slice none 0 0])).put (some 5) (.pointer (some ⟨N,0,none⟩)))) (fun N w'=>StIn W k ln co N w') ?_ ?_
 ·refine wRg (S:=fun w'=>Below W.1.size W w') 99 ?_;refine wTk 0 7 (.pointer (some ⟨w.1.size,0,none⟩)) ?_ (bD W) ?_
  ·intro _ y;go_simp
  refine wTk 1 8 (.string ⟨k.toArray⟩) ?_ (bD W) ?_
  ·intro _ y;obtain⟨X,Z,Y⟩:=kP3 y X Z Y;go_simp
  refine wTk 3 10 (.pointer (some ⟨w.1.size,3,none⟩)) ?_ (bD W) ?_
  ·intro _ y;go_simp
  refine wTk 4 11 (.int .i64 ln) ?_ (bD W) ?_
  ·intro _ y;obtain⟨X,Z,Y⟩:=kP3 y X Z Y;go_simp
  refine wTk 5 12 (.pointer (some ⟨w.1.size,4,none⟩)) ?_ (bD W) ?_
  ·intro _ y;go_simp
  refine wTk 6 13 (.int .i64 co) ?_ (bD W) ?_
  ·intro _ y;obtain⟨X,Z,Y⟩:=kP3 y X Z Y;go_simp
  refine wE (i:=2) (j:=8) rfl rfl (by kernel_rfl) (by rfl) (by rfl) (fun K s=>?_) (fun K s=>?_)
  ·go_simp;refine(yP ⟨k.toArray⟩ _ (by simpa[ByteArray.size]using d7)).mono ?_;rintro e w3 ⟨rfl,hb3⟩;have hb3:=zF hb3;refine kK s hb3 ?_;clear s K;refine wTk 7 14 (.agg #[.string ⟨k.toArray⟩, .int .i64 ln, .int .i64 co, .slice none 0 0, .slice none 0 0, .int .i64 0, .slice none 0 0, .slice none 0 0]) ?_ (hb3) ?_
   ·intro _ y;go_simp
   refine wOn 8 fun K s=>?_
   go_simp;refine kK s (bal hb3 _) ?_;clear s K;refine wOn 9 fun K s=>?_
   go_simp;refine kK s (bal hb3 _) ?_;clear s K;refine wDn ?_ _;exact⟨w3.1.size,by simp only[Act.put,pZa,pZb,pZc],bal hb3 (sxO k ln co (.slice none 0 0) (.slice none 0 0) 0 (.slice none 0 0) (.slice none 0 0)),jO.new k ln co (.slice none 0 0) (.slice none 0 0) 0 (.slice none 0 0) (.slice none 0 0) w3,jO.kind w3,hb3.size⟩
  ·go_simp;refine kK s (bal (Below.refl W.1.size W).drew (.cells #[.string ⟨#[]⟩, .int .i64 0, .int .i64 0, .slice none 0 0, .slice none 0 0, .int .i64 0, .slice none 0 0, .slice none 0 0] 73)) ?_;clear s K;refine wOn 2 fun K s=>?_
   go_simp;refine(yP ⟨k.toArray⟩ _ (by simpa[ByteArray.size]using d7)).mono ?_;rintro e w3 ⟨rfl,hb3⟩;have hb4:=(bal (Below.refl W.1.size W).drew (.cells #[.string ⟨#[]⟩, .int .i64 0, .int .i64 0, .slice none 0 0, .slice none 0 0, .int .i64 0, .slice none 0 0, .slice none 0 0] 73)).trans (hb3.mono (by simp));refine kK s hb4 ?_;clear s K;refine wTk 7 14 (.agg #[.string ⟨k.toArray⟩, .int .i64 ln, .int .i64 co, .slice none 0 0, .slice none 0 0, .int .i64 0, .slice none 0 0, .slice none 0 0]) ?_ (hb4) ?_
   ·intro _ y;go_simp
   have hb3:Below (W.alloc (sxO [] 0 0 (.slice none 0 0) (.slice none 0 0) 0 (.slice none 0 0) (.slice none 0 0))).1.size (W.alloc (sxO [] 0 0 (.slice none 0 0) (.slice none 0 0) 0 (.slice none 0 0) (.slice none 0 0))) w3:=⟨hb3.os,hb3.tape,hb3.output,hb3.size,hb3.block⟩;have sb:=(jO.new [] 0 0 (.slice none 0 0) (.slice none 0 0) 0 (.slice none 0 0) (.slice none 0 0) W).below hb3;have kd:jX w3 W.1.size 73:=(jO.kind (op:=[]) (l:=0) (c:=0) (tv:=.slice none 0 0) (ev:=.slice none 0 0) (fn:=0) (hv:=.slice none 0 0) (lv:=.slice none 0 0) W).turn (hb3.block _ (by simp));have⟨z0,z1,z2,z3,z4,z5,z6,z7,_⟩:=sb.a;have⟨s9,r9,p4,m9,n9,m7,n8,n7,_⟩:=sb.b;refine wOn 9 fun K s=>?_
   go_simp;refine kK s (set8 hb4 (Nat.le_refl _) _ _ _ _ _ _ _ _) ?_;clear s K;refine wDn ?_ _;exact⟨W.1.size,by simp only[Act.put,pZa,pZb,pZc],set8 hb4 (Nat.le_refl _) _ _ _ _ _ _ _ _,sb.set8,(((((((kd.set _ _ _).set _ _ _).set _ _ _).set _ _ _).set _ _ _).set _ _ _).set _ _ _).set _ _ _,Nat.le_refl _⟩
 ·intro NS w5 g6;obtain⟨hb5,hS5,d8,g4⟩:=g6;try simp only[Act.put,pZa,pZb,pZc]
  have d2:=f8.o;have U:=hI (show SIn M fs k x m ln co ks q c NS k (.slice none 0 0) (.slice none 0 0) 0 w w5 from
   have hW:=f5.o.trans (hb5.mono (by omega))
   ⟨hW,⟨by omega,hS5.lt⟩,g5,HM.o.below hb5,HN.o.below hb5,HT.o.below hb5,(show jX W (w.1.size+1) 73 from d3.o).turn (hb5.block _ (by omega)),hS5,d8,HK.o.keep (hW.mono hL),xZ.move (fun g hg hok=>⟨hok,hW.block g hg⟩) _ _ f4.o,Mem.vlt d6.o⟩)
  clear hb5 hS5 d8 d2 g4 X n1 n2 Z Y n5 HM HN HT d3 d6 HK f4 f5 f8;clear W;obtain⟨d9,f6,f9⟩:=g3;have HP:=hI (f3.o.trans (by rw[h1,h2,h3];rfl:_=(wI (fs.map (·.h)) (.mk k x m ln co ks)).bind fun h=>(wM ⟨M.gs,M.own fs⟩ ks h.1.params).bind fun I=>.ok (.mk k ln co [] I h.2 [] [],M.own fs)));have d5:=hI (qWL M.B M.gs fs M.ci (.mk k x m ln co ks) (.slice q ks.length c) w5 U.o.ra f9 ⟨_,_,rfl⟩ f6);have g9:=hI d9;simp only[qZ,qS,qQ.kind,qQ.text,qQ.num,qQ.line,qQ.col,qQ.kids]at d5;obtain⟨X,n1,n2,Z,Y,n5⟩:=U.o.nd.cells;unfold qP at h1;unfold qW at h2;unfold zW at h3;clear f3 d9;go_wp2_with fail
  refine(d5.o).mono ?_;rintro e w6 hX;rcases hX.cases with⟨r,u,hp,rfl,rfl,O⟩ | ⟨l',c',code,hp,rfl,O⟩;rotate_left
  ·exact⟨rfl,(U.o.below O).bad (by rw[HP.o,hp];rfl)⟩
  obtain⟨hd,i⟩:=r;obtain⟨hi,rfl,f7⟩:=qWK hp;have G:=hI (U.o.below O);have HI:=hI hi;have g0:=hI f7;have HQ:=hI (HP.o.trans (by rw[hp];rfl:_=(wM ⟨M.gs,M.own fs⟩ ks fs[i].h.params).bind fun I=>.ok (.mk k ln co [] I i [] [],M.own fs)));have m0:=U.o.sz;have p6:=O.size;obtain⟨X,n1,n2,Z,Y,n5⟩:=G.o.nd.cells;have s5:=G.o.sb.c5;have g1:=G.o.sb.f 5 nL;have m1:=G.o.sz;have n6:¬NS=w.1.size:=by omega
  have hwN:¬w.1.size=NS:=by omega
  clear hX hp O d5 f7;go_wp2_with fail
  have C:=hI (G.o.setF i);have m2:(w6.setCell ⟨NS,5,none⟩ (.int .i64 i)).1.size=w6.1.size:=by simp
  generalize (w6.setCell ⟨NS,5,none⟩ (.int .i64 i))=V at *;refine(qPg M.B M.L M.gs fs M.ci i ks q c V g9.o C.o.ra hi g0.o C.o.le C.o.ka).mono ?_;rintro e w8 hX;rcases hX.cases with⟨I,u,hp,rfl,J,R⟩ | ⟨l',c',code,hp,rfl,R⟩;rotate_left
  ·exact⟨rfl,(C.o.below R).bad (HQ.o.trans (congrArg (fun z:CR (List Ex)=>z.bind fun I=>CR.ok (Sx.mk k ln co [] I i [] [],M.own fs)) hp))⟩
  have A:=hI (C.o.below R);have g2:=hI (J.mono (ok':=fun g=>NS+1<=g) (fun g hg=>by omega));have HF:=hI (HQ.o.trans (congrArg (fun z:CR (List Ex)=>z.bind fun I=>CR.ok (Sx.mk k ln co [] I i [] [],M.own fs)) hp:_=.ok (.mk k ln co [] I i [] [],M.own fs)));obtain⟨uq,uc,rfl⟩:=J.shape;have t0:=R.size;have g8:=hI (A.o.setE (.slice uq I.length uc));have g7:=hI ((qU.setN (N:=NS) g2.o (by omega) (o:=4) (.slice uq I.length uc)).mono (ok':=fun g=>w.1.size+2<=g) (fun g hg=>by omega));have s4:=A.o.sb.c4;have p2:=A.o.sb.f 4 nL;have p0:=A.o.sz;clear X n1 n2 Z Y n5 s5 g1 hX hp J R G C;have⟨r0,r1,r2,r3,r4,r5,r6,r7,_⟩:=A.o.rt.a;have⟨p5,r8,p3,m5,p8,p7,m4,p1,_⟩:=A.o.rt.b;have⟨s0,s1,s2,s3,s4,s5,s6,s7,_⟩:=A.o.sb.a;have rl:=A.o.rt.lt;have s8:¬NS=w.1.size+1:=by omega
  have m6:¬w.1.size+1=NS:=by omega
  go_wp2
  exact bodyPost_ret (v:=sxV (.mk k ln co [] I i [] []) ⟨.slice none 0 0, .slice uq I.length uc, .slice none 0 0, .slice none 0 0⟩) (by simp[results,results122,go_sem,sxV,r0,r1,r2,r3,r4,r5,r6,r7,rl, *]) rfl (g8.o.fin HF.o (qU.nil _ _) g7.o _ _ _ _ _ _ _ _)
end Go.Proofs.YtiajhekdhhhghaaGreatDoor
