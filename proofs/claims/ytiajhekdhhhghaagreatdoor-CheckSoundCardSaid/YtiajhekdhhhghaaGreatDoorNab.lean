/- Walks. -/
import Derived.Shelf.Strconv.Itoa0
import Derived.Shelf.Strconv.Itoa1
import Derived.Lib.Walk
import Derived.Lib.ItoaMem
import Derived.BigCall
import Derived.BigGuard
import Derived.Deep.LoopGhost
import Derived.Test.YtiajhekdhhhghaaGreatDoorNaa
set_option linter.all false
set_option maxHeartbeats 8000000
set_option maxRecDepth 100000
namespace Go.Proofs.YtiajhekdhhhghaaGreatDoor
open Tryz
open Go Go.RowKit
inductive qQ where
 | mk (kind text:List UInt8) (num line col:Int) (kids:List qQ)
def qQ.kind:qQ->List UInt8 | .mk k _ _ _ _ _=>k
def qQ.text:qQ->List UInt8 | .mk _ x _ _ _ _=>x
def qQ.num:qQ->Int | .mk _ _ n _ _ _=>n
def qQ.line:qQ->Int | .mk _ _ _ l _ _=>l
def qQ.col:qQ->Int | .mk _ _ _ _ c _=>c
def qQ.kids:qQ->List qQ | .mk _ _ _ _ _ ks=>ks
inductive PR(α:Type) where
 | ok (a:α) (l:List Tok)
 | bad (ln c code:Int)
 | out
def PR.bind{α β:Type}:PR α->(α->List Tok->PR β)->PR β
 | .ok a l,f=>f a l
 | .bad ln c code,_=>.bad ln c code
 | .out,_=>.out
def hdT(l:List Tok):Tok:=l.headD tok0
def qWQ{α:Type}(code:Int)(l:List Tok):PR α:=.bad (hdT l).line (hdT l).col code
def jV(may:Bool):List Tok->PR Tok
 | []=>.bad 0 0 30
 | t :: r=>if may then .ok t r else .bad t.line t.col 30
def jL:List (List UInt8)->List Tok->PR Unit
 | [],l=>.ok () l
 | x :: xs,l=>(jV ((hdT l).text == x) l).bind fun _ l=>jL xs l
def kR(t:Tok):Bool:=t.kind == 0 && !qWm t.text
def yG(x:List UInt8):Bool:=kJ x qQw
def xX(d:Int)(p:Int->List Tok->PR qQ)(l:List Tok):PR qQ:=if d=60 then qWQ 31 l else p (d+1) l
def vI(stop:Tok->Bool)(p:List Tok->PR qQ):Nat->List qQ->List Tok->PR (List qQ)
 | 0,_,_=>.out
 | n+1,acc,l=>if stop (hdT l)then .ok acc l else(p l).bind fun t l=>vI stop p n (acc++[t]) l
def qY:List UInt8:=[112,114,111,103,114,97,109]
def qG:List UInt8:=[103,108,111,98,97,108]
def qC:List UInt8:=[102,117,110,99]
def qO:List UInt8:=[112,97,114,97,109]
def zB:List UInt8:=[116,121,112,101]
def zD:List UInt8:=[110,117,109]
def zX:List UInt8:=[98,108,111,99,107]
def qE:List UInt8:=[108,111,99,97,108]
def kIf:List UInt8:=[105,102]
def zS:List UInt8:=[101,108,115,101]
def qA:List UInt8:=[119,104,105,108,101]
def qV:List UInt8:=[114,101,116,117,114,110]
def qF:List UInt8:=[97,115,115,101,114,116]
def qD:List UInt8:=[97,115,115,117,109,101]
def qP:List UInt8:=[97,115,115,105,103,110]
def qW:List UInt8:=[110,111,110,100,101,116]
def qN:List UInt8:=[114,101,115,117,108,116]
def zW:List UInt8:=[99,97,108,108]
def zM:List UInt8:=[110,97,109,101]
def qL:List UInt8:=[105,110,100,101,120]
def qM:List UInt8:=[98,105,110,97,114,121]
def qT:List UInt8:=[117,110,97,114,121]
def zK:List UInt8:=[99,97,115,116]
def zL:List UInt8:=[116,114,117,101]
def qH:List UInt8:=[102,97,108,115,101]
def zA:List UInt8:=[118,111,105,100]
def jG:List (List (List UInt8)):=[[[124,124]],[[38,38]],[[124]],[[94]],[[38]],[[61,61],[33,61]],[[60],[60,61],[62],[62,61]],[[60,60],[62,62]],[[43],[45]],[[42],[47],[37]]]
def xE(x:List UInt8):Int->List (List (List UInt8))->Int
 | _,[]=>-1
 | i,g :: gs=>if g.contains x then i else xE x (i+1) gs
def xL(x:List UInt8):Int:=xE x 0 jG
def qXD(x:List UInt8):Bool:=x == [33] || x == [126] || x == [45]
def zG(kind:List UInt8)(void:Bool)(l:List Tok):PR qQ :=
 (jV (void || yG (hdT l).text) l).bind fun t l=>(jV (kR (hdT l)) l).bind fun u l =>
  .ok (.mk kind u.text 0 t.line t.col [.mk zB t.text 0 t.line t.col []]) l
def wQ(l:List Tok):PR qQ:=(jV ((hdT l).kind == 1) l).bind fun t l=>.ok (.mk zD [] t.num t.line t.col []) l
def xT(n:Nat)(p:List Tok->PR qQ)(l:List Tok):PR (List qQ) :=
 (jL [[40]] l).bind fun _ l =>
  if (hdT l).text == [41]then(jL [[41]] l).bind fun _ l=>.ok [] l
  else(p l).bind fun t l=>(vI (fun u=>!(u.text == [44])) (fun l=>(jL [[44]] l).bind fun _ l=>p l) n [t] l).bind fun ts l =>
   (jL [[41]] l).bind fun _ l=>.ok ts l
inductive NT where
 | block
 | binary (k:Int)
 | operand
section
variable (rec:NT->Int->List Tok->PR qQ) (n:Nat)
def xF(d:Int)(l:List Tok):PR qQ :=
 (jV (kR (hdT l)) l).bind fun t l =>
  if (hdT l).text == [91]then(jL [[91]] l).bind fun _ l=>(xX d (rec (.binary 0)) l).bind fun e l=>(jL [[93]] l).bind fun _ l=>.ok (.mk qL t.text 0 t.line t.col [e]) l
  else .ok (.mk zM t.text 0 t.line t.col []) l
def yJ(d:Int)(l:List Tok):PR qQ :=
 (jV ((hdT l).text == [40]) l).bind fun t l =>
  if yG (hdT l).text then(jV true l).bind fun u l=>(jL [[41]] l).bind fun _ l=>(xX d (rec .operand) l).bind fun e l=>.ok (.mk zK u.text 0 t.line t.col [e]) l
  else(xX d (rec (.binary 0)) l).bind fun e l=>(jL [[41]] l).bind fun _ l=>.ok e l
def jU(d:Int)(l:List Tok):PR qQ :=
 if (hdT l).kind == 1 then wQ l
 else if (hdT l).text == zL || (hdT l).text == qH then(jV true l).bind fun u l'=>.ok (.mk u.text [] 0 (hdT l).line (hdT l).col []) l'
 else if qXD (hdT l).text then(jV true l).bind fun u l'=>(xX d (rec .operand) l').bind fun e l'=>.ok (.mk qT u.text 0 (hdT l).line (hdT l).col [e]) l'
 else if (hdT l).text == [40]then yJ rec d l
 else xF rec d l
def kX(k d:Int):Nat->qQ->List Tok->PR qQ
 | 0,_,_=>.out
 | m+1,left,l=>if xL (hdT l).text < k then .ok left l
  else(jV true l).bind fun t l'=>(rec (.binary (xL (hdT l).text+1)) d l').bind fun r l'=>kX k d m (.mk qM t.text 0 t.line t.col [left,r]) l'
def qQy(k d:Int)(l:List Tok):PR qQ:=(rec .operand d l).bind fun e l=>kX rec k d n e l
def qQh(d:Int)(l:List Tok):PR qQ:=rec (.binary 0) d l
def qPf(d:Int)(l:List Tok):PR qQ:=xX d (rec (.binary 0)) l
def qQR:List Tok->Bool
 | t :: u :: _=>kR t && u.text == [40]
 | _=>false
def qQz(d:Int)(l:List Tok):PR qQ :=
 (jV (kR (hdT l)) l).bind fun t l=>(xT n (qPf rec d) l).bind fun ts l=>.ok (.mk zW t.text 0 t.line t.col ts) l
def jJ(d:Int)(l:List Tok):PR qQ :=
 if qQR l then(qQz rec n d l).bind fun t l=>(jL [[59]] l).bind fun _ l=>.ok t l
 else(xF rec d l).bind fun x l'=>(jL [[61]] l').bind fun _ l' =>
  if (hdT l').text == qW then(jL [qW,[40],[41]] l').bind fun _ l'=>(jL [[59]] l').bind fun _ l'=>.ok (.mk qW [] 0 (hdT l).line (hdT l).col [x]) l'
  else if qQR l' then(qQz rec n d l').bind fun y l'=>(jL [[59]] l').bind fun _ l'=>.ok (.mk qN [] 0 (hdT l).line (hdT l).col [x,y]) l'
  else(qQh rec d l').bind fun y l'=>(jL [[59]] l').bind fun _ l'=>.ok (.mk qP [] 0 (hdT l).line (hdT l).col [x,y]) l'
def kL(d:Int)(l:List Tok):PR qQ :=
 (jV true l).bind fun t l=>(jL [[40]] l).bind fun _ l=>(qQh rec d l).bind fun e l=>(jL [[41],[59]] l).bind fun _ l=>.ok (.mk t.text [] 0 t.line t.col [e]) l
def yC(d:Int)(l:List Tok):PR qQ :=
 (jL [qV] l).bind fun _ l' =>
  if (hdT l').text == [59]then(jL [[59]] l').bind fun _ l'=>.ok (.mk qV [] 0 (hdT l).line (hdT l).col []) l'
  else(qQh rec d l').bind fun e l'=>(jL [[59]] l').bind fun _ l'=>.ok (.mk qV [] 0 (hdT l).line (hdT l).col [e]) l'
def jK(word:List UInt8)(d:Int)(l:List Tok):PR qQ :=
 (jL [word,[40]] l).bind fun _ l'=>(qQh rec d l').bind fun e l'=>(jL [[41]] l').bind fun _ l'=>(xX d (rec .block) l').bind fun b l' =>
  .ok (.mk word [] 0 (hdT l).line (hdT l).col [e,b]) l'
def vF(d:Int)(l:List Tok):PR qQ :=
 (jK rec kIf d l).bind fun t l=>if (hdT l).text == zS then(jL [zS] l).bind fun _ l=>(xX d (rec .block) l).bind fun b l=>.ok (.mk t.kind t.text t.num t.line t.col (t.kids++[b])) l else .ok t l
def qQM(l:List Tok):PR qQ:=(zG qE false l).bind fun t l=>(jL [[59]] l).bind fun _ l=>.ok t l
def qQA(d:Int)(l:List Tok):PR qQ :=
 if (hdT l).text == kIf then vF rec d l
 else if (hdT l).text == qA then jK rec qA d l
 else if (hdT l).text == qV then yC rec d l
 else if (hdT l).text == qF || (hdT l).text == qD then kL rec d l
 else if yG (hdT l).text then qQM l
 else jJ rec n d l
def qQK(d:Int)(l:List Tok):PR qQ :=
 (jL [[123]] l).bind fun _ l'=>(vI (fun u=>u.text == [125]) (qQA rec n d) n [] l').bind fun ts l'=>(jL [[125]] l').bind fun _ l'=>.ok (.mk zX [] 0 (hdT l).line (hdT l).col ts) l'
def stepP:NT->Int->List Tok->PR qQ
 | .block=>qQK rec n
 | .binary k=>qQy rec n k
 | .operand=>jU rec
end
def qQd:Nat->NT->Int->List Tok->PR qQ
 | 0,_,_,_=>.out
 | n+1,x,d,l=>stepP (qQd n) n x d l
def qZe(n:Nat)(l:List Tok):PR qQ :=
 (zG qG ((hdT l).text == zA) l).bind fun t l' =>
  if (hdT l).text == zA || (hdT l').text == [40]then(xT n (zG qO false) l').bind fun ps l'=>(xX 0 (qQd n .block) l').bind fun b l' =>
   .ok (.mk qC t.text t.num t.line t.col (t.kids++ps++[b])) l'
  else if (hdT l').text == [91]then(jL [[91]] l').bind fun _ l'=>(wQ l').bind fun m l'=>(jL [[93]] l').bind fun _ l'=>(jL [[59]] l').bind fun _ l'=>.ok (.mk t.kind t.text t.num t.line t.col (t.kids++[m])) l'
  else(jL [[59]] l').bind fun _ l'=>.ok t l'
def xW(n:Nat)(l:List Tok):PR qQ :=
 (vI (fun u=>u.kind == 3) (qZe n) n [] l).bind fun ts l'=>.ok (.mk qY [] 0 (hdT l).line (hdT l).col ts) l'
/-! ### Where trees lie -/
def qS(t:qQ)(v:Value):List Value:=[.string ⟨t.kind.toArray⟩, .string ⟨t.text.toArray⟩, .int .u64 t.num, .int .i64 t.line, .int .i64 t.col,v]
def qZ(t:qQ)(v:Value):Value:=.agg #[.string ⟨t.kind.toArray⟩, .string ⟨t.text.toArray⟩, .int .u64 t.num, .int .i64 t.line, .int .i64 t.col,v]
def qZK:List qQ->List Value->List Value
 | t :: ts,v :: vs=>qS t v++qZK ts vs
 | _,_=>[]
mutual
def xZ(w:World)(ok:Nat->Prop):qQ->Value->Prop
 | .mk _ _ _ _ _ kids,v=>∃ vs,(∀ g,v.ownBlock=some g->ok g)/\w.ownsRow 0 57 6 v kids.length (qZK kids vs)/\vV w ok kids vs
def vV(w:World)(ok:Nat->Prop):List qQ->List Value->Prop
 | [],[]=>True
 | t :: ts,v :: vs=>xZ w ok t v/\vV w ok ts vs
 | _,_=>False
end
mutual
theorem xZ.move{w w':World}{ok ok':Nat->Prop}(hm:∀ g,g < w.1.size->ok g->ok' g/\w'.1[g]? = w.1[g]?):∀ (t:qQ) (v:Value),xZ w ok t v->xZ w' ok' t v
 | .mk _ _ _ _ _ kids,v,h=>by
  obtain⟨vs,h1,h2,h3⟩:=h;refine⟨vs,fun g hg=>(hm g (h2.lt g hg).2 (h1 g hg)).1,⟨h2.1,?_⟩,vV.move hm kids vs h3⟩;rcases h2.2 with h | ⟨g,cap,cur,rfl,hb,hgg,rest⟩
  ·exact .inl h
  ·exact .inr ⟨g,cap,cur,rfl,hb,((hm g (Array.getElem?_eq_some_iff.1 hgg).1 (h1 g rfl)).2).trans hgg,rest⟩
theorem vV.move{w w':World}{ok ok':Nat->Prop}(hm:∀ g,g < w.1.size->ok g->ok' g/\w'.1[g]? = w.1[g]?):∀ (ts:List qQ) (vs:List Value),vV w ok ts vs->vV w' ok' ts vs
 | [],[],_=>trivial
 | t :: ts,v :: vs,h=>⟨xZ.move hm t v h.1,vV.move hm ts vs h.2⟩
 | [],_ :: _,h=>h.elim
 | _ :: _,[],h=>h.elim
end
def zC(w:World)(lo:Nat)(ts:List qQ)(v:Value):Prop:=∃ vs,w.ownsRow lo 57 6 v ts.length (qZK ts vs)/\vV w (fun g=>lo<=g/\some g≠v.ownBlock) ts vs
theorem zC.nil(w:World)(lo:Nat):zC w lo [] (.slice none 0 0):=⟨[],World.ownsRow_nil _ _ _ _,trivial⟩
theorem qW2{w:World}{b b':Nat}{e:TypeId}{size:Nat}{v:Value}{n:Nat}{xs:List Value}(h:w.ownsRow b e size v n xs)(hb:∀ g,v.ownBlock=some g->b'<=g):w.ownsRow b' e size v n xs:=by
 obtain⟨s,h2 | ⟨g,j,o,rfl,h4,y⟩⟩:=h
 ·exact⟨s, .inl h2⟩
 ·exact⟨s, .inr ⟨g,j,o,rfl,hb g rfl,y⟩⟩
theorem zC.mono{w:World}{lo lo':Nat}{ts:List qQ}{v:Value}(h:zC w lo ts v)(hl:lo'<=lo):zC w lo' ts v:=by
 obtain⟨j,o,h2⟩:=h;exact⟨j,qKa o hl,vV.move (fun g _ hg=>⟨⟨Nat.le_trans hl hg.1,hg.2⟩,rfl⟩) ts j h2⟩
theorem zC.grown{w w':World}{lo:Nat}{ts:List qQ}{v:Value}{r:Option Nat}(h:zC w lo ts v)(hg:w.grownBy w' r)(hr:∀ k,r=some k->k < lo\/w.1.size<=k):zC w' lo ts v:=by
 obtain⟨s,o,h2⟩:=h;have j:∀ g,g < w.1.size->lo<=g->some g≠r:=fun g hg1 hg2 e=>by rcases hr g e.symm with h | h <;> omega
 refine⟨s,o.kept hg ?_,vV.move (fun g hlt hok=>⟨hok,hg.block g hlt (j g hlt hok.1)⟩) ts s h2⟩;cases hv:v.ownBlock with
 | none=>exact .inl rfl
 | some g=>exact .inr (j g (o.lt g hv).2 (o.lt g hv).1)
theorem zC.lies{w:World}{lo:Nat}{t:qQ}{v:Value}(h:zC w lo t.kids v):xZ w (fun g=>lo<=g) t v:=by
 obtain⟨j,o,h2⟩:=h;cases t with
 | mk k x n l c ks=>exact⟨j,fun g hg=>(o.lt g hg).1,qKa o (Nat.zero_le _),vV.move (fun g _ hg=>⟨hg.1,rfl⟩) _ j h2⟩
theorem vV.length{w:World}{ok:Nat->Prop}:∀ (ts:List qQ) (j:List Value),vV w ok ts j->ts.length=j.length
 | [],[],_=>rfl
 | _ :: ts,_ :: j,h=>by simp[vV.length ts j h.2]
 | [],_ :: _,h=>h.elim
 | _ :: _,[],h=>h.elim
theorem qJS:∀ (ts us:List qQ) (j xs:List Value),ts.length=j.length->qZK (ts++us) (j++xs)=qZK ts j++qZK us xs
 | [],us,[],xs,_=>rfl
 | t :: ts,us,v :: j,xs,h=>by
  simp only[lC,qZK,qJS ts us j xs (by simpa using h),List.append_assoc]
 | [],_,_ :: _,_,h=>by simp at h
 | _ :: _,_,[],_,h=>by simp at h
theorem vV.append{w:World}{ok:Nat->Prop}:∀ (ts us:List qQ) (j xs:List Value),vV w ok ts j->vV w ok us xs->vV w ok (ts++us) (j++xs)
 | [],_,[],_,_,h=>h
 | _ :: ts,us,_ :: j,xs,h,h'=>⟨h.1,vV.append ts us j xs h.2 h'⟩
 | [],_,_ :: _,_,h,_=>h.elim
 | _ :: _,_,[],_,h,_=>h.elim
theorem type_hit{l:List UInt8}{k:Nat}(h:k < 9)(hp:qQw.getD k []=l)(hr:kJ l (qQw.drop k)=yG l):true=yG l:=by
 have hl:k < qQw.length:=h;rw[List.drop_eq_getElem_cons hl,kJ]at hr;rw[List.getD_eq_getElem?_getD,List.getElem?_eq_getElem hl,Option.getD_some]at *;rw[if_pos hp]at hr;exact hr
theorem type_miss{l:List UInt8}{k:Nat}(h:k < 9)(hp:¬qQw.getD k []=l)(hr:kJ l (qQw.drop k)=yG l):kJ l (qQw.drop (k+1))=yG l:=by
 have hl:k < qQw.length:=h;rw[List.drop_eq_getElem_cons hl,kJ]at hr;rw[List.getD_eq_getElem?_getD,List.getElem?_eq_getElem hl,Option.getD_some]at *;rw[if_neg hp]at hr;exact hr
theorem type_end{l:List UInt8}{k:Nat}(h:k<=9)(j:¬k < 9)(hr:kJ l (qQw.drop k)=yG l):false=yG l:=by
 obtain rfl:k=9:=by omega
 exact hr
theorem qXC(s:ByteArray)(w:World)(ht:qWD w) :
 Calls prog 124 #[.string s] w fun e w'=>e=.returned (.bool (yG s.data.toList))/\w=w':=by
 obtain⟨b,I,C,ht⟩:=ht;have g:=ht.tg;go_enter func124,ntmps124
 go_wp2
 go_loop [7] (fun i=>∃ k:Nat,k<=9/\i=.int .i64 k/\kJ s.data.toList (qQw.drop k)=yG s.data.toList) (fun i=>9 - (intOf i).toNat)
 case atStart=>exact⟨0,Nat.zero_le _,rfl,rfl⟩
 case round =>
  obtain⟨k,G,rfl,hr⟩:=hrel;have z:=hI hr;clear hr;by_cases j:k < 9
  ·have hc:=ht.tn k j;have O:=hI ht;have A:=qU6 (qQw.getD k []) s;generalize J:(⟨(qQw.getD k []).toArray⟩:ByteArray)=a at *;clear ht g J;by_cases hp:qQw.getD k []=s.data.toList
   ·rw[decide_eq_true hp]at A;have y:=hI hp;clear hp;go_wp2
    go_ret;exact⟨qQ4 (type_hit j y.o z.o),rfl⟩
   ·rw[decide_eq_false hp]at A;have y:=hI hp;clear hp;go_wp2
    go_round
    case rel=>exact⟨k+1,by omega,by go_num,type_miss j y.o z.o⟩
    case measure=>simp[intOf];omega
  ·clear g ht;go_wp2
   go_ret;exact⟨qQ4 (type_end G j z.o),rfl⟩
theorem qVR(x:List UInt8)(w:World) :
 Calls prog 164 #[.string ⟨x.toArray⟩] w fun e w'=>e=.returned (.bool (qXD x))/\w=w':=by
 unfold qXD;cases j:(x == [33]) <;> cases h2:(x == [126]) <;> cases h3:(x == [45]) <;>
 ·go_enter func164,ntmps164
  go_wp2
  go_ret;exact⟨rfl,rfl⟩
theorem kT(B:Nat)(t:Tok)(r:List Tok)(d:Int)(w:World)(h:vP B (t :: r) d w) :
 Calls prog 125 #[.pointer (some ⟨B,0,none⟩)] w fun e w'=>e=.returned (.bool (kR t))/\Below w.1.size w w':=by
 have H:=hI (kY B t r d w h);go_enter func125,ntmps125
 go_wp2_with fail
 refine(H.o).mono ?_;rintro e G ⟨rfl,hb⟩;have j:=h.below hb;obtain⟨lo,T,o,c,j⟩:=j;have s:=j.tab.keys;have C:=hI (key_any ⟨t.text.toArray⟩ (G.alloc (.cells #[.int .i64 t.kind, .string ⟨t.text.toArray⟩, .int .u64 t.num, .int .i64 t.line, .int .i64 t.col] 49)) (by
  obtain⟨b,y,z,s⟩:=s;exact⟨b,y,z,s.below ((Below.refl _ _).alloc (Nat.le_refl _) _)⟩))
 clear h j s H;unfold vT xA;cases A:(t.kind == 0)
 ·go_wp2_with fail
  go_ret;exact⟨by simp[kR,A],hb.alloc hb.size _⟩
 ·go_wp2_with fail
  refine(C.o).mono ?_;rintro e w2 ⟨rfl,rfl⟩;go_wp2
  trace_state
  go_ret;exact⟨by simp[kR,A],hb.alloc hb.size _⟩
def qWy(B:Nat)(d:Int)(w:World)(p:PR Unit)(e:Ending)(w':World):Prop :=
 match p with
 | .ok _ l=>e=.returned (.tuple #[])/\vP B l d w'/\w.grownBy w' (some B)
 | .bad ln c code=>Pan B ln c code w e w'
 | .out=>True
theorem pass_hit{xs:List (List UInt8)}{k:Nat}(j:k < xs.length){t:Tok}{r:List Tok}(h:t.text=xs[k]):jL (xs.drop k) (t :: r)=jL (xs.drop (k+1)) r:=by
 rw[List.drop_eq_getElem_cons j,jL];have:(hdT (t :: r)).text=t.text:=rfl;rw[this,h];simp[jV,PR.bind]
theorem pass_miss{xs:List (List UInt8)}{k:Nat}(j:k < xs.length){t:Tok}{r:List Tok}(h:¬t.text=xs[k]):jL (xs.drop k) (t :: r)=.bad t.line t.col 30:=by
 rw[List.drop_eq_getElem_cons j,jL];have:(hdT (t :: r)).text=t.text:=rfl;rw[this];simp[jV,PR.bind,h]
theorem pass_end{xs:List (List UInt8)}{k:Nat}(o:k<=xs.length)(j:¬k < xs.length)(l:List Tok):jL (xs.drop k) l=.ok () l:=by
 rw[List.drop_eq_nil_of_le (by omega),jL]
def PassRel(B:Nat)(xs:List (List UInt8))(l:List Tok)(d:Int)(w:World)(i:Value)(wr:World):Prop :=
 ∃ (k:Nat) (l1:List Tok),k<=xs.length/\i=.int .i64 k/\vP B l1 d wr/\w.grownBy wr (some B)/\jL (xs.drop k) l1=jL xs l
theorem vP.ends{B:Nat}{l:List Tok}{d:Int}{w:World}(h:vP B l d w):qZY l:=by
 obtain⟨lo,T,o,c,h⟩:=h;exact h.ends
theorem qPY(B g R:Nat)(xs:List (List UInt8))(l:List Tok)(d:Int)(w:World)(h:vP B l d w)(d6:B < g)(hx:∀ i,i < xs.length->w.cell? ⟨g,i,none⟩=some (.string ⟨(xs.getD i []).toArray⟩))
 (J:∀ x∈xs,x≠[]) (d5:xs.length<=R) (d4:xs.length<=10) :
 Calls prog 108 #[.pointer (some ⟨B,0,none⟩), .slice (some ⟨g,0,none⟩) xs.length R] w (qWy B d w (jL xs l)):=by
 have HX:=hI hx;have d3:=hI J;have HP:=hI h;clear hx J h;go_enter func108,ntmps108
 go_wp2_with fail
 go_loopw [8] (fun i wr=>PassRel B xs l d w i wr) (fun i _=>xs.length - (intOf i).toNat)
 case atStart=>exact⟨0,l,Nat.zero_le _,rfl,HP.o,jS _ _,rfl⟩
 case round =>
  obtain⟨k,l1,hk,rfl,z,hg,hp⟩:=hrel;have G:=hI hp;clear hp;by_cases s:k < xs.length
  ·have O:=HX.o k s;have hc:wr.cell? ⟨g,k,none⟩=some (.string ⟨(xs.getD k []).toArray⟩):=hg.cell O (by simp;omega);have I:xs.getD k []=xs[k]:=by simp[s]
   rw[I]at hc;have A:=d3.o xs[k] (List.getElem_mem _);clear O I;obtain⟨t,r,rfl⟩:=z.ends.ne;have X:=hI (wN B t r d xs[k] wr z);have V:=hI z;by_cases C:t.text=xs[k]
   ·have hb:(t.text == xs[k])=true:=by simpa using C
    rw[hb]at X;have Y:t.text≠[]:=by rw[C];exact A
    have j:=hI (G.o ▸ pass_hit s C);clear z C hb A;generalize xs[k]=x at *;go_wp2_with fail
    refine(X.o).mono ?_;rintro e Z ⟨rfl,y⟩;have HT:=hI (vB B t r d Z (V.o.below y) Y);go_wp2_with fail
    refine(HT.o).mono ?_;rintro e w2 ⟨rfl,hP2,hg2⟩;go_wp2
    go_roundw
    case rel=>exact⟨k+1,r,by omega,by go_num,hP2,qR (qR hg (zV y _)) hg2,j.o.symm⟩
    case measure=>simp[intOf];omega
   ·have hb:(t.text == xs[k])=false:=by simpa using C
    rw[hb]at X;have j:=hI (G.o ▸ pass_miss s C);clear z C hb A;generalize xs[k]=x at *;go_wp2_with fail
    refine(X.o).mono ?_;rintro e Z ⟨rfl,y⟩;have HT:=hI (qQ8 B t r d Z (V.o.below y));go_wp2_with fail
    refine(HT.o).mono ?_;rintro e w2 ⟨rfl,hg2⟩;refine⟨rfl,?_⟩;rw[j.o];exact⟨rfl,qR (qR hg (zV y _)) hg2⟩
  ·have U:=G.o ▸ pass_end hk s l1;have d2:=hI U;have V:=hI z;clear z U;go_wp2
   go_end0;trace_state
   rw[d2.o];exact⟨rfl,V.o,hg⟩
def qXV(B:Nat)(d:Int)(w:World)(p:PR qQ)(e:Ending)(w':World):Prop :=
 match p with
 | .ok t l=>∃ v,e=.returned (qZ t v)/\zC w' w.1.size t.kids v/\vP B l d w'/\w.grownBy w' (some B)
 | .bad ln c code=>Pan B ln c code w e w'
 | .out=>True
def vM(f:Nat)(args:Value->Array Value)(d:Int)(p:List Tok->PR qQ):Prop :=
 ∀ (B:Nat) (l:List Tok) (w:World),vP B l d w->p l≠.out->Calls prog f (args (.pointer (some ⟨B,0,none⟩))) w (qXV B d w (p l))
def six(w:World)(k:Nat)(a b c d e f:Value):World:=(((((w.setCell ⟨k,0,none⟩ a).setCell ⟨k,1,none⟩ b).setCell ⟨k,2,none⟩ c).setCell ⟨k,3,none⟩ d).setCell ⟨k,4,none⟩ e).setCell ⟨k,5,none⟩ f
theorem qQU{w w2:World}{r:Option Nat}(h:w.grownBy w2 r){k:Nat}(j:w.1.size<=k)(a b c d e f:Value):w.grownBy (six w2 k a b c d e f) r :=
 xR (xR (xR (xR (xR (xR h j _ _) j _ _) j _ _) j _ _) j _ _) j _ _
theorem vQ(w:World)(k:Nat)(a b c d e f:Value):w.grownBy (six w k a b c d e f) (some k) :=
 vC (vC (vC (vC (vC (vC (jS _ _) _) _) _) _) _) _
theorem vP.six{B:Nat}{l:List Tok}{d:Int}{w:World}(h:vP B l d w){k:Nat}(o:B < k)(a b c d' e f:Value):vP B l d (six w k a b c d' e f) :=
 h.grown (vQ w k a b c d' e f) (fun j e=>by cases e;exact o)
theorem zC.six{w:World}{lo:Nat}{ts:List qQ}{v:Value}(h:zC w lo ts v){k:Nat}(o:k < lo)(a b c d e f:Value):zC (six w k a b c d e f) lo ts v :=
 h.grown (vQ w k a b c d e f) (fun j e=>by cases e;exact .inl o)
theorem zC.below{w w':World}{lo:Nat}{ts:List qQ}{v:Value}(h:zC w lo ts v)(hb:Below w.1.size w w'):zC w' lo ts v:=h.grown (zV hb none) (fun _ e=>by cases e)
theorem zC.alloc{w:World}{lo:Nat}{ts:List qQ}{v:Value}(h:zC w lo ts v)(o:Obj):zC (w.alloc o) lo ts v:=h.grown (World.grownBy_alloc w o none) (fun _ e=>by cases e)
theorem zC.lt{w:World}{lo:Nat}{ts:List qQ}{v:Value}(h:zC w lo ts v):∀ g,v.ownBlock=some g->lo<=g/\g < w.1.size:=by
 obtain⟨o,j,_⟩:=h;exact j.lt
theorem ppost_six{B k:Nat}{d:Int}{w w2:World}{t:qQ}{l:List Tok}{v:Value}(o:w.1.size=k)(hB:B < k)(j:vP B l d w2)(hg:w.grownBy w2 (some B))(hb:zC w2 (k+1) t.kids v)(a b c d' e f:Value) :
 qXV B d w (.ok t l) (.returned (qZ t v)) (six w2 k a b c d' e f) :=
 ⟨v,rfl,(hb.six (Nat.lt_succ_self k) _ _ _ _ _ _).mono (by omega),j.six hB _ _ _ _ _ _,qQU hg (by omega) _ _ _ _ _ _⟩
theorem info57:(prog.info? 57).map (fun i=>(i.zero,i.size,i.bytes))=some (some (.agg #[.string ⟨#[]⟩, .string ⟨#[]⟩, .int .u64 0, .int .i64 0, .int .i64 0, .slice none 0 0]),6,80):=by kernel_rfl
theorem nodeC_one(t:qQ){v:Value}(h:v.oneCell'=true):∀ u∈qS t v,u.oneCell'=true:=by
 intro u j;simp[qS]at j;rcases j with rfl | rfl | rfl | rfl | rfl | rfl <;> first | rfl | exact h
theorem qUk(w:World)(t:qQ)(v:Value)(T:TypeId) :
 ∀ (j:Nat) (u:Value),(qS t v)[j]? = some u->(w.alloc (.cells (qS t v).toArray T)).cell? ((⟨w.1.size,0,none⟩:Addr).add j)=some u:=by
 intro j u o;unfold qS at *;match j,o with
 | 0,h=>cases h;simp[Addr.add,go_sem]
 | 1,h=>cases h;simp[Addr.add,go_sem]
 | 2,h=>cases h;simp[Addr.add,go_sem]
 | 3,h=>cases h;simp[Addr.add,go_sem]
 | 4,h=>cases h;simp[Addr.add,go_sem]
 | 5,h=>cases h;simp[Addr.add,go_sem]
theorem qX7{P:Program}(w:World)(base:Nat)(t ty e:TypeId)(i:TypeInfo)(z:Value)(size bytes:Nat)(ht:P.underlying t=some (.slice e))(hi:P.info? e=some i)(hz:i.zero=some z)
 (J:i.size=size) (X:i.bytes=bytes)
 (v:Value) (n:Nat) (xs:List Value) (A:w.ownsRow base e size v n xs)
 (a:Addr) (m c:Nat) (news:List Value) (hl:news.length=m * size) (o:∀ j u,news[j]? = some u->w.cell? (a.add j)=some u) (G:∀ u∈news,u.oneCell'=true)
 (Y:n+m<=maxLen) (s:(n+m) * bytes<=140737488355328) (hm:0 < m) (v':Value) (w':World) (hr:(Builtin.append_ #[t,t] ty #[v, .slice (some a) m c]).run P w=.ok v' w') :
 v'.ownBlock=v.ownBlock\/v'.ownBlock=some w.1.size:=by
 subst J;subst X;have U:n+m<=9223372036854775807:=by simp only[maxLen]at Y;omega
 rcases A.2 with⟨rfl,rfl⟩ | ⟨g,I,O,rfl,d3,hg,d4,d2,V,Z⟩
 ·have C:=run_append_nil (P:=P) w t ty e i z ht hi hz a m c news hl o (by omega) (by omega) (by have hb:=s;simp only[Nat.zero_add]at hb;omega);rw[C]at hr;injection hr with G h2;subst G;exact .inr rfl
 ·by_cases y:n+m<=I
  ·have R:n * i.size+news.length<=O.size:=by rw[hl,V,<-Nat.add_mul];exact Nat.mul_le_mul_right _ y
   have C:=run_append_room (P:=P) w t ty e i ht hi g n I O hg a m c news hl o G y R;rw[C]at hr;injection hr with G h2;subst G;exact .inl rfl
  ·have holds:∀ j u,xs[j]? = some u->w.cell? ((⟨g,0,none⟩:Addr).add j)=some u:=A.cells (g:=g) rfl;have C:=run_append_grow (P:=P) w t ty e i z ht hi hz ⟨g,0,none⟩ n I xs A.1 holds a m c news hl o (by omega) (by omega) (growslice_fits (by omega) s);rw[C]at hr;injection hr with G h2;subst G;exact .inr rfl
theorem qYa:∀ (ts:List qQ) (us:List Value),(∀ u∈us,u.oneCell'=true)->∀ x∈qZK ts us,x.oneCell'=true
 | [],_,_,x,h=>by simp[qZK]at h
 | _ :: _,[],_,x,h=>by simp[qZK]at h
 | t :: ts,u :: us,ho,x,h=>by
  rw[qZK,List.mem_append]at h;rcases h with h | h
  ·exact nodeC_one t (ho u (by simp)) x h
  ·exact qYa ts us (fun y hy=>ho y (by simp[hy])) x h
theorem qW9:∀ (ts:List qQ) (us:List Value),ts.length=us.length->(qZK ts us).length=ts.length * 6
 | [],_,_=>rfl
 | _ :: _,[],h=>by simp at h
 | t :: ts,u :: us,h=>by
  rw[qZK,lL,qW9 ts us (by simpa using h)];simp only[qS,lO,lZ];omega
theorem vV.one{w:World}{ok:Nat->Prop}:∀ (ts:List qQ) (us:List Value),vV w ok ts us->∀ u∈us,u.oneCell'=true
 | [],[],_,u,h=>by simp at h
 | .mk _ _ _ _ _ _ :: ts,v :: vs,h,u,j=>by
  rcases List.mem_cons.1 j with rfl | j
  ·obtain⟨xs,_,h2,_⟩:=h.1;rcases h2.2 with⟨rfl,_⟩ | ⟨g,o,s,rfl,_⟩ <;> rfl
  ·exact vV.one ts vs h.2 u j
 | [],_ :: _,h,_,_=>h.elim
 | _ :: _,[],h,_,_=>h.elim
theorem qUC{o:Oper}{a:Act}{K:Act->World->Prop}{Q:Exit->Act->World->Prop}{w:World}{lo:Nat}{acc ts:List qQ}{us:List Value}{v:Value}{Y:Addr}{c:Nat}(s x:Operand)
 (ho:o.op=.call { callee:=.builtin .append,args:=#[s,x],argTypes:=#[55,55] }) (hB:zC w lo acc v)
 (hs:a.eval s=v) (hx:a.eval x=.slice (some Y) ts.length c) (hm:0 < ts.length) (y:∀ (j:Nat) (u:Value),(qZK ts us)[j]? = some u->w.cell? (Y.add j)=some u)
 (hn:acc.length+ts.length<=1000000) (hlo:lo<=w.1.size) (hL:vV w (fun g=>lo<=g/\some g≠v.ownBlock) ts us)
 (h:∀ C w',zC w' lo (acc++ts) C->w.grownBy w' v.ownBlock->K (a.put o.dst C) w') :
 o.wp prog a w K Q:=by
 obtain⟨G,h1,h2⟩:=hB;obtain⟨i0,hi,J,X,hz2⟩:=info_parts info57;have I:=vV.length acc G h2;have A:=vV.length ts us hL;have z:=qYa ts us (vV.one ts us hL);have O:=qW9 ts us A;obtain⟨C,w',hr,Z,U,_⟩:=run_append_own (P:=prog) w lo 55 o.type 57 i0 _ 6 80 underlying55 hi J X hz2 rfl (by decide) v acc.length _ h1 Y ts.length c (qZK ts us) O y z (by unfold maxLen;omega) (by omega) hlo;have d2:=qX7 (P:=prog) w lo 55 o.type 57 i0 _ 6 80 underlying55 hi J X hz2 v acc.length _ h1 Y ts.length c (qZK ts us) O y z (by unfold maxLen;omega) (by omega) hm C w' hr;have R:∀ g,g < w.1.size->some g≠v.ownBlock->w'.1[g]? = w.1[g]?:=fun g hg hne=>U.block g hg hne
 have V:∀ g,g < w.1.size->some g≠v.ownBlock->some g≠C.ownBlock:=fun g hg hne e=>by
  rcases d2 with h | h
  ·exact hne (e.trans h)
  ·rw[h]at e;injection e with e;omega
 have hK:=h C w' ⟨G++us,by rw[qJS acc ts G us I,lL];exact Z,
  vV.append acc ts G us (vV.move (fun g hg hok=>⟨⟨hok.1,V g hg hok.2⟩,R g hg hok.2⟩) acc G h2) (vV.move (fun g hg hok=>⟨⟨hok.1,V g hg hok.2⟩,R g hg hok.2⟩) ts us hL)⟩ U
 unfold Oper.wp execOp;simp only[ho,resolve,invoke,builtin,Sem.run_bind,Sem.run_pure,Result.andThen_ok,List.map_toArray,List.map_cons,List.map_nil,hs,hx,hr];exact hK
theorem qPe{o:Oper}{a:Act}{K:Act->World->Prop}{Q:Exit->Act->World->Prop}{w:World}{lo j S:Nat}{acc:List qQ}{t:qQ}{v u:Value}(s x:Operand)
 (ho:o.op=.call { callee:=.builtin .append,args:=#[s,x],argTypes:=#[55,55] }) (hB:zC w lo acc v) (C:zC w j t.kids u) (hlo:lo<=j) (hv:∀ g,v.ownBlock=some g->g < j) (z:j<=w.1.size)
 (hs:a.eval s=v) (hS:w.1.size=S) (A:a.eval x=.slice (some ⟨S,0,none⟩) 1 1) (G:acc.length < 1000000)
 (h:∀ v' w',zC w' lo (acc++[t]) v'->(w.alloc (.cells (qS t u).toArray 57)).grownBy w' v.ownBlock->K (a.put o.dst v') w') :
 o.wp prog a (w.alloc (.cells (qS t u).toArray 57)) K Q:=by
 subst hS;refine qUC s x ho (hB.alloc _) (ts:=[t]) (us:=[u]) hs A (by simp) ?_ (by simp;omega) (by simp;omega) ⟨xZ.move (fun g hg hok=>?_) t u (C.alloc (.cells (qS t u).toArray 57)).lies,trivial⟩ h
 ·simpa[qZK]using qUk w t u 57
 ·have y:some g≠v.ownBlock:=fun e=>by have:=hv g e.symm;omega
  exact⟨⟨by omega,y⟩,rfl⟩
def jY:Obj:=.cells #[.string ⟨#[]⟩, .string ⟨#[]⟩, .int .u64 0, .int .i64 0, .int .i64 0, .slice none 0 0] 57
def qXT(t:Tok):Obj:=.cells #[.int .i64 t.kind, .string ⟨t.text.toArray⟩, .int .u64 t.num, .int .i64 t.line, .int .i64 t.col] 49
def wD(k x:List UInt8)(n ln c:Int)(v:Value):Obj:=.cells #[.string ⟨k.toArray⟩, .string ⟨x.toArray⟩, .int .u64 n, .int .i64 ln, .int .i64 c,v] 57
theorem wH.newO(t:Tok)(w:World):wH w.1.size t (w.alloc (qXT t)):=wH.new t w
structure St(w0:World)(B:Nat)(l:List Tok)(d:Int)(w:World):Prop where
 ps:vP B l d w
 gr:w0.grownBy w (some B)
 res:zI w0.1.size [] [] 0 0 0 (.slice none 0 0) w
 hB:B < w0.1.size
theorem St.start{B:Nat}{l:List Tok}{d:Int}{w:World}(h:vP B l d w):St w B l d (w.alloc jY) :=
 ⟨h.below ((Below.refl _ _).alloc (Nat.le_refl _) _),World.grownBy_alloc _ _ _,zI.new [] [] 0 0 0 (.slice none 0 0) w,h.lt⟩
theorem St.lt{w0:World}{B:Nat}{l:List Tok}{d:Int}{w:World}(h:St w0 B l d w):w0.1.size < w.1.size:=h.res.lt
theorem St.call{w0:World}{B:Nat}{l l':List Tok}{d d':Int}{w w':World}(h:St w0 B l d w)(j:vP B l' d' w')(hg:w.grownBy w' (some B)):St w0 B l' d' w' :=
 ⟨j,qR h.gr hg,h.res.grown hg (by have:=h.hB;simp;omega),h.hB⟩
theorem St.below{w0:World}{B:Nat}{l:List Tok}{d:Int}{w w':World}(h:St w0 B l d w)(hb:Below w.1.size w w'):St w0 B l d w':=h.call (h.ps.below hb) (zV hb _)
theorem St.alloc{w0:World}{B:Nat}{l:List Tok}{d:Int}{w:World}(h:St w0 B l d w)(o:Obj):St w0 B l d (w.alloc o):=h.below ((Below.refl _ _).alloc (Nat.le_refl _) o)
theorem St.drew{w0:World}{B:Nat}{l:List Tok}{d:Int}{w:World}(h:St w0 B l d w):St w0 B l d w.drew:=h.below (Below.refl _ _).drew
theorem St.local{w0:World}{B:Nat}{l:List Tok}{d:Int}{w w':World}{r:Option Nat}(h:St w0 B l d w)(hg:w.grownBy w' r)(hr:∀ k,r=some k->w0.1.size < k):St w0 B l d w':=by
 have hB:=h.hB;have o:=h.lt;refine⟨h.ps.grown hg (fun k e=>by have:=hr k e;omega),?_,h.res.grown hg (fun e=>by have:=hr _ e.symm;omega),hB⟩;exact⟨hg.os.trans h.gr.os,hg.tape.trans h.gr.tape,hg.output.trans h.gr.output,Nat.le_trans h.gr.size hg.size,fun j hj hne=>(hg.block j (by omega) (fun e=>by have:=hr j e.symm;omega)).trans (h.gr.block j hj hne)⟩
theorem St.setN{w0:World}{B:Nat}{l:List Tok}{d:Int}{w:World}(h:St w0 B l d w){k:Nat}(s:w0.1.size < k)(o:Nat)(v:Value):St w0 B l d (w.setCell ⟨k,o,none⟩ v) :=
 h.local (jM w k o v) (fun j e=>by cases e;exact s)
theorem St.pan{w0:World}{B:Nat}{l:List Tok}{d:Int}{w w':World}{e:Ending}{ln c code:Int}(h:St w0 B l d w)(hp:Pan B ln c code w e w'):Pan B ln c code w0 e w':=⟨hp.1,qR h.gr hp.2⟩
theorem St.fin{w0:World}{B:Nat}{l:List Tok}{d:Int}{w:World}{t:qQ}{v:Value}(h:St w0 B l d w)(hb:zC w (w0.1.size+1) t.kids v)(a b c d' e f:Value) :
 qXV B d w0 (.ok t l) (.returned (qZ t v)) (six w w0.1.size a b c d' e f):=ppost_six rfl h.hB h.ps h.gr hb a b c d' e f
theorem six_alloc{w:World}{k:Nat}(h:k < w.1.size)(o:Obj)(a b c d e f:Value):six (w.alloc o) k a b c d e f=(six w k a b c d e f).alloc o:=by
 unfold six;rw[World.setCell_alloc_past _ _ _ _ h,World.setCell_alloc_past _ _ _ _ (by simpa using h),World.setCell_alloc_past _ _ _ _ (by simpa using h),World.setCell_alloc_past _ _ _ _ (by simpa using h),World.setCell_alloc_past _ _ _ _ (by simpa using h),World.setCell_alloc_past _ _ _ _ (by simpa using h)]
theorem St.finA{w0:World}{B:Nat}{l:List Tok}{d:Int}{w:World}{t:qQ}{v:Value}{o:Obj}(h:St w0 B l d (w.alloc o))(j:w0.1.size < w.1.size)(hb:zC (w.alloc o) (w0.1.size+1) t.kids v)(a b c d' e f:Value) :
 qXV B d w0 (.ok t l) (.returned (qZ t v)) ((six w w0.1.size a b c d' e f).alloc o):=by
 rw[<-six_alloc j];exact h.fin hb a b c d' e f
structure Nd(N:Nat)(k x:List UInt8)(n ln c:Int)(v:Value)(ts:List qQ)(w:World):Prop where
 nd:zI N k x n ln c v w
 bd:zC w (N+1) ts v
theorem Nd.lt{N:Nat}{k x:List UInt8}{n ln c:Int}{v:Value}{ts:List qQ}{w:World}(h:Nd N k x n ln c v ts w):N < w.1.size:=h.nd.lt
theorem Nd.grown{N:Nat}{k x:List UInt8}{n ln c:Int}{v:Value}{ts:List qQ}{w w':World}{r:Option Nat}(h:Nd N k x n ln c v ts w)(hg:w.grownBy w' r)(hr:∀ j,r=some j->j < N\/w.1.size<=j):Nd N k x n ln c v ts w' :=
 ⟨h.nd.grown hg (fun e=>by have:=hr N e.symm;have:=h.lt;omega),h.bd.grown hg (fun j e=>by have:=hr j e;omega)⟩
theorem Nd.call{N B:Nat}{k x:List UInt8}{n ln c:Int}{v:Value}{ts:List qQ}{w w':World}(h:Nd N k x n ln c v ts w)(hg:w.grownBy w' (some B))(hB:B < N):Nd N k x n ln c v ts w':=h.grown hg (fun j e=>by cases e;exact .inl hB)
theorem Nd.below{N:Nat}{k x:List UInt8}{n ln c:Int}{v:Value}{ts:List qQ}{w w':World}(h:Nd N k x n ln c v ts w)(hb:Below w.1.size w w'):Nd N k x n ln c v ts w':=h.grown (zV hb none) (fun _ e=>by cases e)
theorem Nd.drew{N:Nat}{k x:List UInt8}{n ln c:Int}{v:Value}{ts:List qQ}{w:World}(h:Nd N k x n ln c v ts w):Nd N k x n ln c v ts w.drew:=h.below (Below.refl _ _).drew
theorem Nd.new(k x:List UInt8)(n ln c:Int)(w:World):Nd w.1.size k x n ln c (.slice none 0 0) [] (w.alloc (wD k x n ln c (.slice none 0 0))):=⟨zI.new k x n ln c _ w,zC.nil _ _⟩
theorem qXe{t:Tok}{r:List Tok}(h:qZY (t :: r))(j:¬t.kind=3):t.text≠[]:=fun e=>by
 cases r with
 | nil=>exact j h.1
 | cons u r=>exact h.1 e
theorem qV7(d:Int):vM 109 (fun p=>#[p]) d wQ:=by
 intro B l w h _;obtain⟨t,r,rfl⟩:=h.ends.ne;have O:=St.start h;have H:=hI (kY B t r d _ O.ps);have s:=hI O;have Z:=yW;clear h O;unfold jY at *;go_enter func109,ntmps109
 go_wp2_with fail
 refine(H.o).mono ?_;rintro e V ⟨rfl,hb⟩;have y:=s.o.below hb;clear hb H s;unfold vT xA;by_cases A:t.kind=1
 ·have C:(t.kind == 1)=true:=by simpa using A
  have G:=hI (vB B t r d V y.ps (qXe y.ps.ends (by omega)));have j:wQ (t :: r)=.ok (.mk zD [] t.num t.line t.col []) r:=by simp[wQ,jV,hdT,PR.bind,C]
  have I:=hI j;have s:=hI y;clear j A y;go_wp2_with fail
  refine(G.o).mono ?_;rintro e w2 ⟨rfl,hP2,hg2⟩;have X:=hI (jI t ⟨#[110,117,109]⟩ ⟨#[]⟩);have U:=hI ((s.o.call hP2 hg2).alloc (qXT t));have Y:=hI (wH.newO t w2);unfold qXT vT xA at *;clear hP2 hg2 G s;go_wp2_with fail
  refine(X.o _).mono ?_;rintro e w3 ⟨rfl,hb3⟩;have z:=U.o.below hb3;have R:=Y.o.below hb3;have J:=z.lt;have hs2:=R.lt;have q2:=R.c2;have⟨r0,r1,r2,r3,r4,r5,_⟩:=z.res.a;have⟨g0,g1,g2,g3,g4,g5,_⟩:=z.res.b;have s:=hI z;clear X R z hb3 Y U;go_wp2
  refine bodyPost_ret (v:=qZ (.mk zD [] t.num t.line t.col []) (.slice none 0 0)) (by simp[results,results109,go_sem,qZ,qQ.kind,qQ.text,qQ.num,qQ.line,qQ.col,zD, *]) rfl ?_;rw[I.o];exact(s.o.alloc _).finA J (zC.nil _ _) _ _ _ _ _ _
 ·have C:(t.kind == 1)=false:=by simpa using A
  have G:=hI (qQ8 B t r d V y.ps);have j:wQ (t :: r)=.bad t.line t.col 30:=by simp[wQ,jV,hdT,PR.bind,A]
  have I:=hI j;have s:=hI y;clear j A y;go_wp2_with fail
  refine(G.o).mono ?_;rintro e w2 ⟨rfl,hp⟩;refine⟨rfl,?_⟩;rw[I.o];exact s.o.pan ⟨rfl,hp⟩
theorem vP.deep{B:Nat}{l:List Tok}{d:Int}{w:World}(h:vP B l d w){d':Int}(hd:0<=d'/\d'<=60):vP B l d' (w.setCell ⟨B,1,none⟩ (.int .i64 d')):=by
 obtain⟨lo,T,o,c,h⟩:=h;have y:=h.c0;have s:=h.c1;have j:=h.f0;have g1:=h.f1;have hg:=jM w B 1 (.int .i64 d');have hT:=h.hT;refine⟨lo,T,o,c,by simp[go_sem, *],by simp[go_sem, *],by simp[go_sem, *],by simp[go_sem, *],fun k hk=>(h.row k hk).grown hg (by simp;omega),h.ends,hT,h.hc,h.hm,h.hl,h.ht,hd,h.tab.under ?_,h.hlo⟩;exact(Below.refl _ _).grown hg (by have:=h.lt;have:=h.hlo;omega) (fun k e=>by cases e;exact h.hlo)
theorem vP.c1{B:Nat}{l:List Tok}{d:Int}{w:World}(h:vP B l d w):w.cell? ⟨B,1,none⟩=some (.int .i64 d)/\w.frozen? ⟨B,1,none⟩=false/\0<=d/\d<=60:=by
 obtain⟨lo,T,o,c,h⟩:=h;exact⟨h.c1,h.f1,h.hd⟩
theorem zC.shape{w:World}{lo:Nat}{ts:List qQ}{v:Value}(h:zC w lo ts v):∃ p n c,v=.slice p n c:=by
 obtain⟨y,o,_⟩:=h;rcases o.2 with⟨rfl,_⟩ | ⟨g,j,s,rfl,_⟩
 ·exact⟨_,_,_,rfl⟩
 ·exact⟨_,_,_,rfl⟩
theorem qXV.cases{B:Nat}{d:Int}{w:World}{p:PR qQ}{e:Ending}{w':World}(h:qXV B d w p e w')(ho:p≠.out) :
 (∃ t l q n c,p=.ok t l/\e=.returned (qZ t (.slice q n c))/\zC w' w.1.size t.kids (.slice q n c)/\vP B l d w'/\w.grownBy w' (some B)) \/
 ∃ ln c code,p=.bad ln c code/\e=.panicked [{ v:=qXo ln c code,recovered:=false }]/\w.grownBy w' (some B):=by
 cases p with
 | ok t l =>
  obtain⟨v,rfl,hb,j,hg⟩:=h;obtain⟨q,n,c,rfl⟩:=hb.shape;exact .inl ⟨t,l,q,n,c,rfl,rfl,hb,j,hg⟩
 | bad ln c code=>exact .inr ⟨ln,c,code,rfl,h.1,h.2⟩
 | out=>exact absurd rfl ho
theorem wT(g:Nat)(d:Int)(p:Int->List Tok->PR qQ)(hf:∀ (args:Array Value) (w:World),(callFunc g args).run prog w=.ok (.enter g args) w)(hp:vM g (fun p=>#[p]) (d+1) (p (d+1))) :
 ∀ (B:Nat) (l:List Tok) (w:World),vP B l d w->xX d p l≠.out->Calls prog 106 #[.pointer (some ⟨B,0,none⟩), .func (.func g) #[.pointer (some ⟨B,0,none⟩)] #[]] w (qXV B d w (xX d p l)):=by
 intro B l w h y;obtain⟨t,r,rfl⟩:=h.ends.ne;have z:=St.start h;obtain⟨c1,f1,d4,d5⟩:=z.ps.c1;have HS:=hI z;have U:=z.hB;have d8:=z.lt;by_cases hd:d=60
 ·have s:xX d p (t :: r)=.bad t.line t.col 31:=by simp[xX,hd,qWQ,hdT]
  have H:=hI (qPy B t r d 31 _ z.ps);have G:=hI s;subst hd;clear h z s y;unfold jY at *;go_enter func106,ntmps106
  go_wp2_with fail
  refine(H.o).mono ?_;rintro e w2 ⟨rfl,Y⟩;refine⟨rfl,?_⟩;rw[G.o];exact HS.o.pan ⟨rfl,Y⟩
 ·have s:xX d p (t :: r)=p (d+1) (t :: r):=by simp[xX,hd]
  rw[s]at y;have d7:(d == 60)=false:=by simpa using hd
  have R:=z.ps.deep (d':=d+1) (by omega);have V:=z.call R (jM _ _ _ _);have hw0:=World.setCell_alloc_past (w:=w) jY B 1 (.int .i64 (d+1)) U;rw[hw0]at R V;have H:=hI (hp B (t :: r) _ R y);have G:=hI s;have HF:=hI hf;have A:=hI V;have hw:wrap64 (d+1)=d+1:=by unfold wrap64;omega
  have C:=hI y;clear h z s y hd V R HS hf hp hw0;unfold jY at *;have hf:=HF.o;go_enter func106,ntmps106
  go_wp2_with fail
  refine(H.o).mono ?_;intro e w2 Z;rcases Z.cases C.o with⟨t2,l2,q,n,c,O,rfl,hb,I,hg⟩ | ⟨ln,c,code,O,rfl,hg⟩
  ·have J:=A.o.call I hg;obtain⟨d3,d6,_,_⟩:=I.c1;have HB:=hI hb;have HE:=hI (G.o.trans O);have S3:=hI (J.call (I.deep (d':=d) (by omega)) (jM _ _ _ _));have hs2:=J.lt;have d2:=I.lt;have hr:=J.res;have⟨r0,r1,r2,r3,r4,r5,_⟩:=hr.a;have⟨g0,g1,g2,g3,g4,g5,_⟩:=hr.b;clear hr J I hg hb O H A hf HF Z C G c1 f1;unfold qZ;go_wp2_with fail
   refine bodyPost_ret (v:=qZ t2 (.slice q n c)) (by simp[results,results106,go_sem,qZ, *]) rfl ?_;rw[HE.o];have X:zC w2 (w.1.size+1) t2.kids (.slice q n c):=by simpa using HB.o
   exact(S3.o.alloc _).finA (by simpa using hs2) ((X.grown (jM _ _ _ _) (fun j e=>by cases e;exact .inl (by omega))).alloc _) _ _ _ _ _ _
  ·refine⟨rfl,?_⟩;rw[G.o,O];exact A.o.pan ⟨rfl,hg⟩
def aggN(k x:List UInt8)(m ln c:Int)(q:Option Addr)(vn vc:Nat):Value:=.agg #[.string ⟨k.toArray⟩, .string ⟨x.toArray⟩, .int .u64 m, .int .i64 ln, .int .i64 c, .slice q vn vc]
theorem jF(w:World):Calls prog 92 #[.bool true] w fun e w'=>e=.returned (.tuple #[])/\w=w':=by
 go_enter func92,ntmps92
 go_wp2
 go_end0;exact⟨rfl,rfl⟩
def qJl(m:Int)(vn:Nat)(lo hi:Int):Bool:=m == 0 && decide (lo<=vn) && decide ((vn:Int)<=hi)
theorem qYt(k x:List UInt8)(m ln c:Int)(q:Option Addr)(j o:Nat)(lo hi:Int)(w:World) :
 Calls prog 110 #[aggN k x m ln c q j o, .int .i64 lo, .int .i64 hi] w fun e w'=>e=.returned (.bool (qJl m j lo hi))/\Below w.1.size w w':=by
 unfold aggN qJl;cases s:(m == 0) <;> cases h2:decide (lo<=(j:Int)) <;> cases h3:decide ((j:Int)<=hi) <;>
 ·go_enter func110,ntmps110
  go_wp2
  go_ret;exact⟨rfl,(Below.refl _ _).alloc (Nat.le_refl _) _⟩
def bareB(x:List UInt8)(m:Int)(vn:Nat)(lo hi:Int):Bool:=x == [] && qJl m vn lo hi
theorem bare_any(k x:List UInt8)(m ln c:Int)(q:Option Addr)(j s:Nat)(lo hi:Int)(w:World) :
 Calls prog 93 #[aggN k x m ln c q j s, .int .i64 lo, .int .i64 hi] w fun e w'=>e=.returned (.bool (bareB x m j lo hi))/\Below w.1.size w w':=by
 have H:=hI (qYt k x m ln c q j s lo hi (w.alloc (.cells #[.string ⟨k.toArray⟩, .string ⟨x.toArray⟩, .int .u64 m, .int .i64 ln, .int .i64 c, .slice q j s] 57)));unfold aggN at *;unfold bareB;have hb:=(Below.refl w.1.size w).alloc (Nat.le_refl _) (.cells #[.string ⟨k.toArray⟩, .string ⟨x.toArray⟩, .int .u64 m, .int .i64 ln, .int .i64 c, .slice q j s] 57);generalize qJl m j lo hi=tb at *;cases A:(x == [])
 ·go_enter func93,ntmps93
  go_wp2_with fail
  go_ret;exact⟨rfl,hb⟩
 ·go_enter func93,ntmps93
  go_wp2_with fail
  refine(H.o).mono ?_;rintro e z ⟨rfl,y⟩;go_wp2
  go_ret;exact⟨rfl,hb.trans (y.mono hb.size)⟩
def qPv(c:Int):Bool:=decide (48<=c/\c<=57)
def qQ0:Nat->List UInt8->Bool
 | _,[]=>true
 | i,b :: r=>(qZx b.toNat || (qPv b.toNat && !(i == 0))) && qQ0 (i+1) r
def jH(l:List UInt8):Bool:=qQ0 0 l && (!(l == []) && !qWm l)
theorem scan_hit{l:List UInt8}{k:Nat}{b:UInt8}(h:l[k]? = some b)(hb:(qZx b.toNat || (qPv b.toNat && !(k == 0)))=true):qQ0 k (l.drop k)=qQ0 (k+1) (l.drop (k+1)):=by
 obtain⟨j,rfl⟩:=List.getElem?_eq_some_iff.1 h;rw[List.drop_eq_getElem_cons j,qQ0,hb,bT]
theorem scan_miss{l:List UInt8}{k:Nat}{b:UInt8}(h:l[k]? = some b)(hb:(qZx b.toNat || (qPv b.toNat && !(k == 0)))=false):qQ0 k (l.drop k)=false:=by
 obtain⟨j,rfl⟩:=List.getElem?_eq_some_iff.1 h;rw[List.drop_eq_getElem_cons j,qQ0,hb,bA]
theorem byte_cls(b:Int)(o:0<=b)(j:b<=255):(0<=b/\b<=47)\/(48<=b/\b<=57)\/(58<=b/\b<=64)\/(65<=b/\b<=90)\/(91<=b/\b<=94)\/(95<=b/\b<=95)\/(96<=b/\b<=96)\/(97<=b/\b<=122)\/(123<=b/\b<=255):=by omega
theorem byte_at(s:ByteArray)(k:Nat)(h:k < s.size):s.data.toList[k]? = some s[k]:=by
 rw[List.getElem?_eq_getElem (by rw[<-qQQ];exact h)];cases s;rfl
theorem isName_any(s:ByteArray)(w:World)(hk:Keys w)(hs:s.size<=1000000) :
 Calls prog 128 #[.string s] w fun e w'=>e=.returned (.bool (jH s.data.toList))/\w=w':=by
 have HK:=hI (key_any s w hk);have HL:=hI (qQQ s);have HS:=hI (qU6 [] s);clear hk;go_enter func128,ntmps128
 go_wp2_with fail
 go_loop [9] (fun i=>∃ k:Nat,k<=s.size/\i=.int .i64 k/\qQ0 k (s.data.toList.drop k)=qQ0 0 s.data.toList) (fun i=>s.size - (intOf i).toNat)
 case atStart=>exact⟨0,Nat.zero_le _,rfl,rfl⟩
 case round =>
  obtain⟨k,d4,rfl,hr⟩:=hrel;have I:=hI hr;clear hr;by_cases Y:k < s.size
  ·have G:=hI (scan_hit (byte_at s k Y));have hm:=hI (scan_miss (byte_at s k Y));have C:(0:Int)<=(s[k].toNat:Int):=by omega
   have A:(s[k].toNat:Int)<=255:=by have:=s[k].toNat_lt;omega
   have hc:=byte_cls _ C A;have U:qZx (s[k].toNat:Int)=(decide (97<=(s[k].toNat:Int)) && decide ((s[k].toNat:Int)<=122) || (decide (65<=(s[k].toNat:Int)) && decide ((s[k].toNat:Int)<=90)) || ((s[k].toNat:Int) == 95)):=by
    unfold qZx;rw[Bool.eq_iff_iff];simp;omega
   have V:qPv (s[k].toNat:Int)=(decide (48<=(s[k].toNat:Int)) && decide ((s[k].toNat:Int)<=57)):=by
    unfold qPv;rw[Bool.eq_iff_iff];simp
   rw[U,V]at G hm;clear U V;generalize hB:(s[k].toNat:Int)=b at *;by_cases z:k=0
   ·have d3:((k:Int) == 0)=true:=by simp[z]
    have y:(k == 0)=true:=by simp[z]
    rcases hc with hc | hc | hc | hc | hc | hc | hc | hc | hc
    ·have c1:decide (97<=b)=false:=by simp;omega
     have c2:decide (b<=122)=true:=by simp;omega
     have c3:decide (65<=b)=false:=by simp;omega
     have c4:decide (b<=90)=true:=by simp;omega
     have c5:(b == 95)=false:=by simp;omega
     have c6:decide (48<=b)=false:=by simp;omega
     have c7:decide (b<=57)=true:=by simp;omega
     have j:=hI (hm.o (by rw[c1,c2,c3,c4,c5,c6,c7,y];rfl));clear G hm hc z C A;go_wp2_with fail
     go_ret;refine⟨?_,rfl⟩;unfold jH;rw[<-I.o,j.o];rfl
    ·have c1:decide (97<=b)=false:=by simp;omega
     have c2:decide (b<=122)=true:=by simp;omega
     have c3:decide (65<=b)=false:=by simp;omega
     have c4:decide (b<=90)=true:=by simp;omega
     have c5:(b == 95)=false:=by simp;omega
     have c6:decide (48<=b)=true:=by simp;omega
     have c7:decide (b<=57)=true:=by simp;omega
     have j:=hI (hm.o (by rw[c1,c2,c3,c4,c5,c6,c7,y];rfl));clear G hm hc z C A;go_wp2_with fail
     go_ret;refine⟨?_,rfl⟩;unfold jH;rw[<-I.o,j.o];rfl
    ·have c1:decide (97<=b)=false:=by simp;omega
     have c2:decide (b<=122)=true:=by simp;omega
     have c3:decide (65<=b)=false:=by simp;omega
     have c4:decide (b<=90)=true:=by simp;omega
     have c5:(b == 95)=false:=by simp;omega
     have c6:decide (48<=b)=true:=by simp;omega
     have c7:decide (b<=57)=false:=by simp;omega
     have j:=hI (hm.o (by rw[c1,c2,c3,c4,c5,c6,c7,y];rfl));clear G hm hc z C A;go_wp2_with fail
     go_ret;refine⟨?_,rfl⟩;unfold jH;rw[<-I.o,j.o];rfl
    ·have c1:decide (97<=b)=false:=by simp;omega
     have c2:decide (b<=122)=true:=by simp;omega
     have c3:decide (65<=b)=true:=by simp;omega
     have c4:decide (b<=90)=true:=by simp;omega
     have c5:(b == 95)=false:=by simp;omega
     have c6:decide (48<=b)=true:=by simp;omega
     have c7:decide (b<=57)=false:=by simp;omega
     have j:=hI (G.o (by rw[c1,c2,c3,c4,c5,c6,c7,y];rfl));clear G hm hc z C A;go_wp2_with fail
     go_round
     case rel=>exact⟨k+1,by omega,by go_num,by rw[<-j.o];exact I.o⟩
     case measure=>simp[intOf];omega
    ·have c1:decide (97<=b)=false:=by simp;omega
     have c2:decide (b<=122)=true:=by simp;omega
     have c3:decide (65<=b)=true:=by simp;omega
     have c4:decide (b<=90)=false:=by simp;omega
     have c5:(b == 95)=false:=by simp;omega
     have c6:decide (48<=b)=true:=by simp;omega
     have c7:decide (b<=57)=false:=by simp;omega
     have j:=hI (hm.o (by rw[c1,c2,c3,c4,c5,c6,c7,y];rfl));clear G hm hc z C A;go_wp2_with fail
     go_ret;refine⟨?_,rfl⟩;unfold jH;rw[<-I.o,j.o];rfl
    ·have c1:decide (97<=b)=false:=by simp;omega
     have c2:decide (b<=122)=true:=by simp;omega
     have c3:decide (65<=b)=true:=by simp;omega
     have c4:decide (b<=90)=false:=by simp;omega
     have c5:(b == 95)=true:=by simp;omega
     have c6:decide (48<=b)=true:=by simp;omega
     have c7:decide (b<=57)=false:=by simp;omega
     have j:=hI (G.o (by rw[c1,c2,c3,c4,c5,c6,c7,y];rfl));clear G hm hc z C A;go_wp2_with fail
     go_round
     case rel=>exact⟨k+1,by omega,by go_num,by rw[<-j.o];exact I.o⟩
     case measure=>simp[intOf];omega
    ·have c1:decide (97<=b)=false:=by simp;omega
     have c2:decide (b<=122)=true:=by simp;omega
     have c3:decide (65<=b)=true:=by simp;omega
     have c4:decide (b<=90)=false:=by simp;omega
     have c5:(b == 95)=false:=by simp;omega
     have c6:decide (48<=b)=true:=by simp;omega
     have c7:decide (b<=57)=false:=by simp;omega
     have j:=hI (hm.o (by rw[c1,c2,c3,c4,c5,c6,c7,y];rfl));clear G hm hc z C A;go_wp2_with fail
     go_ret;refine⟨?_,rfl⟩;unfold jH;rw[<-I.o,j.o];rfl
    ·have c1:decide (97<=b)=true:=by simp;omega
     have c2:decide (b<=122)=true:=by simp;omega
     have c3:decide (65<=b)=true:=by simp;omega
     have c4:decide (b<=90)=false:=by simp;omega
     have c5:(b == 95)=false:=by simp;omega
     have c6:decide (48<=b)=true:=by simp;omega
     have c7:decide (b<=57)=false:=by simp;omega
     have j:=hI (G.o (by rw[c1,c2,c3,c4,c5,c6,c7,y];rfl));clear G hm hc z C A;go_wp2_with fail
     go_round
     case rel=>exact⟨k+1,by omega,by go_num,by rw[<-j.o];exact I.o⟩
     case measure=>simp[intOf];omega
    ·have c1:decide (97<=b)=true:=by simp;omega
     have c2:decide (b<=122)=false:=by simp;omega
     have c3:decide (65<=b)=true:=by simp;omega
     have c4:decide (b<=90)=false:=by simp;omega
     have c5:(b == 95)=false:=by simp;omega
     have c6:decide (48<=b)=true:=by simp;omega
     have c7:decide (b<=57)=false:=by simp;omega
     have j:=hI (hm.o (by rw[c1,c2,c3,c4,c5,c6,c7,y];rfl));clear G hm hc z C A;go_wp2_with fail
     go_ret;refine⟨?_,rfl⟩;unfold jH;rw[<-I.o,j.o];rfl
   ·have d3:((k:Int) == 0)=false:=by simp;omega
    have y:(k == 0)=false:=by simpa using z
    rcases hc with hc | hc | hc | hc | hc | hc | hc | hc | hc
    ·have c1:decide (97<=b)=false:=by simp;omega
     have c2:decide (b<=122)=true:=by simp;omega
     have c3:decide (65<=b)=false:=by simp;omega
     have c4:decide (b<=90)=true:=by simp;omega
     have c5:(b == 95)=false:=by simp;omega
     have c6:decide (48<=b)=false:=by simp;omega
     have c7:decide (b<=57)=true:=by simp;omega
     have j:=hI (hm.o (by rw[c1,c2,c3,c4,c5,c6,c7,y];rfl));clear G hm hc z C A;go_wp2_with fail
     go_ret;refine⟨?_,rfl⟩;unfold jH;rw[<-I.o,j.o];rfl
    ·have c1:decide (97<=b)=false:=by simp;omega
     have c2:decide (b<=122)=true:=by simp;omega
     have c3:decide (65<=b)=false:=by simp;omega
     have c4:decide (b<=90)=true:=by simp;omega
     have c5:(b == 95)=false:=by simp;omega
     have c6:decide (48<=b)=true:=by simp;omega
     have c7:decide (b<=57)=true:=by simp;omega
     have j:=hI (G.o (by rw[c1,c2,c3,c4,c5,c6,c7,y];rfl));clear G hm hc z C A;go_wp2_with fail
     go_round
     case rel=>exact⟨k+1,by omega,by go_num,by rw[<-j.o];exact I.o⟩
     case measure=>simp[intOf];omega
    ·have c1:decide (97<=b)=false:=by simp;omega
     have c2:decide (b<=122)=true:=by simp;omega
     have c3:decide (65<=b)=false:=by simp;omega
     have c4:decide (b<=90)=true:=by simp;omega
     have c5:(b == 95)=false:=by simp;omega
     have c6:decide (48<=b)=true:=by simp;omega
     have c7:decide (b<=57)=false:=by simp;omega
     have j:=hI (hm.o (by rw[c1,c2,c3,c4,c5,c6,c7,y];rfl));clear G hm hc z C A;go_wp2_with fail
     go_ret;refine⟨?_,rfl⟩;unfold jH;rw[<-I.o,j.o];rfl
    ·have c1:decide (97<=b)=false:=by simp;omega
     have c2:decide (b<=122)=true:=by simp;omega
     have c3:decide (65<=b)=true:=by simp;omega
     have c4:decide (b<=90)=true:=by simp;omega
     have c5:(b == 95)=false:=by simp;omega
     have c6:decide (48<=b)=true:=by simp;omega
     have c7:decide (b<=57)=false:=by simp;omega
     have j:=hI (G.o (by rw[c1,c2,c3,c4,c5,c6,c7,y];rfl));clear G hm hc z C A;go_wp2_with fail
     go_round
     case rel=>exact⟨k+1,by omega,by go_num,by rw[<-j.o];exact I.o⟩
     case measure=>simp[intOf];omega
    ·have c1:decide (97<=b)=false:=by simp;omega
     have c2:decide (b<=122)=true:=by simp;omega
     have c3:decide (65<=b)=true:=by simp;omega
     have c4:decide (b<=90)=false:=by simp;omega
     have c5:(b == 95)=false:=by simp;omega
     have c6:decide (48<=b)=true:=by simp;omega
     have c7:decide (b<=57)=false:=by simp;omega
     have j:=hI (hm.o (by rw[c1,c2,c3,c4,c5,c6,c7,y];rfl));clear G hm hc z C A;go_wp2_with fail
     go_ret;refine⟨?_,rfl⟩;unfold jH;rw[<-I.o,j.o];rfl
    ·have c1:decide (97<=b)=false:=by simp;omega
     have c2:decide (b<=122)=true:=by simp;omega
     have c3:decide (65<=b)=true:=by simp;omega
     have c4:decide (b<=90)=false:=by simp;omega
     have c5:(b == 95)=true:=by simp;omega
     have c6:decide (48<=b)=true:=by simp;omega
     have c7:decide (b<=57)=false:=by simp;omega
     have j:=hI (G.o (by rw[c1,c2,c3,c4,c5,c6,c7,y];rfl));clear G hm hc z C A;go_wp2_with fail
     go_round
     case rel=>exact⟨k+1,by omega,by go_num,by rw[<-j.o];exact I.o⟩
     case measure=>simp[intOf];omega
    ·have c1:decide (97<=b)=false:=by simp;omega
     have c2:decide (b<=122)=true:=by simp;omega
     have c3:decide (65<=b)=true:=by simp;omega
     have c4:decide (b<=90)=false:=by simp;omega
     have c5:(b == 95)=false:=by simp;omega
     have c6:decide (48<=b)=true:=by simp;omega
     have c7:decide (b<=57)=false:=by simp;omega
     have j:=hI (hm.o (by rw[c1,c2,c3,c4,c5,c6,c7,y];rfl));clear G hm hc z C A;go_wp2_with fail
     go_ret;refine⟨?_,rfl⟩;unfold jH;rw[<-I.o,j.o];rfl
    ·have c1:decide (97<=b)=true:=by simp;omega
     have c2:decide (b<=122)=true:=by simp;omega
     have c3:decide (65<=b)=true:=by simp;omega
     have c4:decide (b<=90)=false:=by simp;omega
     have c5:(b == 95)=false:=by simp;omega
     have c6:decide (48<=b)=true:=by simp;omega
     have c7:decide (b<=57)=false:=by simp;omega
     have j:=hI (G.o (by rw[c1,c2,c3,c4,c5,c6,c7,y];rfl));clear G hm hc z C A;go_wp2_with fail
     go_round
     case rel=>exact⟨k+1,by omega,by go_num,by rw[<-j.o];exact I.o⟩
     case measure=>simp[intOf];omega
    ·have c1:decide (97<=b)=true:=by simp;omega
     have c2:decide (b<=122)=false:=by simp;omega
     have c3:decide (65<=b)=true:=by simp;omega
     have c4:decide (b<=90)=false:=by simp;omega
     have c5:(b == 95)=false:=by simp;omega
     have c6:decide (48<=b)=true:=by simp;omega
     have c7:decide (b<=57)=false:=by simp;omega
     have j:=hI (hm.o (by rw[c1,c2,c3,c4,c5,c6,c7,y];rfl));clear G hm hc z C A;go_wp2_with fail
     go_ret;refine⟨?_,rfl⟩;unfold jH;rw[<-I.o,j.o];rfl
  ·have R:qQ0 0 s.data.toList=true:=by
    rw[<-I.o,List.drop_eq_nil_of_le (by rw[<-HL.o];omega),qQ0]
   have HE:=hI R;clear R;have X:=hI (Lib.toList_data s);by_cases J:s.data=#[]
   ·have d2:s.toList.isEmpty=true:=by rw[X.o,J];rfl
    have O:jH s.data.toList=false:=by unfold jH;rw[J];rfl
    have Z:=hI O;clear J O;go_wp2_with fail
    go_ret;refine⟨?_,rfl⟩;rw[Z.o];rfl
   ·have d2:s.toList.isEmpty=false:=by
     rw[X.o];cases h:s.data.toList with
     | nil=>exact absurd (by simpa using h) J
     | cons a r=>rfl
    have O:jH s.data.toList=!qWm s.data.toList:=by
     unfold jH;rw[HE.o];have:(s.data.toList == [])=false:=by simpa using J
     rw[this];rfl
    have Z:=hI O;clear J O;go_wp2_with fail
    refine(HK.o).mono ?_;rintro e w' ⟨rfl,rfl⟩;go_wp2
    go_ret;refine⟨?_,rfl⟩;rw[Z.o];rfl
end Go.Proofs.YtiajhekdhhhghaaGreatDoor
namespace Go.Proofs
open Go.Shelf
def Tryz.lays283_ren:Go.Shelf.Ren:=⟨fun | 283=>166 | n=>n,fun | 3=>3 | 9=>9 | 4=>4 | n=>n,fun | n=>n⟩
theorem Tryz.lays283:Go.Proofs.Lays.n283 Tryz.prog Tryz.lays283_ren:={
 mixed:=by kernel_rfl
 f283:=Tryz.func166.trans (congrArg some (by kernel_rfl))
 t3:=Tryz.underlying3
 a3:=Tryz.isAgg3
 z3:=Tryz.sizeOf3
 v3:=Tryz.zeroValue3
 t4:=Tryz.underlying4
 a4:=Tryz.isAgg4
 z4:=Tryz.sizeOf4
 v4:=Tryz.zeroValue4
 t9:=Tryz.underlying9
 a9:=Tryz.isAgg9
 z9:=Tryz.sizeOf9
 v9:=Tryz.zeroValue9 }
open Go.Lib in
theorem Tryz.internal_strconv_small(i:Nat)(h:i < 100)(w:World) :
 Calls Tryz.prog 166 #[.int .i64 i] w fun e w'=>e=.returned (.string ⟨(Lib.decDigits i).toArray⟩)/\w'=w:=Any.internal_strconv_small Tryz.lays283 i h w
def Tryz.laysM284_ren:Go.Shelf.Ren:=⟨fun | 284=>167 | 129=>176 | 317=>175 | 318=>177 | n=>n,fun | 53=>47 | 3=>3 | 212=>194 | 0=>0 | 4=>4 | 46=>101 | 5=>5 | 9=>9 | n=>n,fun | 17=>7 | n=>n⟩
theorem Tryz.laysM284:Go.Proofs.LaysM.n284 Tryz.prog Tryz.laysM284_ren:={
 mixed:=by kernel_rfl
 f129:=Tryz.func176.trans (congrArg some (by kernel_rfl))
 f284:=Tryz.func167.trans (congrArg some (by kernel_rfl))
 f317:=Tryz.func175.trans (congrArg some (by kernel_rfl))
 f318:=Tryz.func177.trans (congrArg some (by kernel_rfl))
 t0:=Tryz.underlying0
 a0:=Tryz.isAgg0
 z0:=Tryz.sizeOf0
 v0:=Tryz.zeroValue0
 t3:=Tryz.underlying3
 a3:=Tryz.isAgg3
 z3:=Tryz.sizeOf3
 v3:=Tryz.zeroValue3
 t4:=Tryz.underlying4
 a4:=Tryz.isAgg4
 z4:=Tryz.sizeOf4
 v4:=Tryz.zeroValue4
 t5:=Tryz.underlying5
 a5:=Tryz.isAgg5
 z5:=Tryz.sizeOf5
 v5:=Tryz.zeroValue5
 t9:=Tryz.underlying9
 a9:=Tryz.isAgg9
 z9:=Tryz.sizeOf9
 v9:=Tryz.zeroValue9
 t46:=Tryz.underlying101
 a46:=Tryz.isAgg101
 z46:=Tryz.sizeOf101
 v46:=Tryz.zeroValue101
 t53:=Tryz.underlying47
 a53:=Tryz.isAgg47
 z53:=Tryz.sizeOf47
 v53:=Tryz.zeroValue47
 t212:=Tryz.underlying194
 a212:=Tryz.isAgg194
 z212:=Tryz.sizeOf194
 v212:=Tryz.zeroValue194
 g17:=by kernel_rfl
 i0:=by kernel_rfl
 i3:=by kernel_rfl
 i4:=by kernel_rfl
 i5:=by kernel_rfl
 i9:=by kernel_rfl
 i46:=by kernel_rfl
 i53:=by kernel_rfl
 i212:=by kernel_rfl
 m17:=by kernel_rfl }
open Go.Lib in
theorem Tryz.internal_strconv_numDigits(u:Nat)(h1:1<=u)(h2:u < 18446744073709551616)(w:World)(htab:Lib.TabIs Tryz.prog w "internal/strconv.uint64pow10" .u64 Lib.pow10Tab) :
 Calls Tryz.prog 167 #[.int .u64 u] w fun e w'=>e=.returned (.int .i64 (Lib.nDigits u))/\w'=w:=Any.internal_strconv_numDigits Tryz.laysM284 u h1 h2 w htab
end Go.Proofs
namespace Go.Proofs.YtiajhekdhhhghaaGreatDoor
open Tryz
open Go Go.RowKit Go.Sort Go.Lib
def Pow(w:World):Prop:=Lib.TabIs prog w "internal/strconv.uint64pow10" .u64 Lib.pow10Tab
theorem qP0:prog.globalNamed "internal/strconv.uint64pow10"=some 7:=by kernel_rfl
theorem Pow.under{L:Nat}{w w':World}(h:Pow w)(hb:Below L w w')(hL:7 < L):Pow w':=by
 unfold Pow Lib.TabIs World.var? at h ⊢;rw[qP0]at h ⊢;simp only[Option.bind_some]at h ⊢;rw[hb.block 7 hL];exact h
theorem Pow.lt{w:World}(h:Pow w):7 < w.1.size:=by
 unfold Pow Lib.TabIs World.var? at h;rw[qP0]at h;simp only[Option.bind_some]at h;rcases Nat.lt_or_ge 7 w.1.size with j | j
 ·exact j
 ·rw[Array.getElem?_eq_none j]at h;cases h
theorem qLR(w:World)(k:Nat)(os:Array Obj):Below w.1.size w (Go.Sort.grow (w.drewN k) os):=by
 have hd:(w.drewN k).1=w.1:=by simp[World.drewN]
 refine⟨by simp[Go.Sort.grow,World.drewN],by simp[Go.Sort.grow,World.drewN],by simp[Go.Sort.grow,World.drewN],by simp[Go.Sort.grow,hd],fun b hb=>?_⟩;simp only[Go.Sort.grow,hd];exact Array.getElem?_append_left hb
theorem qPJ(w:World)(T:TypeId)(nd:Nat)(hs:nd<=24):Holds (fun(b:UInt8)=>Value.int .u8 (b.toNat:Int)) (w.alloc (.cells Lib.zeros24 T)) w.1.size 0 (Array.replicate nd (0:UInt8)):=fun j hj=>by
 have o:j < nd:=by simpa using hj
 refine⟨?_,World.frozen?_alloc_new _ _ _ _⟩;rw[World.cell?_alloc_new,Lib.zeros24_at _ (by omega),getElem!_pos _ j hj];simp
theorem fin0(w:World)(o:Obj)(s:Array UInt8)(k:Nat):∃ os,(putRow (fun(b:UInt8)=>Value.int .u8 (b.toNat:Int)) (w.alloc o) w.1.size 0 s).drewN k=Go.Sort.grow (w.drewN k) os:=by
 rw[alloc_eq_grow];obtain⟨j,_,e⟩:=putRow_grow_new (fun(b:UInt8)=>Value.int .u8 (b.toNat:Int)) w #[o] w.1.size 0 s (Nat.le_refl _);exact⟨j,by rw[e];rfl⟩
theorem fmt_inner(u:Nat)(y:u < 18446744073709551616)(w:World)(z:Pow w) :
 Calls prog 152 #[.int .u64 u, .int .i64 10] w fun e w'=>e=.returned (.string ⟨(Lib.decDigits u).toArray⟩)/\Below w.1.size w w':=by
 by_cases hs:u < 100
 ·have H:=hI (Tryz.internal_strconv_small u hs w);go_enter func152,ntmps152
  go_wp2_with fail
  refine(H.o).mono ?_;rintro e w' ⟨rfl,rfl⟩;go_wp2
  go_ret;exact⟨rfl,Below.refl _ _⟩
 ·have G:1<=u:=by omega
  have V:Lib.nDigits u<=20:=by have:=Lib.numDigits_eq u G y;split at this <;> omega
  have hb3:Lib.nDigits u<=24:=by omega
  have C:prog.arrayLen 183=24:=by kernel_rfl
  have Z:∀ W,(Instr.sliceAt 183 (.pointer (some ⟨w.1.size,0,none⟩)) none (some (.int .i64 (Lib.nDigits u:Int))) none).run prog W=.ok (.slice (some ⟨w.1.size,0,none⟩) (Lib.nDigits u) 24) W:=fun W=>by
   rw[run_sliceAt_array_h W 183 ⟨w.1.size,0,none⟩ (by kernel_rfl) .i64 (Lib.nDigits u:Int) (by omega) (by rw[C];omega)];go_simp
  have A:=qPJ w 183 (Lib.nDigits u) hb3;have s:=Tryz.internal_strconv_formatBase10 w.1.size 0 24 u (Array.replicate (Lib.nDigits u) 0) (w.alloc (.cells Lib.zeros24 183)) A (by rw[Array.size_replicate];exact Lib.lt_pow_nDigits u) y (by rw[Array.size_replicate];omega);rw[Array.size_replicate]at s;have R:=hI A;have J:=hI (Tryz.internal_strconv_numDigits u G y _ (Lib.tabIs_alloc z (.cells Lib.zeros24 183)));have Y:=hI s;clear A C s z;unfold Lib.zeros24 at *;go_enter func152,ntmps152
  go_wp2_with fail
  refine(J.o).mono ?_;rintro e w' ⟨rfl,rfl⟩;go_wp2_with fail
  refine(Y.o).mono ?_;rintro e w' ⟨rfl,k,v',I,rfl,O⟩;have U:(convert 62 9 (.slice (some ⟨w.1.size,0,none⟩) (Lib.nDigits u) 24)).run prog ((putRow (fun(b:UInt8)=>Value.int .u8 (b.toNat:Int)) (w.alloc (.cells Lib.zeros24 183)) w.1.size 0 I).drewN k)=.ok (.string ⟨(Lib.decDigits u).toArray⟩) ((putRow (fun(b:UInt8)=>Value.int .u8 (b.toNat:Int)) (w.alloc (.cells Lib.zeros24 183)) w.1.size 0 I).drewN k):=by
   have h:=run_convert_bytes_back (P:=prog) ((putRow (fun(b:UInt8)=>Value.int .u8 (b.toNat:Int)) (w.alloc (.cells Lib.zeros24 183)) w.1.size 0 I).drewN k) 62 9 5 ⟨w.1.size,0,none⟩ 24 (Lib.decDigits u) underlying62 underlying5 underlying9 (fun j hj=>by
    rw[Lib.row_is_numeral O j hj,Lib.add_plain,World.cell?_drewN];exact cell?_putRow (fun(b:UInt8)=>Value.int .u8 (b.toNat:Int)) _ w.1.size 0 _ I R.o (by rw[O.size,Array.size_replicate]) j (by rw[O.size];rw[Lib.decDigits_length]at hj;exact hj))
   rw[Lib.decDigits_length]at h;exact h
  unfold Lib.zeros24 at U;go_wp2
  go_ret;obtain⟨os,X⟩:=fin0 w (.cells Lib.zeros24 183) I k;unfold Lib.zeros24 at X;refine⟨rfl,?_⟩;rw[X];exact qLR w k os
theorem fmt_any(u:Nat)(s:u < 18446744073709551616)(w:World)(j:Pow w) :
 Calls prog 130 #[.int .u64 u, .int .i64 10] w fun e w'=>e=.returned (.string ⟨(Lib.decDigits u).toArray⟩)/\Below w.1.size w w':=by
 have H:=hI (fmt_inner u s w j);clear j;go_enter func130,ntmps130
 go_wp2_with fail
 refine(H.o).mono ?_;rintro e w' ⟨rfl,hb⟩;go_wp2
 go_ret;exact⟨rfl,hb⟩
open Go Go.RowKit
abbrev Ws:=Option (List (List UInt8))
def jD(a b:Ws):Ws:=a.bind fun x=>b.map fun y=>x++y
def qZP(f:qQ->Ws):List qQ->Ws
 | []=>some []
 | t :: r=>jD (f t) (qZP f r)
def qKp(f:qQ->Ws):List qQ->Ws
 | []=>some []
 | t :: r=>jD (some [[44]]) (jD (f t) (qKp f r))
def wO(f:qQ->Ws):List qQ->Ws
 | []=>some []
 | t :: r=>jD (f t) (qKp f r)
def ifW(b:Bool)(a:Ws):Ws:=if b then a else none
def qKk(t:qQ):Bool:=t.text == [] && t.num == 0
def qJf(t:qQ):Bool:=jH t.text && t.num == 0
def qZy(t:qQ):Ws:=ifW (t.kind == zD && (t.text == [] && t.kids.length == 0)) (some [Lib.decDigits t.num.toNat])
def vY(void:Bool)(t:qQ):Ws :=
 match t.kids with
 | u :: _=>ifW (u.kind == zB && (u.num == 0 && u.kids.length == 0) && (yG u.text || void && u.text == zA)) (some [u.text,t.text])
 | []=>none
def qZ1(t:qQ):Ws:=ifW (t.kind == qO && qJf t && t.kids.length == 1) (vY false t)
inductive WT where
 | block
 | expr
section
variable (rec:WT->qQ->Ws)
def wU(t:qQ):Ws :=
 if t.kind == qL then
  match t.kids with
  | [e]=>ifW (qJf t) (jD (some [t.text,[91]]) (jD (rec .expr e) (some [[93]])))
  | _=>none
 else ifW (t.kind == zM && qJf t && t.kids.length == 0) (some [t.text])
def wZ(t:qQ):Ws:=if t.kind == qM || (t.kind == qT || t.kind == zK)then jD (some [[40]]) (jD (rec .expr t) (some [[41]]))else rec .expr t
def qY7(t:qQ):Ws :=
 if t.kind == qM then
  match t.kids with
  | [a,b]=>ifW (decide (0<=xL t.text) && t.num == 0) (jD (wZ rec a) (jD (some [t.text]) (wZ rec b)))
  | _=>none
 else if t.kind == qT then
  match t.kids with
  | [a]=>ifW (qXD t.text && t.num == 0) (jD (some [t.text]) (wZ rec a))
  | _=>none
 else if t.kind == zK then
  match t.kids with
  | [a]=>ifW (yG t.text && t.num == 0) (jD (some [[40],t.text,[41]]) (wZ rec a))
  | _=>none
 else if t.kind == zL || t.kind == qH then ifW (qKk t && t.kids.length == 0) (some [t.kind])
 else if t.kind == zD then qZy t
 else wU rec t
def qKY(t:qQ):Ws:=ifW (t.kind == zW && qJf t) (jD (some [t.text,[40]]) (jD (wO (rec .expr) t.kids) (some [[41]])))
def qQi(t:qQ):Ws :=
 match t.kids with
 | e :: b :: _=>jD (some [t.kind,[40]]) (jD (rec .expr e) (jD (some [[41]]) (rec .block b)))
 | _=>none
def qK0(t:qQ):Ws :=
 ifW (qKk t) <| match t.kids with
 | [_,_]=>qQi rec t
 | [_,_,c]=>jD (qQi rec t) (jD (some [zS]) (rec .block c))
 | _=>none
def qPF(t:qQ):Ws :=
 ifW (qKk t) <| match t.kids with
 | [x]=>ifW (t.kind == qW) (jD (wU rec x) (some [[61],qW,[40],[41]]))
 | [x,y]=>if t.kind == qP then jD (wU rec x) (jD (some [[61]]) (rec .expr y))else ifW (t.kind == qN) (jD (wU rec x) (jD (some [[61]]) (qKY rec y)))
 | _=>none
def qQn(a:Ws):Ws:=jD a (some [[59]])
def qJr(t:qQ):Ws :=
 if t.kind == kIf then qK0 rec t
 else if t.kind == qA then ifW (qKk t && t.kids.length == 2) (qQi rec t)
 else if t.kind == qE then ifW (qJf t && t.kids.length == 1) (qQn (vY false t))
 else if t.kind == zW then qQn (qKY rec t)
 else if t.kind == qV then ifW (qKk t && decide (t.kids.length<=1)) (qQn (jD (some [qV]) (wO (rec .expr) t.kids)))
 else if t.kind == qF || t.kind == qD then
  match t.kids with
  | [e]=>ifW (qKk t) (qQn (jD (some [t.kind,[40]]) (jD (rec .expr e) (some [[41]]))))
  | _=>none
 else qQn (qPF rec t)
def qVv(t:qQ):Ws:=ifW (t.kind == zX && qKk t) (jD (some [[123]]) (jD (qZP (qJr rec) t.kids) (some [[125]])))
def stepW:WT->qQ->Ws
 | .block=>qVv rec
 | .expr=>qY7 rec
def kA(t:qQ):Ws :=
 match t.kids with
 | _ :: v :: r=>ifW (qJf t) (jD (vY true t) (jD (some [[40]]) (jD (wO qZ1 ((v :: r).dropLast)) (jD (some [[41]]) (rec .block ((v :: r).getLast (List.cons_ne_nil v r)))))))
 | _=>none
end
def qZB:Nat->WT->qQ->Ws
 | 0,_,_=>none
 | n+1,x,t=>stepW (qZB n) x t
def qXa(t:qQ):Ws :=
 ifW (t.kind == qG && qJf t) <| match t.kids with
 | [_]=>qQn (vY false t)
 | [_,m]=>qQn (jD (vY false t) (jD (some [[91]]) (jD (qZy m) (some [[93]]))))
 | _=>none
def qQO(n:Nat)(t:qQ):Ws:=ifW (t.kind == qY && qKk t) (qZP (fun k=>if k.kind == qC then kA (qZB n) k else qXa k) t.kids)
theorem qK{a b:Ws}{ws:List (List UInt8)}(h:jD a b=some ws):∃ x y,a=some x/\b=some y/\ws=x++y:=by
 cases a with
 | none=>simp[jD]at h
 | some x =>
  cases b with
  | none=>simp[jD]at h
  | some y=>exact⟨x,y,rfl,rfl,by simpa[jD,eq_comm]using h⟩
theorem zN{b:Bool}{a:Ws}{ws:List (List UInt8)}(h:ifW b a=some ws):b=true/\a=some ws:=by
 unfold ifW at h;split at h
 ·rename_i hb;exact⟨hb,h⟩
 ·simp at h
/-! ### Trees whose words and numbers are no greater than a program's -/
mutual
def qZl:qQ->Prop
 | .mk k x m _ _ kids=>k.length<=1000000/\x.length<=1000000/\0<=m/\m < 18446744073709551616/\kids.length<=1000000/\qZn kids
def qZn:List qQ->Prop
 | []=>True
 | t :: r=>qZl t/\qZn r
end
theorem qZn.mem:∀ {l:List qQ},qZn l->∀ t∈l,qZl t
 | _ :: _,h,t,ht=>by
  rcases List.mem_cons.1 ht with rfl | ht
  ·exact h.1
  ·exact qZn.mem h.2 t ht
 | [],_,t,ht=>by simp at ht
theorem qZn.of:∀ {l:List qQ},(∀ t∈l,qZl t)->qZn l
 | [],_=>trivial
 | t :: r,h=>⟨h t (by simp),qZn.of (fun u hu=>h u (by simp[hu]))⟩
/-! ### The writer in memory -/
def jT(l:List (List UInt8)):List Value:=l.map fun x=>.string ⟨x.toArray⟩
structure qZk(B:Nat)(w w':World):Prop where
 below:Below B w w'
 high:∀ k cs T fr,k≠B->T≠9->w.1[k]? = some (.cells cs T fr)->w'.1[k]? = some (.cells cs T fr)
theorem qZk.refl(B:Nat)(w:World):qZk B w w:=⟨Below.refl _ _,fun _ _ _ _ _ _ h=>h⟩
theorem qZk.trans{B:Nat}{u v w:World}(h:qZk B u v)(k:qZk B v w):qZk B u w:=⟨h.below.trans k.below,fun i cs T fr h1 h2 h3=>k.high i cs T fr h1 h2 (h.high i cs T fr h1 h2 h3)⟩
theorem qZk.of_below{B:Nat}{w w':World}(h:Below w.1.size w w')(hB:B<=w.1.size):qZk B w w':=by
 refine⟨h.mono hB,fun k cs T fr _ _ h3=>?_⟩;have o:k < w.1.size:=by
  rcases Nat.lt_or_ge k w.1.size with j | j
  ·exact j
  ·simp[Array.getElem?_eq_none j]at h3
 rw[h.block k o];exact h3
theorem qZk.alloc{B:Nat}{w w':World}(h:qZk B w w')(hB:B<=w.1.size)(o:Obj):qZk B w (w'.alloc o):=h.trans (qZk.of_below ((Below.refl _ _).alloc (Nat.le_refl _) o) (Nat.le_trans hB h.below.size))
structure WAt(lo B:Nat)(acc:List (List UInt8))(w:World):Prop where
 row:∃ v,w.1[B]? = some (.cells #[v] 132 (0,0))/\w.ownsRow (B+1) 9 1 v acc.length (jT acc)
 tab:qKT lo w
 hlo:lo<=B
 pow:Pow w
 h4:7 < lo
theorem qJ8{w:World}{b:Nat}{o:Obj}(h:w.1[b]? = some o):b < w.1.size:=by
 rcases Nat.lt_or_ge b w.1.size with j | j
 ·exact j
 ·simp[Array.getElem?_eq_none j]at h
theorem WAt.lt{lo B:Nat}{acc:List (List UInt8)}{w:World}(h:WAt lo B acc w):B < w.1.size:=by
 obtain⟨v,j,_⟩:=h.row;exact qJ8 j
theorem WAt.below{lo B:Nat}{acc:List (List UInt8)}{w w':World}(h:WAt lo B acc w)(hb:Below w.1.size w w'):WAt lo B acc w':=by
 have j:=h.lt;have hl:=h.hlo;obtain⟨v,o,h2⟩:=h.row;exact⟨⟨v,(hb.block B j).trans o,h2.kept (zV hb none) (by cases v.ownBlock;exact .inl rfl;exact .inr (by simp))⟩,h.tab.under (hb.mono (by omega)),hl,h.pow.under (hb.mono (Nat.le_of_lt j)) (by have:=h.h4;omega),h.h4⟩
theorem WAt.alloc{lo B:Nat}{acc:List (List UInt8)}{w:World}(h:WAt lo B acc w)(o:Obj):WAt lo B acc (w.alloc o):=h.below ((Below.refl _ _).alloc (Nat.le_refl _) o)
theorem info9:(prog.info? 9).map (fun i=>(i.zero,i.size,i.bytes))=some (some (.string ⟨#[]⟩),1,16):=by kernel_rfl
theorem qU5(a b:List (List UInt8)):jT (a++b)=jT a++jT b:=by simp[jT]
theorem qZk.grown{B n:Nat}{u v:World}{x:Value}{xs:List Value}(j:u.ownsRow (B+1) 9 1 x n xs)(hg:u.grownBy v x.ownBlock)(hB:B < u.1.size):qZk B u v:=by
 refine⟨(Below.refl B u).grown hg (by omega) (fun k hk=>by have:=(j.lt k hk).1;omega),fun i cs T fr _ h2 h3=>?_⟩;rw[hg.block i (qJ8 h3) (fun e=>Lib.ownBlock_ne j h3 h2 e.symm)];exact h3
theorem qZk.setCell{B:Nat}{u v:World}(h:qZk B u v)(o:Nat)(x:Value):qZk B u (v.setCell ⟨B,o,none⟩ x):=by
 refine⟨h.below.setCell (p:=⟨B,o,none⟩) (Nat.le_refl _) x,fun i cs T fr h1 h2 h3=>?_⟩;rw[hS v ⟨B,o,none⟩ x i h1];exact h.high i cs T fr h1 h2 h3
theorem set_block{w:World}{B:Nat}{v:Value}(h:w.1[B]? = some (.cells #[v] 132 (0,0)))(o:Value):(w.setCell ⟨B,0,none⟩ o).1[B]? = some (.cells #[o] 132 (0,0)):=by
 obtain⟨j,s⟩:=Array.getElem?_eq_some_iff.1 h;simp[World.setCell,j,Array.getElem_modify,s]
theorem put_any(lo B S c:Nat)(acc xs:List (List UInt8))(w:World)(h:WAt lo B acc w)(hx:xs≠[])(z:∀ (j:Nat) (u:Value),(jT xs)[j]? = some u->w.cell? ((⟨S,0,none⟩:Addr).add j)=some u)(hn:acc.length+xs.length<=1000000000) :
 Calls prog 113 #[.pointer (some ⟨B,0,none⟩), .slice (some ⟨S,0,none⟩) xs.length c] w fun e w'=>e=.returned (.tuple #[])/\WAt lo B (acc++xs) w'/\qZk B w w':=by
 obtain⟨i0,hi,R,X,hz2⟩:=info_parts info9;obtain⟨v,J,y⟩:=h.row;have O:=h.lt;have C:=hI h;have HN:=hI z;have c0:w.cell? ⟨B,0,none⟩=some v:=by rw[Lib.cell_of_heap J];rfl
 have d3:0 < xs.length:=by cases xs with | nil=>exact absurd rfl hx | cons=>simp
 clear h z;go_enter func113,ntmps113
 go_wp2_with (at_builtin;refine wpList_append_own _ rfl _ _ 113 rfl (B+1) 9 i0 (.string ⟨#[]⟩) 1 16 underlying113 hi R X hz2 rfl (by decide) _ _ _ rfl y ⟨S,0,none⟩ xs.length c (jT xs) rfl (by simp[jT]) ?c1 ?c2 ?c3 ?c4 ?c5 ?_)
 case c1=>exact HN.o
 case c2=>intro u Z;simp[jT]at Z;obtain⟨x,_,rfl⟩:=Z;rfl
 case c3=>unfold maxLen;omega
 case c4=>omega
 case c5=>omega
 intro v' w2 s A _;have V:=qZk.grown y A O;have U:some B≠v.ownBlock:=fun e=>by have:=(y.lt B e.symm).1;omega
 have I:w2.1[B]? = some (.cells #[v] 132 (0,0)):=by rw[A.block B O U];exact J
 have d0:w2.cell? ⟨B,0,none⟩=some v:=by rw[Lib.cell_of_heap I];rfl
 have f0:w2.frozen? ⟨B,0,none⟩=false:=Lib.frozen_of_heap I 0;obtain⟨Y,n',G,rfl⟩:∃ Y n' G,v'=.slice Y n' G:=by
  rcases s.2 with⟨hv,_⟩ | ⟨g,G,d2,hv,_⟩
  ·exact⟨_,_,_,hv⟩
  ·exact⟨_,_,_,hv⟩
 go_wp2
 go_end0;refine⟨rfl,⟨⟨_,set_block I _,?_⟩,?_,C.o.hlo,C.o.pow.under ((V.setCell 0 _).below.mono C.o.hlo) C.o.h4,C.o.h4⟩,V.setCell _ _⟩
 ·rw[qU5,lL];refine s.kept (jM w2 B 0 _) (.inr ?_);intro e;have:=(s.lt B e).1;omega
 ·exact C.o.tab.under ((V.setCell 0 _).below.mono C.o.hlo)
theorem jZ{lo B S:Nat}{acc:List (List UInt8)}{w:World}(xs:List (List UInt8))(h:WAt lo B acc w)(A:xs≠[])(hS:w.1.size=S)(s:acc.length+xs.length<=1000000000) :
 Calls prog 113 #[.pointer (some ⟨B,0,none⟩), .slice (some ⟨S,0,none⟩) xs.length xs.length] (w.alloc (.cells (jT xs).toArray 9)) fun e w'=>e=.returned (.tuple #[])/\WAt lo B (acc++xs) w'/\qZk B w w':=by
 subst hS;refine(put_any lo B w.1.size xs.length acc xs (w.alloc (.cells (jT xs).toArray 9)) (h.alloc _) A ?_ s).mono ?_
 ·intro j u o;have z:j < (jT xs).length:=(List.getElem?_eq_some_iff.1 o).1;have:(jT xs).toArray[j]? = some u:=by simpa using o
  rw[Lib.add_plain,World.cell?_alloc_new,Nat.zero_add];simpa using o
 ·rintro e w' ⟨rfl,y,h2⟩;exact⟨rfl,y,(qZk.of_below ((Below.refl _ _).alloc (Nat.le_refl _) _) (Nat.le_of_lt h.lt)).trans h2⟩
structure qWw(g o:Nat)(t:qQ)(v:Value)(w:World):Prop where
 c0:w.cell? ⟨g,o,none⟩=some (.string ⟨t.kind.toArray⟩)
 c1:w.cell? ⟨g,o+1,none⟩=some (.string ⟨t.text.toArray⟩)
 c2:w.cell? ⟨g,o+2,none⟩=some (.int .u64 t.num)
 c3:w.cell? ⟨g,o+3,none⟩=some (.int .i64 t.line)
 c4:w.cell? ⟨g,o+4,none⟩=some (.int .i64 t.col)
 c5:w.cell? ⟨g,o+5,none⟩=some v
theorem qWw.a{g o:Nat}{t:qQ}{v:Value}{w:World}(h:qWw g o t v w):w.cell? ⟨g,o,none⟩=some (.string ⟨t.kind.toArray⟩)/\w.cell? ⟨g,o+1,none⟩=some (.string ⟨t.text.toArray⟩)/\w.cell? ⟨g,o+2,none⟩=some (.int .u64 t.num)/\w.cell? ⟨g,o+3,none⟩=some (.int .i64 t.line)/\w.cell? ⟨g,o+4,none⟩=some (.int .i64 t.col)/\w.cell? ⟨g,o+5,none⟩=some v/\True:=⟨h.c0,h.c1,h.c2,h.c3,h.c4,h.c5,trivial⟩
def qWA(B:Nat)(w:World)(ts:List qQ)(g off:Nat):Prop:=g < B/\∀ i (h:i < ts.length),∃ q n c,xZ w (· < B) ts[i] (.slice q n c)/\qWw g (off+i * 6) ts[i] (.slice q n c) w
theorem xZ.shape{w:World}{ok:Nat->Prop}{t:qQ}{v:Value}(h:xZ w ok t v):∃ q c,v=.slice q t.kids.length c/\t.kids.length<=c/\c<=maxLen:=by
 cases t with
 | mk k x n l c ks =>
  obtain⟨y,_,h2,_⟩:=h;rcases h2.2 with⟨rfl,j⟩ | ⟨g,o,s,rfl,_,_,h3,h4,_⟩
  ·exact⟨none,0,by rw[show(qQ.mk k x n l c ks).kids=ks from rfl,j],by rw[show(qQ.mk k x n l c ks).kids=ks from rfl,j];exact Nat.le_refl _,by unfold maxLen;omega⟩
  ·exact⟨_,_,rfl,h3,h4⟩
theorem rowC_at:∀ (ts:List qQ) (j:List Value) (i k:Nat) (hi:i < ts.length) (hv:i < j.length),k < 6->(qZK ts j)[i * 6+k]? = (qS ts[i] j[i])[k]?
 | t :: ts,v :: j,0,k,_,_,hk=>by
  rw[qZK,Nat.zero_mul,Nat.zero_add,List.getElem?_append_left (by simp[qS];omega)];rfl
 | t :: ts,v :: j,i+1,k,hi,hv,hk=>by
  rw[qZK,List.getElem?_append_right (by simp[qS];omega)];have e:(i+1) * 6+k - (qS t v).length=i * 6+k:=by simp[qS];omega
  rw[e];exact rowC_at ts j i k (by simpa using hi) (by simpa using hv) hk
 | [],_,i,_,hi,_,_=>by simp at hi
 | _ :: _,[],i,_,_,hv,_=>by simp at hv
theorem vV.at{w:World}{ok:Nat->Prop}:∀ {ts:List qQ} {j:List Value},vV w ok ts j->∀ i (h:i < ts.length) (o:i < j.length),xZ w ok ts[i] j[i]
 | _ :: _,_ :: _,hL,0,_,_=>hL.1
 | _ :: _,_ :: _,hL,i+1,h,o=>vV.at hL.2 i (by simpa using h) (by simpa using o)
 | [],_,_,_,h,_=>by simp at h
 | _ :: _,[],hL,_,_,_=>hL.elim
theorem xZ.row{B:Nat}{w:World}{t:qQ}{v:Value}(h:xZ w (· < B) t v)(y:t.kids≠[]):∃ g c,v=.slice (some ⟨g,0,none⟩) t.kids.length c/\qWA B w t.kids g 0:=by
 cases t with
 | mk k x n l c ks =>
  obtain⟨s,G,h2,h3⟩:=h;change ks≠[]at y;have A:=vV.length ks s h3;rcases h2.2 with⟨rfl,J⟩ | ⟨g,z,I,rfl,_,hg,_⟩
  ·exact absurd (List.length_eq_zero_iff.1 J) y
  ·refine⟨g,z,rfl,G g rfl,fun i hi=>?_⟩;change i < ks.length at hi;have o:i < s.length:=by omega
   have hl:=vV.at h3 i hi o;obtain⟨q,c',C,_⟩:=hl.shape;have hc:=h2.cells (g:=g) rfl;refine⟨q,_,c',C ▸ hl,?_⟩;have j:∀ (k:Nat) u,k < 6->(qS ks[i] s[i])[k]? = some u->w.cell? ⟨g,0+i * 6+k,none⟩=some u:=fun k u y hu=>by
    have:=hc (i * 6+k) u (by rw[rowC_at ks s i k hi o y];exact hu);rw[Lib.add_plain,Nat.zero_add]at this;rw[Nat.zero_add];exact this
   rw[<-C];exact⟨j 0 _ (by omega) rfl,j 1 _ (by omega) rfl,j 2 _ (by omega) rfl,j 3 _ (by omega) rfl,j 4 _ (by omega) rfl,j 5 _ (by omega) rfl⟩
theorem qWw.move{g o:Nat}{t:qQ}{v:Value}{w w':World}(h:qWw g o t v w)(hg:w'.1[g]? = w.1[g]?):qWw g o t v w' :=
 ⟨(cB hg).trans h.c0,(cB hg).trans h.c1,(cB hg).trans h.c2,(cB hg).trans h.c3,(cB hg).trans h.c4,(cB hg).trans h.c5⟩
theorem xZ.keep{B:Nat}{w w':World}{t:qQ}{v:Value}(h:xZ w (· < B) t v)(hb:Below B w w'):xZ w' (· < B) t v:=xZ.move (fun g _ hg=>⟨hg,hb.block g hg⟩) t v h
theorem qWA.keep{B:Nat}{w w':World}{ts:List qQ}{g j:Nat}(h:qWA B w ts g j)(hb:Below B w w'):qWA B w' ts g j :=
 ⟨h.1,fun i hi=>by obtain⟨q,n,c,o,h2⟩:=h.2 i hi;exact⟨q,n,c,o.keep hb,h2.move (hb.block g h.1)⟩⟩
theorem qWA.sub{B:Nat}{w:World}{ts:List qQ}{g j:Nat}(h:qWA B w ts g j)(us:List qQ)(d:Nat)(o:∀ i (hi:i < us.length),∃ h:d+i < ts.length,ts[d+i]=us[i]):qWA B w us g (j+d * 6) :=
 ⟨h.1,fun i hi=>by
  obtain⟨hd,y⟩:=o i hi;obtain⟨q,n,c,s,h2⟩:=h.2 (d+i) hd;rw[y]at s h2;exact⟨q,n,c,s,by rw[show j+d * 6+i * 6=j+(d+i) * 6 by omega];exact h2⟩⟩
theorem vL(w:World)(o:Obj):(w.alloc o).1[w.1.size]? = some o:=by unfold World.alloc;simp
def yD(B:Nat)(w:World)(ts:List qQ)(q:Option Addr):Prop:=ts=[]\/∃ g off,q=some ⟨g,off,none⟩/\qWA B w ts g off
theorem yD.keep{B:Nat}{w w':World}{ts:List qQ}{q:Option Addr}(h:yD B w ts q)(hb:Below B w w'):yD B w' ts q:=by
 rcases h with h | ⟨g,j,o,h2⟩
 ·exact .inl h
 ·exact .inr ⟨g,j,o,h2.keep hb⟩
theorem xZ.kids{B:Nat}{w:World}{t:qQ}{v:Value}(h:xZ w (· < B) t v):∃ q c,v=.slice q t.kids.length c/\t.kids.length<=c/\c<=maxLen/\yD B w t.kids q:=by
 obtain⟨q,c,hv,s,h2⟩:=h.shape;by_cases o:t.kids=[]
 ·exact⟨q,c,hv,s,h2, .inl o⟩
 ·obtain⟨g,c',j,hr⟩:=h.row o;rw[hv]at j;injection j with e1 e2 e3;subst e1 e3;exact⟨_,c,hv,s,h2, .inr ⟨g,0,rfl,hr⟩⟩
structure Sw(w0:World)(lo B N:Nat)(acc:List (List UInt8))(t:qQ)(v:Value)(w:World):Prop where
 wr:WAt lo B acc w
 kp:qZk B w0 w
 nd:w.1[N]? = some (.cells (qS t v).toArray 57)
 li:xZ w (· < B) t v
 hN:B < N
 hw0:B < w0.1.size
section
variable {w0 w w':World} {lo B N:Nat} {acc:List (List UInt8)} {t:qQ} {v:Value}
theorem Sw.start(h:WAt lo B acc w)(hl:xZ w (· < B) t v):Sw w lo B w.1.size acc t v (w.alloc (.cells (qS t v).toArray 57)) :=
 ⟨h.alloc _,qZk.of_below ((Below.refl _ _).alloc (Nat.le_refl _) _) (Nat.le_of_lt h.lt),vL _ _,hl.keep (((Below.refl _ _).alloc (Nat.le_refl _) _).mono (Nat.le_of_lt h.lt)),h.lt,h.lt⟩
theorem Sw.call{j:List (List UInt8)}(h:Sw w0 lo B N acc t v w)(s:WAt lo B j w')(o:qZk B w w'):Sw w0 lo B N j t v w' :=
 ⟨s,h.kp.trans o,o.high N _ 57 _ (by have:=h.hN;omega) (by decide) h.nd,h.li.keep o.below,h.hN,h.hw0⟩
theorem Sw.below(h:Sw w0 lo B N acc t v w)(hb:Below w.1.size w w'):Sw w0 lo B N acc t v w':=h.call (h.wr.below hb) (qZk.of_below hb (Nat.le_of_lt h.wr.lt))
theorem Sw.alloc(h:Sw w0 lo B N acc t v w)(o:Obj):Sw w0 lo B N acc t v (w.alloc o):=h.below ((Below.refl _ _).alloc (Nat.le_refl _) o)
theorem Sw.lt(h:Sw w0 lo B N acc t v w):N < w.1.size:=qJ8 h.nd
theorem Sw.node(h:Sw w0 lo B N acc t v w):qWw N 0 t v w:=by
 have j:=h.nd;constructor <;> (rw[Lib.cell_of_heap j];rfl)
theorem Sw.cells{k x:List UInt8}{m ln co:Int}{ks:List qQ}(h:Sw w0 lo B N acc (.mk k x m ln co ks) v w) :
 w.cell? ⟨N,0,none⟩=some (.string ⟨k.toArray⟩)/\w.cell? ⟨N,1,none⟩=some (.string ⟨x.toArray⟩)/\w.cell? ⟨N,2,none⟩=some (.int .u64 m)/\w.cell? ⟨N,3,none⟩=some (.int .i64 ln)/\w.cell? ⟨N,4,none⟩=some (.int .i64 co)/\w.cell? ⟨N,5,none⟩=some v:=by
 have j:=h.node;exact⟨j.c0,j.c1,j.c2,j.c3,j.c4,j.c5⟩
end
def kZ(f:Nat)(args:Value->Value->Array Value)(p:qQ->Ws):Prop :=
 ∀ (lo B:Nat) (acc:List (List UInt8)) (t:qQ) (v:Value) (w:World) (ws:List (List UInt8)),WAt lo B acc w->xZ w (· < B) t v->qZl t->p t=some ws->acc.length+ws.length<=1000000000 ->
  Calls prog f (args (.pointer (some ⟨B,0,none⟩)) (qZ t v)) w fun e w'=>e=.returned (.tuple #[])/\WAt lo B (acc++ws) w'/\qZk B w w'
/-! ### The small questions,answered with yes -/
theorem wB{L:Nat}{t:qQ}{v:Value}{q:Option Addr}{vn vc:Nat}{lo hi:Int}(w:World)(_:qKT L w)(hv:v=.slice q vn vc)(h:qKk t=true)(h1:lo<=vn)(h2:(vn:Int)<=hi) :
 Calls prog 93 #[qZ t v, .int .i64 lo, .int .i64 hi] w fun e w'=>e=.returned (.bool true)/\Below w.1.size w w':=by
 subst hv;have:=bare_any t.kind t.text t.num t.line t.col q vn vc lo hi w;have hb:bareB t.text t.num vn lo hi=true:=by simp only[qKk,bE]at h;simp[bareB,qJl,h.1,h.2,h1,h2]
 rw[hb]at this;exact this
theorem qXA{L:Nat}{t:qQ}{v:Value}{q:Option Addr}{j o:Nat}{lo hi:Int}(w:World)(_:qKT L w)(hv:v=.slice q j o)(h:(t.num == 0)=true)(s:lo<=j)(h2:(j:Int)<=hi) :
 Calls prog 110 #[qZ t v, .int .i64 lo, .int .i64 hi] w fun e w'=>e=.returned (.bool true)/\Below w.1.size w w':=by
 subst hv;have:=qYt t.kind t.text t.num t.line t.col q j o lo hi w;have hb:qJl t.num j lo hi=true:=by simp[qJl,h,s,h2]
 rw[hb]at this;exact this
theorem qZg{L:Nat}{t:qQ}{v:Value}{q:Option Addr}{j z:Nat}{lo hi:Int}(w:World)(s:qKT L w)(hl:t.text.length<=1000000)(hv:v=.slice q j z)(h:qJf t=true)(G:lo<=j)(h2:(j:Int)<=hi) :
 Calls prog 111 #[qZ t v, .int .i64 lo, .int .i64 hi] w fun e w'=>e=.returned (.bool true)/\Below w.1.size w w':=by
 subst hv;simp only[qJf,bE]at h;have y:=(Below.refl w.1.size w).alloc (Nat.le_refl _) (.cells #[.string ⟨t.kind.toArray⟩, .string ⟨t.text.toArray⟩, .int .u64 t.num, .int .i64 t.line, .int .i64 t.col, .slice q j z] 57);have C:=hI (isName_any ⟨t.text.toArray⟩ _ (s.under (y.mono s.2.1)).keys (by simpa[ByteArray.size]using hl));have I:=hI (qXA (t:=t) (v:=.slice q j z) (lo:=lo) (hi:=hi) (w.alloc (.cells #[.string ⟨t.kind.toArray⟩, .string ⟨t.text.toArray⟩, .int .u64 t.num, .int .i64 t.line, .int .i64 t.col, .slice q j z] 57)) (s.under (y.mono s.2.1)) rfl h.2 G h2);have h3:jH (⟨t.text.toArray⟩:ByteArray).data.toList=true:=by simpa using h.1
 rw[h3]at C;have A:=hI y;clear y h3 h s;unfold qZ at *;go_enter func111,ntmps111
 go_wp2_with fail
 refine(C.o).mono ?_;rintro e J ⟨rfl,rfl⟩;go_wp2_with fail
 refine(I.o).mono ?_;rintro e w2 ⟨rfl,hb⟩;go_wp2
 go_ret;exact⟨rfl,A.o.trans (hb.mono A.o.size)⟩
theorem qVn(rec:WT->qQ->Ws)(f8:kZ 150 (fun p n=>#[p,n]) (rec .expr)):kZ 165 (fun p n=>#[p,n]) (wU rec):=by
 intro lo B acc t v w ws hW hL hF I z;obtain⟨k,x,m,ln,co,ks⟩:=t;obtain⟨f4,R,g1,f9,U,X⟩:=id hF;unfold wU at I;simp only[qQ.kind,qQ.kids,qQ.text]at I;cases hk:(k == qL);case false =>
  simp only[hk,bF,if_false,reduceIte]at I;obtain⟨hb,Z⟩:=zN I;simp only[bE,beq_iff_eq,List.length_eq_zero_iff]at hb;obtain⟨⟨rfl,d2⟩,rfl⟩:=hb;injection Z with Z;subst Z;clear I hk;obtain⟨q0,vc,hv,hvc,g2⟩:=hL.shape;simp only[qQ.kind,qQ.text,qQ.num,qQ.line,qQ.col,qQ.kids,List.length]at hv;subst hv;have G:=hI (Sw.start hW hL);have HF:=hI hF;have d7:=hI X;have s:=hI z;have f6:=hW.lt;have d3:=hI R;have A:=hI U;clear hW hF hL X z f4 R U;try simp only[qZ,qS,qQ.kind,qQ.text,qQ.num,qQ.line,qQ.col,qQ.kids]at *
  unfold zM at *;go_enter func165,ntmps165
  obtain⟨c0,c1,c2,c3,c4,c5⟩:=G.o.cells;have j:=G.o.lt;go_wp2_with fail
  try clear c0 c1 c2 c3 c4 c5
  try clear j
  have HQ:=qZg (t:=(.mk [110,97,109,101] x m ln co [])) (v:=.slice q0 0 vc) (lo:=0) (hi:=0) _ G.o.wr.tab d3.o rfl d2 (by first | simp | omega | (have:=A.o;(try simp only[List.length]at this ⊢);omega)) (by first | simp | omega | (have:=A.o;(try simp only[List.length]at this ⊢);omega));simp only[qZ,qQ.kind,qQ.text,qQ.num,qQ.line,qQ.col,qQ.kids]at HQ;refine HQ.mono ?_;clear HQ;rintro e w1 ⟨rfl,O⟩;have y:=hI (G.o.below O);clear G O;obtain⟨c0,c1,c2,c3,c4,c5⟩:=y.o.cells;have j:=y.o.lt;go_wp2_with fail
  refine(jF _).mono ?_;rintro e w' ⟨rfl,rfl⟩;try clear c0 c1 c2 c3 c4 c5 j
  obtain⟨c0,c1,c2,c3,c4,c5⟩:=y.o.cells;have j:=y.o.lt;go_wp2_with fail
  try clear c0 c1 c2 c3 c4 c5
  try clear j
  have H:=jZ (S:=w1.1.size) [x] y.o.wr (by simp) (by simp) (by have:=s.o;(try simp only[lL,lO,lZ]at this ⊢);omega);simp only[jT,List.map,List.length]at H;refine H.mono ?_;clear H;rintro e w2 ⟨rfl,J,C⟩;have V:=hI (y.o.call J C);clear y J C;go_wp2
  first | go_end0 | refine bodyPost_ret (v:=.tuple #[]) (by simp[results,results165,go_sem]) rfl ?_
  exact⟨rfl,by simpa[List.append_assoc,qY,qG,qC,qO,zB,zD,zX,qE,kIf,zS,qA,qV,qF,qD,qP,qW,qN,zW,zM,qL,qM,qT,zK,zL,qH,zA]using V.o.wr,V.o.kp⟩
 case true =>
  simp only[hk,if_true,reduceIte]at I;obtain rfl:k=qL:=by simpa using hk
  clear hk;rcases ks with _ | ⟨a,_ | ⟨a2,r⟩⟩
  ·simp at I
  rotate_left
  ·simp at I
  simp only at I;obtain⟨d2,he1⟩:=zN I;clear I;obtain⟨w1,w2,Y,he2,rfl⟩:=qK he1;clear he1;injection Y with Y;subst Y;obtain⟨f5,w4,f7,Y,rfl⟩:=qK he2;clear he2;injection Y with Y;subst Y;obtain⟨g0,vc,hv,hR⟩:=hL.row (by simp[qQ.kids]);have HR:=hI hR;clear hR;simp only[qQ.kind,qQ.text,qQ.num,qQ.line,qQ.col,qQ.kids,List.length]at hv;subst hv;have G:=hI (Sw.start hW hL);have HF:=hI hF;have d7:=hI X;have s:=hI z;have f6:=hW.lt;have d3:=hI R;have A:=hI U;clear hW hF hL X z f4 R U;try simp only[qZ,qS,qQ.kind,qQ.text,qQ.num,qQ.line,qQ.col,qQ.kids]at *
  unfold qL at *;go_enter func165,ntmps165
  obtain⟨c0,c1,c2,c3,c4,c5⟩:=G.o.cells;have j:=G.o.lt;go_wp2_with fail
  try clear c0 c1 c2 c3 c4 c5
  try clear j
  have HQ:=qZg (t:=(.mk [105,110,100,101,120] x m ln co [a])) (v:=.slice (some ⟨g0,0,none⟩) 1 vc) (lo:=1) (hi:=1) _ G.o.wr.tab d3.o rfl d2 (by first | simp | omega | (have:=A.o;(try simp only[List.length]at this ⊢);omega)) (by first | simp | omega | (have:=A.o;(try simp only[List.length]at this ⊢);omega));simp only[qZ,qQ.kind,qQ.text,qQ.num,qQ.line,qQ.col,qQ.kids]at HQ;refine HQ.mono ?_;clear HQ;rintro e w1 ⟨rfl,O⟩;have y:=hI (G.o.below O);clear G O;obtain⟨c0,c1,c2,c3,c4,c5⟩:=y.o.cells;have j:=y.o.lt;go_wp2_with fail
  refine(jF _).mono ?_;rintro e w' ⟨rfl,rfl⟩;try clear c0 c1 c2 c3 c4 c5 j
  obtain⟨c0,c1,c2,c3,c4,c5⟩:=y.o.cells;have j:=y.o.lt;go_wp2_with fail
  try clear c0 c1 c2 c3 c4 c5
  try clear j
  have H:=jZ (S:=w1.1.size) [x,[91]] y.o.wr (by simp) (by simp) (by have:=s.o;(try simp only[lL,lO,lZ]at this ⊢);omega);simp only[jT,List.map,List.length]at H;refine H.mono ?_;clear H;rintro e w2 ⟨rfl,J,C⟩;have V:=hI (y.o.call J C);clear y J C;obtain⟨qa,na,ca,d4,d5⟩:=(HR.o.keep V.o.kp.below).2 0 (by simp);simp only[Nat.zero_add,Nat.zero_mul,Nat.one_mul,Nat.reduceAdd,Nat.reduceMul,List.getElem_cons_zero,List.getElem_cons_succ]at d4 d5;have⟨k0,k1,k2,k3,k4,k5,_⟩:=d5.a;simp only[Nat.zero_add,Nat.zero_mul,Nat.one_mul,Nat.reduceAdd,Nat.reduceMul,List.getElem_cons_zero,List.getElem_cons_succ]at k0 k1 k2 k3 k4 k5;have HC:=hI (f8 lo B (acc++[x,[91]]) a (.slice qa na ca) _ f5 V.o.wr d4 (d7.o.mem _ (by simp)) f7 (by have:=s.o;(try simp only[lL,lO,lZ]at this ⊢);omega));clear d5 d4;try simp only[qZ]at HC
  obtain⟨c0,c1,c2,c3,c4,c5⟩:=V.o.cells;have j:=V.o.lt;go_wp2_with fail
  try clear c0 c1 c2 c3 c4 c5
  try clear j
  try clear k0 k1 k2 k3 k4 k5
  refine(HC.o).mono ?_;rintro e w3 ⟨rfl,d8,d9⟩;have S3:=hI (V.o.call d8 d9);clear V d8 d9 HC;obtain⟨c0,c1,c2,c3,c4,c5⟩:=S3.o.cells;have j:=S3.o.lt;go_wp2_with fail
  try clear c0 c1 c2 c3 c4 c5
  try clear j
  have H:=jZ (S:=w3.1.size) [[93]] S3.o.wr (by simp) (by simp) (by have:=s.o;(try simp only[lL,lO,lZ]at this ⊢);omega);simp only[jT,List.map,List.length]at H;refine H.mono ?_;clear H;rintro e w4 ⟨rfl,f3,d6⟩;have S4:=hI (S3.o.call f3 d6);clear S3 f3 d6;go_wp2
  first | go_end0 | refine bodyPost_ret (v:=.tuple #[]) (by simp[results,results165,go_sem]) rfl ?_
  exact⟨rfl,by simpa[List.append_assoc,qY,qG,qC,qO,zB,zD,zX,qE,kIf,zS,qA,qV,qF,qD,qP,qW,qN,zW,zM,qL,qM,qT,zK,zL,qH,zA]using S4.o.wr,S4.o.kp⟩
def Hn(T:Nat)(t:qQ)(v:Value)(w:World):Prop:=w.1[T]? = some (.cells (qS t v).toArray 57)
theorem Hn.new(t:qQ)(v:Value)(w:World):Hn w.1.size t v (w.alloc (.cells (qS t v).toArray 57)):=vL _ _
theorem Hn.keep{T B:Nat}{t:qQ}{v:Value}{w w':World}(h:Hn T t v w)(j:qZk B w w')(hT:B < T):Hn T t v w':=j.high T _ 57 _ (by omega) (by decide) h
theorem Hn.below{T:Nat}{t:qQ}{v:Value}{w w':World}(h:Hn T t v w)(hb:Below w.1.size w w'):Hn T t v w':=(hb.block T (qJ8 h)).trans h
theorem Hn.lt{T:Nat}{t:qQ}{v:Value}{w:World}(h:Hn T t v w):T < w.1.size:=qJ8 h
theorem Hn.cells{T:Nat}{t:qQ}{v:Value}{w:World}(h:Hn T t v w) :
 w.cell? ⟨T,0,none⟩=some (.string ⟨t.kind.toArray⟩)/\w.cell? ⟨T,1,none⟩=some (.string ⟨t.text.toArray⟩)/\w.cell? ⟨T,2,none⟩=some (.int .u64 t.num)/\w.cell? ⟨T,3,none⟩=some (.int .i64 t.line)/\w.cell? ⟨T,4,none⟩=some (.int .i64 t.col)/\w.cell? ⟨T,5,none⟩=some v:=by
 refine⟨?_,?_,?_,?_,?_,?_⟩ <;> (rw[Lib.cell_of_heap h];rfl)
theorem qXn(J:Bool):kZ 112 (fun p n=>#[p,n, .bool J]) (vY J):=by
 intro lo B acc t v w ws hW hL hF he R;obtain⟨k,x,m,ln,co,ks⟩:=t;obtain⟨f5,d3,f7,f6,d4,X⟩:=id hF;unfold vY at he;simp only[qQ.kids,qQ.text]at he;rcases ks with _ | ⟨u,r⟩
 ·simp at he
 simp only at he;obtain⟨hb,U⟩:=zN he;clear he;injection U with U;subst U;simp only[bE]at hb;obtain⟨⟨d7,d9,d6⟩,V⟩:=hb;have g3:=X.1;obtain⟨uk,z,um,C,I,g5⟩:=u;simp only[qQ.kind,qQ.num,qQ.kids,qQ.text,beq_iff_eq,List.length_eq_zero_iff]at d7 d6;obtain rfl:=d7;obtain rfl:=d6;obtain⟨g0,vc,hv,hR⟩:=hL.row (by simp[qQ.kids]);have HR:=hI hR;clear hR;simp only[qQ.kind,qQ.text,qQ.num,qQ.line,qQ.col,qQ.kids,List.length]at hv;subst hv;have S0:=hI (Sw.start hW hL);have HF:=hI hF;have f8:=hI X;have O:=hI R;have g2:=hW.lt;have g1:=hI d3;have f9:=hI d4;clear hW hF hL X R f5 d3 d4;try simp only[qZ,qS,qQ.kind,qQ.text,qQ.num,qQ.line,qQ.col,qQ.kids]at *
 go_enter func112,ntmps112
 obtain⟨qa,na,ca,Y,Z⟩:=(HR.o.keep S0.o.kp.below).2 0 (by simp);simp only[Nat.zero_add,Nat.zero_mul,Nat.one_mul,Nat.reduceAdd,Nat.reduceMul,List.getElem_cons_zero,List.getElem_cons_succ]at Y Z;obtain⟨qb,cb,d8,_,_⟩:=Y.shape;simp only[qQ.kids,List.length]at d8;injection d8 with e1 e2 e3;subst e1 e2 e3;have⟨k0,k1,k2,k3,k4,k5,_⟩:=Z.a;simp only[Nat.zero_add,Nat.zero_mul,Nat.one_mul,Nat.reduceAdd,Nat.reduceMul,List.getElem_cons_zero,List.getElem_cons_succ,qQ.kind,qQ.text,qQ.num,qQ.line,qQ.col,qQ.kids]at k0 k1 k2 k3 k4 k5;obtain⟨c0,c1,c2,c3,c4,c5⟩:=S0.o.cells;have j:=S0.o.lt;have S1:=hI (S0.o.alloc (.cells (qS (.mk zB z um C I []) (.slice qa 0 ca)).toArray 57));have T1:=hI (Hn.new (.mk zB z um C I []) (.slice qa 0 ca) (w.alloc (.cells (qS (.mk k x m ln co (.mk zB z um C I [] :: r)) (.slice (some ⟨g0,0,none⟩) (r.length+1) vc)).toArray 57)));have g4:(0:Int) < ((r.length:Int)+1):=by omega
 clear Z Y;simp only[qS,qQ.kind,qQ.text,qQ.num,qQ.line,qQ.col,qQ.kids]at S1 T1;unfold zB at *;go_wp2_with fail
 have HQ:=qXA (t:=.mk [116,121,112,101] z um C I []) (v:=.slice qa 0 ca) (lo:=0) (hi:=0) ((w.alloc (.cells #[.string ⟨k.toArray⟩, .string ⟨x.toArray⟩, .int .u64 m, .int .i64 ln, .int .i64 co, .slice (some ⟨g0,0,none⟩) (r.length+1) vc] 57)).alloc (.cells #[.string ⟨#[116,121,112,101]⟩, .string ⟨z.toArray⟩, .int .u64 um, .int .i64 C, .int .i64 I, .slice qa 0 ca] 57)) S1.o.wr.tab rfl (by simpa[qQ.num]using d9) (by simp) (by simp);simp only[qZ,qQ.kind,qQ.text,qQ.num,qQ.line,qQ.col,qQ.kids]at HQ;refine HQ.mono ?_;clear HQ;rintro e w2 ⟨rfl,d2⟩;have s:=hI (S1.o.below d2);have T2:=hI (T1.o.below d2);clear S0 S1 T1 d2 k0 k1 k2 k3 k4 k5;try clear c0 c1 c2 c3 c4 c5
 try clear j
 obtain⟨k0,k1,k2,k3,k4,k5⟩:=T2.o.cells;simp only[World.size_alloc,qQ.kind,qQ.text,qQ.num,qQ.line,qQ.col,qQ.kids]at k0 k1 k2 k3 k4 k5;obtain⟨c0,c1,c2,c3,c4,c5⟩:=s.o.cells;have j:=s.o.lt;go_wp2_with fail
 refine(jF _).mono ?_;rintro e w' ⟨rfl,rfl⟩;try clear c0 c1 c2 c3 c4 c5 j
 obtain⟨c0,c1,c2,c3,c4,c5⟩:=s.o.cells;have j:=s.o.lt;have y:=hI (qXC ⟨z.toArray⟩ w2 s.o.wr.tab.types);have d5:(⟨z.toArray⟩:ByteArray).data.toList=z:=by simp
 rw[d5]at y;clear d5;cases ht:yG z;case false =>
  rw[ht]at y V;obtain⟨f3,f4⟩:J=true/\z=zA:=by simpa using V
  subst f3 f4;unfold zA at *;go_wp2_with fail
  refine(y.o).mono ?_;rintro e w' ⟨rfl,rfl⟩;go_wp2_with fail
  refine(jF _).mono ?_;rintro e w' ⟨rfl,rfl⟩;try clear c0 c1 c2 c3 c4 c5 j
  skip
  obtain⟨c0,c1,c2,c3,c4,c5⟩:=s.o.cells;have j:=s.o.lt;go_wp2_with fail
  try clear c0 c1 c2 c3 c4 c5
  try clear j
  have H:=jZ (S:=w2.1.size) [[118,111,105,100],x] s.o.wr (by simp) (by simp) (by have:=O.o;(try simp only[lL,lO,lZ]at this ⊢);omega);simp only[jT,List.map,List.length]at H;refine H.mono ?_;clear H;rintro e w3 ⟨rfl,A,G⟩;have S3:=hI (s.o.call A G);clear s A G;go_wp2
  first | go_end0 | refine bodyPost_ret (v:=.tuple #[]) (by simp[results,results112,go_sem]) rfl ?_
  exact⟨rfl,by simpa[List.append_assoc,qY,qG,qC,qO,zB,zD,zX,qE,kIf,zS,qA,qV,qF,qD,qP,qW,qN,zW,zM,qL,qM,qT,zK,zL,qH,zA]using S3.o.wr,S3.o.kp⟩
 case true =>
  rw[ht]at y V;go_wp2_with fail
  refine(y.o).mono ?_;rintro e w' ⟨rfl,rfl⟩;go_wp2_with fail
  refine(jF _).mono ?_;rintro e w' ⟨rfl,rfl⟩;try clear c0 c1 c2 c3 c4 c5 j
  skip
  obtain⟨c0,c1,c2,c3,c4,c5⟩:=s.o.cells;have j:=s.o.lt;go_wp2_with fail
  try clear c0 c1 c2 c3 c4 c5
  try clear j
  have H:=jZ (S:=w2.1.size) [z,x] s.o.wr (by simp) (by simp) (by have:=O.o;(try simp only[lL,lO,lZ]at this ⊢);omega);simp only[jT,List.map,List.length]at H;refine H.mono ?_;clear H;rintro e w3 ⟨rfl,A,G⟩;have S3:=hI (s.o.call A G);clear s A G;go_wp2
  first | go_end0 | refine bodyPost_ret (v:=.tuple #[]) (by simp[results,results112,go_sem]) rfl ?_
  exact⟨rfl,by simpa[List.append_assoc,qY,qG,qC,qO,zB,zD,zX,qE,kIf,zS,qA,qV,qF,qD,qP,qW,qN,zW,zM,qL,qM,qT,zK,zL,qH,zA]using S3.o.wr,S3.o.kp⟩
theorem qPT :kZ 117 (fun p n=>#[p,n]) (qZy):=by
 intro lo B acc t v w ws Z hL V X s;obtain⟨k,x,m,ln,co,ks⟩:=t;obtain⟨Y,C,d3,d2,G,J⟩:=id V;simp only[qZy,qY,qG,qC,qO,zB,zD,zX,qE,kIf,zS,qA,qV,qF,qD,qP,qW,qN,zW,zM,qL,qM,qT,zK,zL,qH,zA,qQ.kind,qQ.text,qQ.num,qQ.line,qQ.col,qQ.kids]at X;obtain⟨hb,y⟩:=zN X;clear X;injection y with y;subst y;simp only[bE,beq_iff_eq,List.length_eq_zero_iff]at hb;obtain⟨rfl,rfl,rfl⟩:=hb;obtain⟨u,rfl⟩:∃ u:Nat,m=u:=⟨m.toNat,by omega⟩;have hu:u < 18446744073709551616:=by omega
 obtain⟨q0,vc,hv,hvc,d4⟩:=hL.shape;simp only[qQ.kind,qQ.text,qQ.num,qQ.line,qQ.col,qQ.kids,List.length]at hv;subst hv;have z:=hI (Sw.start Z hL);have HF:=hI V;have d5:=hI J;have A:=hI s;have d6:=Z.lt;have d8:=hI C;have d7:=hI G;clear Z V hL J s Y C G;try simp only[qZ,qS,qQ.kind,qQ.text,qQ.num,qQ.line,qQ.col,qQ.kids]at *
 try simp only[Int.toNat_natCast]at *
 go_enter func117,ntmps117
 obtain⟨c0,c1,c2,c3,c4,c5⟩:=z.o.cells;have j:=z.o.lt;go_wp2_with fail
 refine(jF _).mono ?_;rintro e w' ⟨rfl,rfl⟩;try clear c0 c1 c2 c3 c4 c5 j
 obtain⟨c0,c1,c2,c3,c4,c5⟩:=z.o.cells;have j:=z.o.lt;go_wp2_with fail
 try clear c0 c1 c2 c3 c4 c5
 try clear j
 refine(fmt_any u hu _ z.o.wr.pow).mono ?_;rintro e w1 ⟨rfl,U⟩;have I:=hI (z.o.below U);clear z U;obtain⟨c0,c1,c2,c3,c4,c5⟩:=I.o.cells;have j:=I.o.lt;go_wp2_with fail
 try clear c0 c1 c2 c3 c4 c5
 try clear j
 have H:=jZ (S:=w1.1.size) [Lib.decDigits u] I.o.wr (by simp) (by simp) (by have:=A.o;(try simp only[lL,lO,lZ]at this ⊢);omega);simp only[jT,List.map,List.length]at H;refine H.mono ?_;clear H;rintro e w2 ⟨rfl,R,O⟩;have S2:=hI (I.o.call R O);clear I R O;go_wp2
 first | go_end0 | refine bodyPost_ret (v:=.tuple #[]) (by simp[results,results117,go_sem]) rfl ?_
 exact⟨rfl,by simpa[List.append_assoc,qY,qG,qC,qO,zB,zD,zX,qE,kIf,zS,qA,qV,qF,qD,qP,qW,qN,zW,zM,qL,qM,qT,zK,zL,qH,zA]using S2.o.wr,S2.o.kp⟩
theorem qJ9(rec:WT->qQ->Ws)(f5:kZ 150 (fun p n=>#[p,n]) (rec .expr)):kZ 163 (fun p n=>#[p,n]) (wZ rec):=by
 intro lo B acc t v w ws hW hL hF he y;obtain⟨k,x,m,ln,co,ks⟩:=t;obtain⟨f4,J,g7,g6,O,X⟩:=id hF;simp only[wZ,qY,qG,qC,qO,zB,zD,zX,qE,kIf,zS,qA,qV,qF,qD,qP,qW,qN,zW,zM,qL,qM,qT,zK,zL,qH,zA,qQ.kind,qQ.text,qQ.num,qQ.line,qQ.col,qQ.kids]at he;cases d8:(k == [98,105,110,97,114,121]);case true =>
  simp only[d8,bU,bV,bT,if_true,reduceIte]at he;obtain rfl:k=[98,105,110,97,114,121]:=by simpa using d8
  clear d8;obtain⟨g1,g5,C,d2,d6⟩:=qK he;subst d6;clear he;injection C with C;subst C;obtain⟨d7,g3,d4,A,d5⟩:=qK d2;subst d5;clear d2;injection A with A;subst A;obtain⟨q0,vc,hv,hvc,g0⟩:=hL.shape;simp only[qQ.kind,qQ.text,qQ.num,qQ.line,qQ.col,qQ.kids,List.length]at hv;subst hv;have z:=hI (Sw.start hW hL);have HF:=hI hF;have f6:=hI X;have s:=hI y;have f9:=hW.lt;have f8:=hI J;have f7:=hI O;clear hW hF hL X y f4 J O;try simp only[qZ,qS,qQ.kind,qQ.text,qQ.num,qQ.line,qQ.col,qQ.kids]at *
  go_enter func163,ntmps163
  obtain⟨c0,c1,c2,c3,c4,c5⟩:=z.o.cells;have j:=z.o.lt;go_wp2_with fail
  try clear c0 c1 c2 c3 c4 c5
  try clear j
  have H:=jZ (S:=w.1.size+1) [[40]] z.o.wr (by simp) (by simp) (by have:=s.o;(try simp only[lL,lO,lZ]at this ⊢);omega);simp only[jT,List.map,List.length]at H;refine H.mono ?_;clear H;rintro e w3 ⟨rfl,U,Y⟩;have G:=hI (z.o.call U Y);clear z U Y;have HC:=hI (f5 lo B (acc++[[40]]) (.mk [98,105,110,97,114,121] x m ln co ks) _ _ d7 G.o.wr G.o.li HF.o d4 (by have:=s.o;(try simp only[lL,lO,lZ]at this ⊢);omega));try simp only[qZ,qQ.kind,qQ.text,qQ.num,qQ.line,qQ.col,qQ.kids]at HC
  obtain⟨c0,c1,c2,c3,c4,c5⟩:=G.o.cells;have j:=G.o.lt;go_wp2_with fail
  try clear c0 c1 c2 c3 c4 c5
  try clear j
  refine(HC.o).mono ?_;rintro e w4 ⟨rfl,Z,I⟩;have V:=hI (G.o.call Z I);clear G Z I HC;obtain⟨c0,c1,c2,c3,c4,c5⟩:=V.o.cells;have j:=V.o.lt;go_wp2_with fail
  try clear c0 c1 c2 c3 c4 c5
  try clear j
  have H:=jZ (S:=w4.1.size) [[41]] V.o.wr (by simp) (by simp) (by have:=s.o;(try simp only[lL,lO,lZ]at this ⊢);omega);simp only[jT,List.map,List.length]at H;refine H.mono ?_;clear H;rintro e w5 ⟨rfl,R,d3⟩;have S5:=hI (V.o.call R d3);clear V R d3;go_wp2
  first | go_end0 | refine bodyPost_ret (v:=.tuple #[]) (by simp[results,results163,go_sem]) rfl ?_
  exact⟨rfl,by simpa[List.append_assoc,qY,qG,qC,qO,zB,zD,zX,qE,kIf,zS,qA,qV,qF,qD,qP,qW,qN,zW,zM,qL,qM,qT,zK,zL,qH,zA]using S5.o.wr,S5.o.kp⟩
 case false =>
 simp only[d8,bO,bP,bF,if_false,reduceIte]at he;cases d9:(k == [117,110,97,114,121]);case true =>
  simp only[d9,bU,bV,bT,if_true,reduceIte]at he;obtain rfl:k=[117,110,97,114,121]:=by simpa using d9
  clear d9;obtain⟨g1,g5,C,d2,d6⟩:=qK he;subst d6;clear he;injection C with C;subst C;obtain⟨d7,g3,d4,A,d5⟩:=qK d2;subst d5;clear d2;injection A with A;subst A;obtain⟨q0,vc,hv,hvc,g0⟩:=hL.shape;simp only[qQ.kind,qQ.text,qQ.num,qQ.line,qQ.col,qQ.kids,List.length]at hv;subst hv;have z:=hI (Sw.start hW hL);have HF:=hI hF;have f6:=hI X;have s:=hI y;have f9:=hW.lt;have f8:=hI J;have f7:=hI O;clear hW hF hL X y f4 J O;try simp only[qZ,qS,qQ.kind,qQ.text,qQ.num,qQ.line,qQ.col,qQ.kids]at *
  go_enter func163,ntmps163
  obtain⟨c0,c1,c2,c3,c4,c5⟩:=z.o.cells;have j:=z.o.lt;go_wp2_with fail
  try clear c0 c1 c2 c3 c4 c5
  try clear j
  have H:=jZ (S:=w.1.size+1) [[40]] z.o.wr (by simp) (by simp) (by have:=s.o;(try simp only[lL,lO,lZ]at this ⊢);omega);simp only[jT,List.map,List.length]at H;refine H.mono ?_;clear H;rintro e w3 ⟨rfl,U,Y⟩;have G:=hI (z.o.call U Y);clear z U Y;have HC:=hI (f5 lo B (acc++[[40]]) (.mk [117,110,97,114,121] x m ln co ks) _ _ d7 G.o.wr G.o.li HF.o d4 (by have:=s.o;(try simp only[lL,lO,lZ]at this ⊢);omega));try simp only[qZ,qQ.kind,qQ.text,qQ.num,qQ.line,qQ.col,qQ.kids]at HC
  obtain⟨c0,c1,c2,c3,c4,c5⟩:=G.o.cells;have j:=G.o.lt;go_wp2_with fail
  try clear c0 c1 c2 c3 c4 c5
  try clear j
  refine(HC.o).mono ?_;rintro e w4 ⟨rfl,Z,I⟩;have V:=hI (G.o.call Z I);clear G Z I HC;obtain⟨c0,c1,c2,c3,c4,c5⟩:=V.o.cells;have j:=V.o.lt;go_wp2_with fail
  try clear c0 c1 c2 c3 c4 c5
  try clear j
  have H:=jZ (S:=w4.1.size) [[41]] V.o.wr (by simp) (by simp) (by have:=s.o;(try simp only[lL,lO,lZ]at this ⊢);omega);simp only[jT,List.map,List.length]at H;refine H.mono ?_;clear H;rintro e w5 ⟨rfl,R,d3⟩;have S5:=hI (V.o.call R d3);clear V R d3;go_wp2
  first | go_end0 | refine bodyPost_ret (v:=.tuple #[]) (by simp[results,results163,go_sem]) rfl ?_
  exact⟨rfl,by simpa[List.append_assoc,qY,qG,qC,qO,zB,zD,zX,qE,kIf,zS,qA,qV,qF,qD,qP,qW,qN,zW,zM,qL,qM,qT,zK,zL,qH,zA]using S5.o.wr,S5.o.kp⟩
 case false =>
 simp only[d9,bO,bP,bF,if_false,reduceIte]at he;cases f3:(k == [99,97,115,116]);case true =>
  simp only[f3,bU,bV,bT,if_true,reduceIte]at he;obtain rfl:k=[99,97,115,116]:=by simpa using f3
  clear f3;obtain⟨g1,g5,C,d2,d6⟩:=qK he;subst d6;clear he;injection C with C;subst C;obtain⟨d7,g3,d4,A,d5⟩:=qK d2;subst d5;clear d2;injection A with A;subst A;obtain⟨q0,vc,hv,hvc,g0⟩:=hL.shape;simp only[qQ.kind,qQ.text,qQ.num,qQ.line,qQ.col,qQ.kids,List.length]at hv;subst hv;have z:=hI (Sw.start hW hL);have HF:=hI hF;have f6:=hI X;have s:=hI y;have f9:=hW.lt;have f8:=hI J;have f7:=hI O;clear hW hF hL X y f4 J O;try simp only[qZ,qS,qQ.kind,qQ.text,qQ.num,qQ.line,qQ.col,qQ.kids]at *
  go_enter func163,ntmps163
  obtain⟨c0,c1,c2,c3,c4,c5⟩:=z.o.cells;have j:=z.o.lt;go_wp2_with fail
  try clear c0 c1 c2 c3 c4 c5
  try clear j
  have H:=jZ (S:=w.1.size+1) [[40]] z.o.wr (by simp) (by simp) (by have:=s.o;(try simp only[lL,lO,lZ]at this ⊢);omega);simp only[jT,List.map,List.length]at H;refine H.mono ?_;clear H;rintro e w3 ⟨rfl,U,Y⟩;have G:=hI (z.o.call U Y);clear z U Y;have HC:=hI (f5 lo B (acc++[[40]]) (.mk [99,97,115,116] x m ln co ks) _ _ d7 G.o.wr G.o.li HF.o d4 (by have:=s.o;(try simp only[lL,lO,lZ]at this ⊢);omega));try simp only[qZ,qQ.kind,qQ.text,qQ.num,qQ.line,qQ.col,qQ.kids]at HC
  obtain⟨c0,c1,c2,c3,c4,c5⟩:=G.o.cells;have j:=G.o.lt;go_wp2_with fail
  try clear c0 c1 c2 c3 c4 c5
  try clear j
  refine(HC.o).mono ?_;rintro e w4 ⟨rfl,Z,I⟩;have V:=hI (G.o.call Z I);clear G Z I HC;obtain⟨c0,c1,c2,c3,c4,c5⟩:=V.o.cells;have j:=V.o.lt;go_wp2_with fail
  try clear c0 c1 c2 c3 c4 c5
  try clear j
  have H:=jZ (S:=w4.1.size) [[41]] V.o.wr (by simp) (by simp) (by have:=s.o;(try simp only[lL,lO,lZ]at this ⊢);omega);simp only[jT,List.map,List.length]at H;refine H.mono ?_;clear H;rintro e w5 ⟨rfl,R,d3⟩;have S5:=hI (V.o.call R d3);clear V R d3;go_wp2
  first | go_end0 | refine bodyPost_ret (v:=.tuple #[]) (by simp[results,results163,go_sem]) rfl ?_
  exact⟨rfl,by simpa[List.append_assoc,qY,qG,qC,qO,zB,zD,zX,qE,kIf,zS,qA,qV,qF,qD,qP,qW,qN,zW,zM,qL,qM,qT,zK,zL,qH,zA]using S5.o.wr,S5.o.kp⟩
 case false =>
 simp only[f3,bO,bP,bF,if_false,reduceIte]at he;obtain⟨q0,vc,hv,hvc,g0⟩:=hL.shape;simp only[qQ.kind,qQ.text,qQ.num,qQ.line,qQ.col,qQ.kids,List.length]at hv;subst hv;have z:=hI (Sw.start hW hL);have HF:=hI hF;have f6:=hI X;have s:=hI y;have f9:=hW.lt;have f8:=hI J;have f7:=hI O;clear hW hF hL X y f4 J O;try simp only[qZ,qS,qQ.kind,qQ.text,qQ.num,qQ.line,qQ.col,qQ.kids]at *
 go_enter func163,ntmps163
 have HC:=hI (f5 lo B acc (.mk k x m ln co ks) _ _ ws z.o.wr z.o.li HF.o he (by have:=s.o;(try simp only[lL,lO,lZ]at this ⊢);omega));try simp only[qZ,qQ.kind,qQ.text,qQ.num,qQ.line,qQ.col,qQ.kids]at HC
 obtain⟨c0,c1,c2,c3,c4,c5⟩:=z.o.cells;have j:=z.o.lt;go_wp2_with fail
 try clear c0 c1 c2 c3 c4 c5
 try clear j
 refine(HC.o).mono ?_;rintro e w1 ⟨rfl,g4,g2⟩;have S1:=hI (z.o.call g4 g2);clear z g4 g2 HC;go_wp2
 first | go_end0 | refine bodyPost_ret (v:=.tuple #[]) (by simp[results,results163,go_sem]) rfl ?_
 exact⟨rfl,by simpa[List.append_assoc,qY,qG,qC,qO,zB,zD,zX,qE,kIf,zS,qA,qV,qF,qD,qP,qW,qN,zW,zM,qL,qM,qT,zK,zL,qH,zA]using S1.o.wr,S1.o.kp⟩
theorem qWy.cases{B:Nat}{d:Int}{w:World}{p:PR Unit}{e:Ending}{w':World}(h:qWy B d w p e w')(ho:p≠.out) :
 (∃ l,p=.ok () l/\e=.returned (.tuple #[])/\vP B l d w'/\w.grownBy w' (some B)) \/
 ∃ ln c code,p=.bad ln c code/\e=.panicked [{ v:=qXo ln c code,recovered:=false }]/\w.grownBy w' (some B):=by
 cases p with
 | ok t l=>exact .inl ⟨l,rfl,h.1,h.2.1,h.2.2⟩
 | bad ln c code=>exact .inr ⟨ln,c,code,rfl,h.1,h.2⟩
 | out=>exact absurd rfl ho
theorem qVF:∀ (xs:List (List UInt8)) (l:List Tok),jL xs l≠.out
 | [],l,h=>by simp[jL]at h
 | x :: xs,[],h=>by simp[jL,jV,PR.bind]at h
 | x :: xs,t :: r,h=>by
  rw[jL,jV]at h;split at h
  ·exact qVF xs r h
  ·simp[PR.bind]at h
theorem qPZ{B S:Nat}{l:List Tok}{d:Int}{w:World}(x:List UInt8)(h:vP B l d w)(s:x≠[])(hS:w.1.size=S) :
 Calls prog 108 #[.pointer (some ⟨B,0,none⟩), .slice (some ⟨S,0,none⟩) 1 1] (w.alloc (.cells #[.string ⟨x.toArray⟩] 9)) fun e w' =>
  (∃ l',jL [x] l=.ok () l'/\e=.returned (.tuple #[])/\vP B l' d w'/\w.grownBy w' (some B)) \/
  ∃ ln c code,jL [x] l=.bad ln c code/\e=.panicked [{ v:=qXo ln c code,recovered:=false }]/\w.grownBy w' (some B):=by
 subst hS;refine(qPY B w.1.size 1 [x] l d (w.alloc (.cells #[.string ⟨x.toArray⟩] 9)) (h.below ((Below.refl _ _).alloc (Nat.le_refl _) _)) h.lt (fun i hi=>?_) (fun y hy=>by simp at hy;rw[hy];exact s) (by simp) (by simp)).mono fun e w' hq=>?_
 ·obtain rfl:i=0:=by simpa using hi
  simp[go_sem]
 ·have j:=World.grownBy_alloc w (.cells #[.string ⟨x.toArray⟩] 9) (some B);rcases hq.cases (qVF _ _)with⟨l',o,h2,h3,h4⟩ | ⟨ln,c,code,o,h2,h3⟩
  ·exact .inl ⟨l',o,h2,h3,qR j h4⟩
  ·exact .inr ⟨ln,c,code,o,h2,qR j h3⟩
theorem qQq{o:Oper}{a:Act}{K:Act->World->Prop}{Q:Exit->Act->World->Prop}{w:World}{lo j S dd:Nat}{acc:List qQ}{t:qQ}{v u:Value}(s x:Operand)
 (ho:o.op=.call { callee:=.builtin .append,args:=#[s,x],argTypes:=#[55,55] }) (hd:o.dst=some dd) (hB:zC w lo acc v) (C:zC w j t.kids u) (hlo:lo<=j) (hv:∀ g,v.ownBlock=some g->g < j) (y:j<=w.1.size)
 (hs:a.eval s=v) (hS:w.1.size=S) (z:a.eval x=.slice (some ⟨S,0,none⟩) 1 1) (A:acc.length < 1000000)
 (h:∀ v' w',zC w' lo (acc++[t]) v'->(w.alloc (.cells (qS t u).toArray 57)).grownBy w' v.ownBlock->K (a.put (some dd) v') w') :
 o.wp prog a (w.alloc (.cells (qS t u).toArray 57)) K Q :=
 qPe s x ho hB C hlo hv y hs hS z A (fun v' w' h1 h2=>by rw[hd];exact h v' w' h1 h2)
theorem qZ8{w0 A z:World}{B N:Nat}{l:List Tok}{d:Int}{k x:List UInt8}{n ln c:Int}{v s:Value}{acc ts:List qQ}{o:Obj}(S:St w0 B l d A)(G:Nd N k x n ln c v acc A)(I:w0.1.size < N)
 (C:zC z (N+1) ts s) (hg7:(A.alloc o).grownBy z v.ownBlock):St w0 B l d (z.setCell ⟨N,5,none⟩ s)/\Nd N k x n ln c s ts (z.setCell ⟨N,5,none⟩ s):=by
 have y:=G.bd.lt;refine⟨((S.alloc o).local hg7 (fun j e=>by have:=(y j e).1;omega)).setN I _ _,?_,C.grown (jM _ _ _ _) (fun j e=>by cases e;exact .inl (Nat.lt_succ_self _))⟩;exact((G.nd.grown (World.grownBy_alloc A o none) (by simp)).grown hg7 (fun e=>by have:=(y N e.symm).1;omega)).set5 s
def qXy(x:List UInt8):Nat:=if x == kIf then 141 else if x == qA then 142 else if x == qV then 143 else if x == qF || x == qD then 144 else if yG x then 145 else 146
theorem zT(fn:Fn)(first j:Array Value)(w:World):(Instr.makeFunc fn first j).run prog w=.ok (.func fn first j) w:=rfl
theorem reader_at(B:Nat)(t:Tok)(r:List Tok)(d:Int)(w:World)(f:Nat)(hf:qXy t.text=f)(h:vP B (t :: r) d w) :
 Calls prog 127 #[.pointer (some ⟨B,0,none⟩)] w fun e w'=>e=.returned (.func (.func f) #[.pointer (some ⟨B,0,none⟩)] #[])/\Below w.1.size w w':=by
 have H:=hI (kY B t r d w h);have s:=hI hf;clear hf;have C:=zT;have I:=vS;go_enter func127,ntmps127
 go_wp2_with fail
 refine(H.o).mono ?_;rintro e z ⟨rfl,hb⟩;have hT:qWD z:=by
  obtain⟨lo,T,o,c,j⟩:=h.below hb;exact j.tab.types
 have G:=hI (qXC ⟨t.text.toArray⟩ z hT);clear h H hT;unfold vT xA;cases j:(t.text == [105,102]);case true =>
  obtain rfl:f=141:=by rw[<-s.o];simp only[qXy,kIf,qA,qV,qF,qD,j];rfl
  go_wp2
  go_ret;exact⟨rfl,hb⟩
 case false =>
 cases h2:(t.text == [119,104,105,108,101]);case true =>
  obtain rfl:f=142:=by rw[<-s.o];simp only[qXy,kIf,qA,qV,qF,qD,j,h2];rfl
  go_wp2
  go_ret;exact⟨rfl,hb⟩
 case false =>
 cases h3:(t.text == [114,101,116,117,114,110]);case true =>
  obtain rfl:f=143:=by rw[<-s.o];simp only[qXy,kIf,qA,qV,qF,qD,j,h2,h3];rfl
  go_wp2
  go_ret;exact⟨rfl,hb⟩
 case false =>
 cases h4:(t.text == [97,115,115,101,114,116]);case true =>
  obtain rfl:f=144:=by rw[<-s.o];simp only[qXy,kIf,qA,qV,qF,qD,j,h2,h3,h4];rfl
  go_wp2
  go_ret;exact⟨rfl,hb⟩
 case false =>
 cases y:(t.text == [97,115,115,117,109,101]);case true =>
  obtain rfl:f=144:=by rw[<-s.o];simp only[qXy,kIf,qA,qV,qF,qD,j,h2,h3,h4,y];rfl
  go_wp2
  go_ret;exact⟨rfl,hb⟩
 case false =>
 go_wp2_with fail
 refine(G.o).mono ?_;rintro e w2 ⟨rfl,rfl⟩;cases A:yG t.text
 ·obtain rfl:f=146:=by rw[<-s.o];simp only[qXy,kIf,qA,qV,qF,qD,j,h2,h3,h4,y,A];rfl
  go_wp2
  go_ret;exact⟨rfl,hb⟩
 ·obtain rfl:f=145:=by rw[<-s.o];simp only[qXy,kIf,qA,qV,qF,qD,j,h2,h3,h4,y,A];rfl
  go_wp2
  go_ret;exact⟨rfl,hb⟩
def yR(f:Nat):Prop:=∀ (args:Array Value) (w:World),(callFunc f args).run prog w=.ok (.enter f args) w
def BlockRel(p:List Tok->PR qQ)(n:Nat)(R:PR (List qQ))(w:World)(B N:Nat)(d ln c:Int)(k:Nat)(wr:World):Prop :=
 ∃ acc l v,St w B l d wr/\Nd N zX [] 0 ln c v acc wr/\vI (fun u=>u.text == [125]) p k acc l=R/\acc.length+k<=n
theorem qWG{α β:Type}{p:PR α}{f:α->List Tok->PR β}(h:p.bind f≠.out):p≠.out:=fun e=>h (by rw[e];rfl)
theorem bind_ok{α β:Type}{p:PR α}{f:α->List Tok->PR β}{a:α}{l:List Tok}(h:p=.ok a l):p.bind f=f a l:=by rw[h];rfl
theorem qXl{α β:Type}{p:PR α}{f:α->List Tok->PR β}{ln c code:Int}(h:p=.bad ln c code):p.bind f=.bad ln c code:=by rw[h];rfl
theorem qLT(rec:NT->Int->List Tok->PR qQ)(n:Nat)(d:Int)(hn:n<=900000)(s:∀ x,yR (qXy x))
 (f3:∀ (B:Nat) (l:List Tok) (w:World),vP B l d w->qQA rec n d l≠.out->Calls prog (qXy (hdT l).text) #[.pointer (some ⟨B,0,none⟩)] w (qXV B d w (qQA rec n d l))) :
 vM 107 (fun p=>#[p]) d (qQK rec n d):=by
 intro B l w h f8;obtain⟨t,r,rfl⟩:=h.ends.ne;have S0:=St.start h;have H:=hI (kY B t r d _ S0.ps);have HN:=hI (jI t ⟨#[98,108,111,99,107]⟩ ⟨#[]⟩);have Z:=hI S0;have g6:=hI f8;have g7:=hI f3;have d6:=hI s;clear h S0 f8 f3 s;unfold jY at *;go_enter func107,ntmps107
 go_wp2_with fail
 refine(H.o).mono ?_;rintro e w1 ⟨rfl,f9⟩;have S1:=hI (Z.o.below f9);clear H Z f9;go_wp2_with fail
 refine(HN.o _).mono ?_;rintro e w2 ⟨rfl,d5⟩;have S2:=(S1.o.below d5).alloc (wD zX [] 0 t.line t.col (.slice none 0 0));have N2:=hI (Nd.new zX [] 0 t.line t.col w2);have HP:=hI (qPZ (S:=w2.1.size+1) [123] S2.ps (by simp) (by simp));have d4:=hI S2;have hwN:w.1.size < w2.1.size:=(S1.o.below d5).lt;have m7:=S2.hB;clear S1 S2 d5 HN;unfold wD zX at *;go_wp2_with fail
 refine(HP.o).mono ?_;rintro e w3 (⟨l3,he3,rfl,hP3,hg3⟩ | ⟨ln,c,code,he3,rfl,hg3⟩)
 ·have S3:=hI (d4.o.call hP3 hg3);have N3:=hI (N2.o.call hg3 (by omega));have d3:=hI he3;have V:vI (fun u=>u.text == [125]) (qQA rec n d) n [] l3≠.out:=by
   have:=g6.o;unfold qQK at this;rw[bind_ok he3]at this;exact qWG this
  have U:=hI V;clear HP d4 N2 hP3 hg3 he3 V;go_wp2_with fail
  go_loopg [] n (fun k wr=>BlockRel (qQA rec n d) n (vI (fun u=>u.text == [125]) (qQA rec n d) n [] l3) w B w2.1.size d t.line t.col k wr)
  case atStart=>exact⟨[],l3,_,S3.o,N3.o,rfl,by simp⟩
  case round =>
   obtain⟨acc,l1,v,S,N,hm,m2⟩:=hrel;obtain⟨j,G,rfl⟩:=S.ps.ends.ne;obtain⟨q,vn,vc,rfl⟩:=N.bd.shape;have HA:=hI (wN B j G d [125] wr S.ps);have Z:=hI S;have HN:=hI N;have HM:=hI hm;clear S N hm S3 N3;have m3:=zT;cases gk with
   | zero=>exact absurd HM.o.symm U.o
   | succ m =>
   by_cases he:j.text=[125]
   ·have I:(j.text == [125])=true:=by simpa using he
    rw[I]at HA;have z:vI (fun u=>u.text == [125]) (qQA rec n d) (m+1) acc (j :: G)=.ok acc (j :: G):=by
     rw[vI];have:(hdT (j :: G)).text=j.text:=rfl;rw[this,I];rfl
    have C:=hI z;clear z he;go_wp2_with fail
    refine(HA.o).mono ?_;rintro e w4 ⟨rfl,hb4⟩;have S4:=Z.o.below hb4;have HP:=hI (qPZ (S:=w4.1.size) [125] S4.ps (by simp) rfl);have d2:=hI S4;have N4:=hI (HN.o.below hb4);clear S4 hb4 Z HN HA;go_wp2_with fail
    refine(HP.o).mono ?_;rintro e w5 (⟨l5,he5,rfl,hP5,hg5⟩ | ⟨ln,c,code,he5,rfl,hg5⟩)
    ·have R:=d2.o.call hP5 hg5;have J:=N4.o.call hg5 (by omega);have m1:=hI he5;have m5:=R.lt;have hs2:=J.lt;have hr:=R.res;have hq:=J.nd;have⟨r0,m9,r2,r3,r4,r5,_⟩:=hr.a;have⟨g0,g1,g2,g3,g4,g5,_⟩:=hr.b;have⟨q0,q1,q2,q3,q4,q5,_⟩:=hq.a;have g9:=hI R;have g8:=hI J;clear hr hq R J hP5 hg5 he5 HP d2 N4;unfold zX at q0;go_wp2
     refine bodyPost_ret (v:=qZ (.mk zX [] 0 t.line t.col acc) (.slice q vn vc)) (by simp[results,results107,go_sem,qZ,qQ.kind,qQ.text,qQ.num,qQ.line,qQ.col,zX, *]) rfl ?_;have:qQK rec n d (t :: r)=.ok (.mk zX [] 0 t.line t.col acc) l5:=(bind_ok d3.o).trans ((bind_ok (HM.o.symm.trans C.o)).trans (bind_ok m1.o));rw[this];exact g9.o.fin (g8.o.bd.mono (by omega)) _ _ _ _ _ _
    ·refine⟨rfl,?_⟩;have:qQK rec n d (t :: r)=.bad ln c code:=(bind_ok d3.o).trans ((bind_ok (HM.o.symm.trans C.o)).trans (qXl he5));rw[this];exact d2.o.pan ⟨rfl,hg5⟩
   ·have I:(j.text == [125])=false:=by simpa using he
    rw[I]at HA;go_wp2_with fail
    refine(HA.o).mono ?_;rintro e w4 ⟨rfl,hb4⟩;have HR:=hI (reader_at B j G d w4 _ rfl (Z.o.below hb4).ps);go_wp2_with fail
    refine(HR.o).mono ?_;rintro e w5 ⟨rfl,hb5⟩;have R:=hI ((Z.o.below hb4).below hb5).drew;have J:=hI ((HN.o.below hb4).below hb5).drew;have z:vI (fun u=>u.text == [125]) (qQA rec n d) (m+1) acc (j :: G)=(qQA rec n d (j :: G)).bind fun t l=>vI (fun u=>u.text == [125]) (qQA rec n d) m (acc++[t]) l:=by
     rw[vI];have:(hdT (j :: G)).text=j.text:=rfl;rw[this,I];rfl
    have X:qQA rec n d (j :: G)≠.out:=fun e=>U.o (by rw[<-HM.o,z,e];rfl)
    have C:=hI z;have Y:=hI X;clear hb4 hb5 Z HN HA HR z X he;have s:=d6.o j.text;unfold yR at s;generalize hF:qXy j.text=f at *;go_wp2_with fail
    have c5:=J.o.nd.c5;refine wRg (S:=fun w'=>w'.cell? ⟨w2.1.size,5,none⟩=some (.slice q vn vc)) 5 ?_;refine wTk 0 16 (.pointer (some ⟨w2.1.size,5,none⟩)) ?_ c5 ?_
    ·intro _ y;go_simp
    refine wTk 1 17 (.slice q vn vc) ?_ c5 ?_
    ·intro _ y;go_simp
    refine wTk 2 18 (.func (.func f) #[.pointer (some ⟨B,0,none⟩)] #[]) ?_ c5 ?_
    ·intro _ y;go_simp
    refine wOn 3 fun K hK=>?_
    go_simp;have HC:=g7.o B (j :: G) _ R.o.ps Y.o;rw[show(hdT (j :: G)).text=j.text from rfl,hF]at HC;refine HC.mono ?_;intro e w6 hq;rcases hq.cases Y.o with⟨t6,l6,q6,n6,c6,he6,rfl,d9,d8,A⟩ | ⟨ln,c,code,he6,rfl,A⟩
    ·have S6:=hI (R.o.call d8 A);have N6:=hI (J.o.call A (by omega));have f5:=hI d9;have O:=J.o.bd.lt;have m0:=N6.o.nd.c5;have m6:=N6.o.nd.f 5 nL;have n1:=N6.o.lt;have d7:=J.o.lt;have f4:w5.drew.1.size<=w6.1.size:=A.size;clear d8 A d9 HC hq R J;unfold qZ;refine kK hK m0 ?_;clear hK K;refine wOn 4 fun K hK=>?_
     go_simp;refine kK hK (by go_simp) ?_;clear hK K;refine wOn 5 fun K hK=>?_
     refine qQq (dd:=21) (t:=t6) (u:=.slice q6 n6 c6) _ _ rfl rfl N6.o.bd f5.o (by have:=(d7:w2.1.size < w5.drew.1.size);omega) (fun g hg=>(O g hg).2) f4 rfl rfl rfl (by omega) (fun v7 w7 hb7 hg7=>?_);refine kD hK ?_;clear hK K;obtain⟨q7,n7,c7,rfl⟩:=hb7.shape;have f7:=qZ8 S6.o N6.o hwN hb7 hg7;have m4:w7.frozen? ⟨w2.1.size,5,none⟩=false:=((N6.o.nd.grown (World.grownBy_alloc w6 _ none) (by simp)).grown hg7 (fun e=>by have:=(O _ e.symm).1;omega)).f 5 nL;have n0:=((N6.o.nd.grown (World.grownBy_alloc w6 _ none) (by simp)).grown hg7 (fun e=>by have:=(O _ e.symm).1;omega)).c5;have f6:=hI f7;clear f7 hb7 hg7 S6 N6 f5 O;try simp only[Act.put,pZa,pZb,pZc]
     refine wOn 6 fun K hK=>?_
     go_simp;refine kD hK ?_;clear hK K;refine wOn 7 fun K hK=>?_
     go_simp;refine kD hK ?_;clear hK K;refine wDn ?_ _;go_wp2
     go_roundg m
     case measure=>omega
     case rel=>exact⟨acc++[t6],l6,_,f6.o.1,f6.o.2,by rw[<-HM.o,C.o,he6];rfl,by simp;omega⟩
    ·refine⟨rfl,?_⟩;have:qQK rec n d (t :: r)=.bad ln c code:=(bind_ok d3.o).trans (qXl (HM.o.symm.trans (C.o.trans (qXl he6))));rw[this];exact R.o.pan ⟨rfl,A⟩
 ·refine⟨rfl,?_⟩;have:qQK rec n d (t :: r)=.bad ln c code:=qXl he3;rw[this];exact d4.o.pan ⟨rfl,hg3⟩
end Go.Proofs.YtiajhekdhhhghaaGreatDoor
