/- Walks. -/
import Derived.Test.YtiajhekdhhhghaaGreatDoorMas
set_option linter.all false
set_option maxHeartbeats 8000000
set_option maxRecDepth 100000
namespace Go.Proofs.YtiajhekdhhhghaaGreatDoor.NZ
open Go Go.RowKit
def zJ{α:Type}(S:α->α->Prop):PR α->PR α->Prop
 | .ok a l, .ok b l'=>S a b/\Al l l'
 | .bad _ _ c, .bad _ _ c'=>c=c'/\c≠0
 | .out, .out=>True
 | _,_=>False
section
variable {α β:Type} {S:α->α->Prop} {T:β->β->Prop}
theorem zJ.ok{a b:α}{l l':List Tok}(h:S a b)(h':Al l l'):zJ S (.ok a l) (.ok b l'):=⟨h,h'⟩
theorem zJ.bind{p p':PR α}{f f':α->List Tok->PR β}(h:zJ S p p')(hf:∀ a b l l',S a b->Al l l'->zJ T (f a l) (f' b l')):zJ T (p.bind f) (p'.bind f'):=by
 cases p with
 | ok a l =>
  cases p' with
  | ok b l'=>exact hf a b l l' h.1 h.2
  | bad _ _ _=>exact h.elim
  | out=>exact h.elim
 | bad x y c =>
  cases p' with
  | ok b l'=>exact h.elim
  | bad _ _ _=>exact h
  | out=>exact h.elim
 | out =>
  cases p' with
  | ok b l'=>exact h.elim
  | bad _ _ _=>exact h.elim
  | out=>trivial
theorem zJ.ite{b b':Bool}{p q p' q':PR α}(hb:b=b')(h1:zJ S p p')(h2:zJ S q q'):zJ S (if b=true then p else q) (if b'=true then p' else q'):=by
 subst hb;cases b
 ·exact h2
 ·exact h1
end
theorem qW6(code:Int)(l l':List Tok)(hc:code≠0:=by decide):zJ xN (qWQ code l) (qWQ code l'):=⟨rfl,hc⟩
theorem xS{may may':Bool}{l l':List Tok}(hm:may=may')(h:Al l l'):zJ qKy (jV may l) (jV may' l'):=by
 subst hm;unfold Al at h;cases l with
 | nil =>
  cases l' with
  | nil=>exact⟨rfl,by decide⟩
  | cons t r=>simp at h
 | cons t r =>
  cases l' with
  | nil=>simp at h
  | cons t' r' =>
   simp only[List.map_cons,List.cons.injEq]at h;cases may
   ·exact⟨rfl,by decide⟩
   ·exact⟨h.1,h.2⟩
def UnitE(_ _:Unit):Prop:=True
theorem Al.text{l l':List Tok}(h:Al l l')(x:List UInt8):((hdT l).text == x)=((hdT l').text == x):=by rw[h.hd.text]
theorem Al.kind{l l':List Tok}(h:Al l l')(x:Int):((hdT l).kind == x)=((hdT l').kind == x):=by rw[h.hd.kind]
theorem Al.name{l l':List Tok}(h:Al l l'):kR (hdT l)=kR (hdT l'):=by unfold kR;rw[h.hd.kind,h.hd.text]
theorem Al.type{l l':List Tok}(h:Al l l'):yG (hdT l).text=yG (hdT l').text:=by rw[h.hd.text]
theorem zQ:∀ (xs:List (List UInt8)) {l l':List Tok},Al l l'->zJ UnitE (jL xs l) (jL xs l')
 | [],_,_,h=>⟨trivial,h⟩
 | x :: xs,_,_,h=>(xS (h.text x) h).bind fun _ _ _ _ _ h'=>zQ xs h'
theorem vJ{d:Int}{p p':Int->List Tok->PR qQ}{l l':List Tok}(h:zJ xN (p (d+1) l) (p' (d+1) l')):zJ xN (xX d p l) (xX d p' l'):=by
 unfold xX;by_cases hd:d=60
 ·rw[if_pos hd,if_pos hd];exact qW6 _ _ _
 ·rw[if_neg hd,if_neg hd];exact h
theorem qZA{stop:Tok->Bool}{p p':List Tok->PR qQ}(hs:∀ {t t'},qKy t t'->stop t=stop t')(hp:∀ {l l'},Al l l'->zJ xN (p l) (p' l')):∀ (n:Nat) {acc acc':List qQ} {l l':List Tok},qYQ acc acc'->Al l l'->zJ qYQ (vI stop p n acc l) (vI stop p' n acc' l')
 | 0,_,_,_,_,_,_=>trivial
 | n+1,acc,acc',l,l',ha,h=>by
  rw[vI,vI];exact zJ.ite (hs h.hd) (zJ.ok ha h) ((hp h).bind fun _ _ _ _ ht h'=>qZA hs hp n (wA ha (jC ht)) h')
theorem qQc{kind:List UInt8}{void void':Bool}(hv:void=void'){l l':List Tok}(h:Al l l'):zJ xN (zG kind void l) (zG kind void' l') :=
 (xS (by rw[hv,h.type]) h).bind fun _ _ _ _ ht h1=>(xS h1.name h1).bind fun _ _ _ _ hu h2=>zJ.ok (zR rfl hu.text rfl (jC (zR rfl ht.text rfl yL))) h2
theorem qXv{l l':List Tok}(h:Al l l'):zJ xN (wQ l) (wQ l'):=(xS (h.kind 1) h).bind fun _ _ _ _ ht h1=>zJ.ok (zR rfl rfl ht.num yL) h1
theorem qXu{n:Nat}{p p':List Tok->PR qQ}(hp:∀ {l l'},Al l l'->zJ xN (p l) (p' l')){l l':List Tok}(h:Al l l'):zJ qYQ (xT n p l) (xT n p' l'):=by
 unfold xT;refine(zQ [[40]] h).bind fun _ _ l1 l1' _ h1=>?_
 refine zJ.ite (h1.text [41]) ((zQ [[41]] h1).bind fun _ _ _ _ _ h2=>zJ.ok yL h2) ?_;refine(hp h1).bind fun _ _ _ _ ht h2=>?_
 refine(qZA (fun ht=>by rw[ht.text]) (fun hl=>(zQ [[44]] hl).bind fun _ _ _ _ _ h3=>hp h3) n (jC ht) h2).bind fun _ _ _ _ hts h3=>?_
 exact(zQ [[41]] h3).bind fun _ _ _ _ _ h4=>zJ.ok hts h4
section
variable {rec:NT->Int->List Tok->PR qQ} {n:Nat}
def qZa(rec:NT->Int->List Tok->PR qQ):Prop:=∀ x d {l l':List Tok},Al l l'->zJ xN (rec x d l) (rec x d l')
theorem qXw(H:qZa rec)(d:Int){l l':List Tok}(h:Al l l'):zJ xN (xF rec d l) (xF rec d l'):=by
 unfold xF;refine(xS h.name h).bind fun _ _ _ _ ht h1=>?_
 refine zJ.ite (h1.text [91]) ((zQ [[91]] h1).bind fun _ _ _ _ _ h2=>(vJ (H (.binary 0) (d+1) h2)).bind fun _ _ _ _ he h3=>(zQ [[93]] h3).bind fun _ _ _ _ _ h4=>zJ.ok (zR rfl ht.text rfl (jC he)) h4) ?_;exact zJ.ok (zR rfl ht.text rfl yL) h1
theorem qVL(H:qZa rec)(d:Int){l l':List Tok}(h:Al l l'):zJ xN (yJ rec d l) (yJ rec d l'):=by
 unfold yJ;refine(xS (h.text [40]) h).bind fun _ _ _ _ ht h1=>?_
 refine zJ.ite h1.type ((xS rfl h1).bind fun _ _ _ _ hu h2=>(zQ [[41]] h2).bind fun _ _ _ _ _ h3=>(vJ (H .operand (d+1) h3)).bind fun _ _ _ _ he h4=>zJ.ok (zR rfl hu.text rfl (jC he)) h4) ?_;exact(vJ (H (.binary 0) (d+1) h1)).bind fun _ _ _ _ he h2=>(zQ [[41]] h2).bind fun _ _ _ _ _ h3=>zJ.ok he h3
theorem qJR(H:qZa rec)(d:Int){l l':List Tok}(h:Al l l'):zJ xN (jU rec d l) (jU rec d l'):=by
 unfold jU;refine zJ.ite (h.kind 1) (qXv h) ?_;refine zJ.ite (by rw[h.hd.text]) ((xS rfl h).bind fun _ _ _ _ hu h1=>zJ.ok (zR hu.text rfl rfl yL) h1) ?_;refine zJ.ite (by rw[h.hd.text]) ((xS rfl h).bind fun _ _ _ _ hu h1=>(vJ (H .operand (d+1) h1)).bind fun _ _ _ _ he h2=>zJ.ok (zR rfl hu.text rfl (jC he)) h2) ?_;exact zJ.ite (h.text [40]) (qVL H d h) (qXw H d h)
theorem qZR(H:qZa rec)(k d:Int):∀ (m:Nat) {left left':qQ} {l l':List Tok},xN left left'->Al l l'->zJ xN (kX rec k d m left l) (kX rec k d m left' l')
 | 0,_,_,_,_,_,_=>trivial
 | m+1,left,left',l,l',hl,h=>by
  rw[kX,kX,h.hd.text];by_cases hk:xL (hdT l').text < k
  ·rw[if_pos hk,if_pos hk];exact zJ.ok hl h
  ·rw[if_neg hk,if_neg hk];exact(xS rfl h).bind fun _ _ _ _ ht h1=>(H _ d h1).bind fun _ _ _ _ hr h2=>qZR H k d m (zR rfl ht.text rfl (qZi hl hr)) h2
theorem qKL(H:qZa rec)(k d:Int){l l':List Tok}(h:Al l l'):zJ xN (qQy rec n k d l) (qQy rec n k d l'):=by
 unfold qQy;exact(H .operand d h).bind fun _ _ _ _ he h1=>qZR H k d n he h1
theorem qZz(H:qZa rec)(d:Int){l l':List Tok}(h:Al l l'):zJ xN (qQh rec d l) (qQh rec d l'):=H (.binary 0) d h
theorem qJQ(H:qZa rec)(d:Int){l l':List Tok}(h:Al l l'):zJ xN (qQz rec n d l) (qQz rec n d l'):=by
 unfold qQz;exact(xS h.name h).bind fun _ _ _ _ ht h1=>(qXu (fun hl=>vJ (H (.binary 0) (d+1) hl)) h1).bind fun _ _ _ _ hts h2=>zJ.ok (zR rfl ht.text rfl hts) h2
theorem Al.call{l l':List Tok}(h:Al l l'):qQR l=qQR l':=by
 unfold Al at h;match l,l',h with
 | [],[],_=>rfl
 | [],_ :: _,h=>simp at h
 | _ :: _,[],h=>simp at h
 | [t],[t'],_=>rfl
 | [t],_ :: _ :: _,h=>simp at h
 | _ :: _ :: _,[t],h=>simp at h
 | t :: u :: r,t' :: u' :: r',h =>
  simp only[List.map_cons,List.cons.injEq]at h;have h1:qKy t t':=h.1;have h2:qKy u u':=h.2.1;show(kR t && u.text == [40])=(kR t' && u'.text == [40])
  unfold kR;rw[h1.kind,h1.text,h2.text]
theorem qKK(H:qZa rec)(d:Int){l l':List Tok}(h:Al l l'):zJ xN (jJ rec n d l) (jJ rec n d l'):=by
 unfold jJ;refine zJ.ite h.call ((qJQ H d h).bind fun _ _ _ _ ht h1=>(zQ [[59]] h1).bind fun _ _ _ _ _ h2=>zJ.ok ht h2) ?_;refine(qXw H d h).bind fun _ _ _ _ hx h1=>(zQ [[61]] h1).bind fun _ _ _ _ _ h2=>?_
 refine zJ.ite (h2.text qW) ((zQ [qW,[40],[41]] h2).bind fun _ _ _ _ _ h3=>(zQ [[59]] h3).bind fun _ _ _ _ _ h4=>zJ.ok (zR rfl rfl rfl (jC hx)) h4) ?_;refine zJ.ite h2.call ((qJQ H d h2).bind fun _ _ _ _ hy h3=>(zQ [[59]] h3).bind fun _ _ _ _ _ h4=>zJ.ok (zR rfl rfl rfl (qZi hx hy)) h4) ?_;exact(qZz H d h2).bind fun _ _ _ _ hy h3=>(zQ [[59]] h3).bind fun _ _ _ _ _ h4=>zJ.ok (zR rfl rfl rfl (qZi hx hy)) h4
theorem qVI(H:qZa rec)(d:Int){l l':List Tok}(h:Al l l'):zJ xN (kL rec d l) (kL rec d l'):=by
 unfold kL;exact(xS rfl h).bind fun _ _ _ _ ht h1=>(zQ [[40]] h1).bind fun _ _ _ _ _ h2=>(qZz H d h2).bind fun _ _ _ _ he h3=>(zQ [[41],[59]] h3).bind fun _ _ _ _ _ h4=>zJ.ok (zR ht.text rfl rfl (jC he)) h4
theorem qVJ(H:qZa rec)(d:Int){l l':List Tok}(h:Al l l'):zJ xN (yC rec d l) (yC rec d l'):=by
 unfold yC;refine(zQ [qV] h).bind fun _ _ _ _ _ h1=>?_
 refine zJ.ite (h1.text [59]) ((zQ [[59]] h1).bind fun _ _ _ _ _ h2=>zJ.ok (zR rfl rfl rfl yL) h2) ?_;exact(qZz H d h1).bind fun _ _ _ _ he h2=>(zQ [[59]] h2).bind fun _ _ _ _ _ h3=>zJ.ok (zR rfl rfl rfl (jC he)) h3
theorem qZS(H:qZa rec)(word:List UInt8)(d:Int){l l':List Tok}(h:Al l l'):zJ xN (jK rec word d l) (jK rec word d l'):=by
 unfold jK;exact(zQ [word,[40]] h).bind fun _ _ _ _ _ h1=>(qZz H d h1).bind fun _ _ _ _ he h2=>(zQ [[41]] h2).bind fun _ _ _ _ _ h3=>(vJ (H .block (d+1) h3)).bind fun _ _ _ _ hb h4=>zJ.ok (zR rfl rfl rfl (qZi he hb)) h4
theorem qKM(H:qZa rec)(d:Int){l l':List Tok}(h:Al l l'):zJ xN (vF rec d l) (vF rec d l'):=by
 unfold vF;refine(qZS H kIf d h).bind fun t t' _ _ ht h1=>?_
 refine zJ.ite (h1.text zS) ((zQ [zS] h1).bind fun _ _ _ _ _ h2=>(vJ (H .block (d+1) h2)).bind fun _ _ _ _ hb h3=>zJ.ok ?_ h3) (zJ.ok ht h1);obtain⟨e1,e2,e3,e4⟩:=jN ht;exact zR e1 e2 e3 (wA e4 (jC hb))
theorem qVK{l l':List Tok}(h:Al l l'):zJ xN (qQM l) (qQM l'):=(qQc rfl h).bind fun _ _ _ _ ht h1=>(zQ [[59]] h1).bind fun _ _ _ _ _ h2=>zJ.ok ht h2
theorem qW8(H:qZa rec)(d:Int){l l':List Tok}(h:Al l l'):zJ xN (qQA rec n d l) (qQA rec n d l'):=by
 unfold qQA;refine zJ.ite (h.text kIf) (qKM H d h) ?_;refine zJ.ite (h.text qA) (qZS H qA d h) ?_;refine zJ.ite (h.text qV) (qVJ H d h) ?_;refine zJ.ite (by rw[h.hd.text]) (qVI H d h) ?_;exact zJ.ite h.type (qVK h) (qKK H d h)
theorem qVH(H:qZa rec)(d:Int){l l':List Tok}(h:Al l l'):zJ xN (qQK rec n d l) (qQK rec n d l'):=by
 unfold qQK;refine(zQ [[123]] h).bind fun _ _ _ _ _ h1=>?_
 exact(qZA (fun ht=>by rw[ht.text]) (fun hl=>qW8 H d hl) n yL h1).bind fun _ _ _ _ hts h2=>(zQ [[125]] h2).bind fun _ _ _ _ _ h3=>zJ.ok (zR rfl rfl rfl hts) h3
end
theorem qXb:∀ n,qZa (qQd n)
 | 0=>fun _ _ _ _ _=>trivial
 | n+1=>fun x d l l' h=>by
  cases x with
  | block=>exact qVH (qXb n) d h
  | binary k=>exact qKL (qXb n) k d h
  | operand=>exact qJR (qXb n) d h
theorem qW7(n:Nat){l l':List Tok}(h:Al l l'):zJ xN (qZe n l) (qZe n l'):=by
 unfold qZe;refine(qQc (h.text zA) h).bind fun t t' l1 l1' ht h1=>?_
 obtain⟨e1,e2,e3,e4⟩:=jN ht;refine zJ.ite (by rw[h.hd.text,h1.hd.text]) ((qXu (fun hl=>qQc rfl hl) h1).bind fun _ _ _ _ hps h2=>(vJ (qXb n .block (0+1) h2)).bind fun _ _ _ _ hb h3=>zJ.ok (zR rfl e2 e3 (wA (wA e4 hps) (jC hb))) h3) ?_;refine zJ.ite (h1.text [91]) ((zQ [[91]] h1).bind fun _ _ _ _ _ h2=>(qXv h2).bind fun _ _ _ _ hm h3=>(zQ [[93]] h3).bind fun _ _ _ _ _ h4=>(zQ [[59]] h4).bind fun _ _ _ _ _ h5=>zJ.ok (zR e1 e2 e3 (wA e4 (jC hm))) h5) ?_;exact(zQ [[59]] h1).bind fun _ _ _ _ _ h2=>zJ.ok ht h2
theorem rel_program(n:Nat){l l':List Tok}(h:Al l l'):zJ xN (xW n l) (xW n l'):=by
 unfold xW;exact(qZA (fun ht=>by rw[ht.kind]) (fun hl=>qW7 n hl) n yL h).bind fun _ _ _ _ hts h1=>zJ.ok (zR rfl rfl rfl hts) h1
end Go.Proofs.YtiajhekdhhhghaaGreatDoor.NZ
namespace Go.Proofs.YtiajhekdhhhghaaGreatDoor
open Tryz Go.Proofs.Tryz
open Go Go.RowKit
def qQ9(p:CR PrD)(w:World)(e:Ending)(w':World):Prop :=
 match p with
 | .ok r=>∃ v,e=.returned (.tuple #[v, .int .i64 0, .int .i64 0, .int .i64 0])/\qZ2 w.1.size r v w'/\Below w.1.size w w'
 | .bad ln co code=>e=.returned (.tuple #[qZX, .int .i64 ln, .int .i64 co, .int .i64 code])/\Below w.1.size w w'
theorem qQ9.okI{p:CR PrD}{r:PrD}{w w':World}{v:Value}(hp:p=.ok r)(h:qZ2 w.1.size r v w')(hb:Below w.1.size w w'):qQ9 p w (.returned (.tuple #[v, .int .i64 0, .int .i64 0, .int .i64 0])) w':=by
 rw[hp];exact⟨v,rfl,h,hb⟩
theorem qQ9.badI{p:CR PrD}{w w':World}{ln co code:Int}(hp:p=.bad ln co code)(hb:Below w.1.size w w'):qQ9 p w (.returned (.tuple #[qZX, .int .i64 ln, .int .i64 co, .int .i64 code])) w':=by
 rw[hp];exact⟨rfl,hb⟩
theorem qQ9.cases{p:CR PrD}{w w':World}{e:Ending}(h:qQ9 p w e w') :
 (∃ r v,p=.ok r/\e=.returned (.tuple #[v, .int .i64 0, .int .i64 0, .int .i64 0])/\qZ2 w.1.size r v w'/\Below w.1.size w w')\/∃ ln co code,p=.bad ln co code/\e=.returned (.tuple #[qZX, .int .i64 ln, .int .i64 co, .int .i64 code])/\Below w.1.size w w':=by
 cases p with
 | ok r=>obtain⟨v,h1,h2,h3⟩:=h;exact .inl ⟨r,v,rfl,h1,h2,h3⟩
 | bad ln co code=>exact .inr ⟨ln,co,code,rfl,h.1,h.2⟩
theorem qZZ.cases{p:CR PrD}{w w':World}{e:Ending}(h:qZZ p w e w') :
 (∃ r v,p=.ok r/\e=.returned (.tuple #[v, .agg #[.int .i64 0, .int .i64 0, .int .i64 0]])/\qZ2 w.1.size r v w'/\Below w.1.size w w')\/∃ ln co code,p=.bad ln co code/\e=.returned (.tuple #[qZX, .agg #[.int .i64 ln, .int .i64 co, .int .i64 code]])/\Below w.1.size w w':=by
 cases p with
 | ok r=>obtain⟨v,h1,h2,h3⟩:=h;exact .inl ⟨r,v,rfl,h1,h2,h3⟩
 | bad ln co code=>exact .inr ⟨ln,co,code,rfl,h.1,h.2⟩
theorem qZ2.shape{lo:Nat}{p:PrD}{v:Value}{w:World}(h:qZ2 lo p v w):∃ gq gc fq fc,v=.agg #[.slice gq p.globals.length gc, .slice fq p.funcs.length fc, .int .i64 p.main]:=by
 obtain⟨fs,bs,gv,fv,rfl,h1,h2,h3,h4,h5,_⟩:=h;have hfl:p.funcs.length=fs.length:=by rw[h4,qVf fs bs (by omega),h5]
 have e1:∃ q c,gv=.slice q p.globals.length c:=by
  rcases h1.2 with⟨rfl,h0⟩ | ⟨g,cap,cur,rfl,_⟩
  ·exact⟨none,0,by rw[h0]⟩
  ·exact⟨_,_,rfl⟩
 have e2:∃ q c,fv=.slice q p.funcs.length c:=by
  rw[hfl];rcases h2.2 with⟨rfl,h0⟩ | ⟨g,cap,cur,rfl,_⟩
  ·exact⟨none,0,by rw[h0]⟩
  ·exact⟨_,_,rfl⟩
 obtain⟨gq,gc,rfl⟩:=e1;obtain⟨fq,fc,rfl⟩:=e2;exact⟨gq,gc,fq,fc,rfl⟩
theorem qZ2.move{lo lo':Nat}{p:PrD}{v:Value}{w w':World}{P:Nat}(h:qZ2 lo p v w)(hk:jX w P 30)(hlo:P < lo/\lo'<=lo)(st:∀ k,k < w.1.size->k≠P->w'.1[k]? = w.1[k]?):qZ2 lo' p v w':=by
 have sK:∀ {b S},jX w b S->S≠30->w'.1[b]? = w.1[b]?:=fun k h1=>st _ k.lt (k.ne hk h1)
 obtain⟨fs,bs,gv,fv,e,h1,h2,h3,h4,h5,h6,h7⟩:=h;exact⟨fs,bs,gv,fv,e,zU h1 (fun g hg=>sK (zE h1 hg) (by decide)),zU h2 (fun g hg=>sK (zE h2 hg) (by decide)),fun f hf=>zU (h3 f hf) (fun g hg=>sK (zE (h3 f hf) hg) (by decide)),h4,h5,fun j hj=>jE.move (h6 j hj) (fun g hg hok=>⟨⟨by omega,hok.2⟩,st g hg (by omega)⟩),h7⟩
theorem qLY(n:Nat)(t:qQ)(v:Value)(w:World)(ws:List (List UInt8))(hc:qYA w)(h4:qWB w)(hl:xZ w (· < w.1.size) t v)(hN:qZl t)(he:qQO n t=some ws)(hlen:ws.length<=900000)(hsl:(qUv ws).length<=140737488355328) :
 Calls prog 22 #[qZ t v] w (qQ9 (qZb t) w):=by
 obtain⟨q0,vc,rfl,_,_⟩:=hl.shape;have ho:PgOk t:=pg_of he hN hlen;have ha:=bal (Below.refl w.1.size w) (qB t (.slice q0 t.kids.length vc));have hp:=qKx.new (w.alloc (qB t (.slice q0 t.kids.length vc)));have hkd:=jX.new (w.alloc (qB t (.slice q0 t.kids.length vc))) #[.slice none 0 0, .slice none 0 0, .int .i64 0] 30;have hb:=ha.trans ((bal (Below.refl _ (w.alloc (qB t (.slice q0 t.kids.length vc)))) (.cells #[.slice none 0 0, .slice none 0 0, .int .i64 0] 30)).mono ha.size);have hn:=(Hn.new t (.slice q0 t.kids.length vc) w).below (bal (Below.refl _ (w.alloc (qB t (.slice q0 t.kids.length vc)))) (.cells #[.slice none 0 0, .slice none 0 0, .int .i64 0] 30));have hsh:=show_any n t (.slice q0 t.kids.length vc) _ ws (h4.below hb) (xZ.move (fun g hg hok=>⟨Nat.lt_of_lt_of_le hg hb.size,hb.block g hg⟩) t _ hl) hN he (by omega) hsl;have HSH:=hI hsh;have HB:=hI hb;have HN:=hI hn;have HP:=hI hp;have HK:=hI hkd;have HC:=hI (fun(W:World) (h:Below w.1.size w W)=>qUH t (.slice q0 t.kids.length vc) W (hc.below h) (xZ.move (fun g hg hok=>⟨Nat.lt_of_lt_of_le hg h.size,h.block g hg⟩) t _ hl) ho);clear hc h4 hl hN he ho ha hb hn hsh hp hlen hsl hkd;generalize qZb t=p at *;simp only[qS,qZ,qB]at *;go_enter func22,ntmps22
 go_wp2_with fail
 refine(HSH.o).mono ?_;rintro e w3 ⟨rfl,hb3⟩;have HB3:=hI (HB.o.trans (hb3.mono HB.o.size));have hs3:=hb3.size;have N3:=HN.o.below hb3;have P3:=hI (HP.o.turn (hb3.block _ (by simp)));have K3:=HK.o.turn (hb3.block _ (by simp));rw[World.size_alloc]at K3;have K3:=hI K3;obtain⟨c0,c1,c2,c3,c4,c5⟩:=N3.cells;have hl3:=N3.lt;have HC3:=hI (HC.o w3 HB3.o);clear hb3 HSH HC HB HN HP HK;have hs3':w.1.size+1 < w3.1.size:=by simp at hs3;omega
 go_wp2_with fail
 refine(HC3.o).mono ?_;intro e w4 hq;rcases hq.cases with⟨r,v,rfl,rfl,hr,hb4⟩ | ⟨ln,co,code,rfl,rfl,hb4⟩
 ·obtain⟨gq,gc,fq,fc,rfl⟩:=hr.shape;have HR:=hI hr;have HB4:=hI (HB3.o.trans (hb4.mono HB3.o.size));have K4:=hI (K3.o.turn (hb4.block _ hs3'));have P4:=P3.o.turn (hb4.block _ (qJ P3.o.c0));rw[World.size_alloc]at P4;have⟨r0,r1,r2,_⟩:=P4.a;have⟨g0,g1,g2,_⟩:=P4.b;have hlt:=qJ r0;clear hq hr hb4 P4 HC3 P3;simp only at hlt;have hA:=(bal (Below.refl w4.1.size w4) (.cells #[.slice gq r.globals.length gc, .slice fq r.funcs.length fc, .int .i64 r.main] 30)).trans ((bal (Below.refl _ (w4.alloc (.cells #[.slice gq r.globals.length gc, .slice fq r.funcs.length fc, .int .i64 r.main] 30))) (.cells #[.int .i64 0, .int .i64 0, .int .i64 0] 97)).mono (by simp));have z0:=(hA.cell (p:=⟨w.1.size+1,0,none⟩) hlt).trans r0;have z1:=(hA.cell (p:=⟨w.1.size+1,1,none⟩) hlt).trans r1;have z2:=(hA.cell (p:=⟨w.1.size+1,2,none⟩) hlt).trans r2;have f0:=(hA.frozen (p:=⟨w.1.size+1,0,none⟩) hlt).trans g0;have f1:=(hA.frozen (p:=⟨w.1.size+1,1,none⟩) hlt).trans g1;have f2:=(hA.frozen (p:=⟨w.1.size+1,2,none⟩) hlt).trans g2;have HA:=hI hA;have hne:¬w.1.size+1=w4.1.size:=by omega
  have hne2:¬w.1.size=w4.1.size:=by omega
  have hne3:¬w4.1.size=w.1.size+1:=by omega
  clear hA;go_wp2
  go_region
  go_wp2
  refine bodyPost_ret (v:=.tuple #[.agg #[.slice gq r.globals.length gc, .slice fq r.funcs.length fc, .int .i64 r.main], .int .i64 0, .int .i64 0, .int .i64 0]) (by simp[results,results22,go_sem, *]) rfl ?_;refine qQ9.okI rfl (HR.o.move K4.o ⟨hs3',by omega⟩ fun k hk hne4=>?_) (jR (jR (jR (HB4.o.trans (HA.o.mono HB4.o.size)) (by omega) _) (by omega) _) (by omega) _).drew;show(World.setCell _ _ _).1[k]? = _
  rw[hS _ _ _ _ hne4,hS _ _ _ _ hne4,hS _ _ _ _ hne4];exact HA.o.block k hk
 ·have HB4:=hI (HB3.o.trans (hb4.mono HB3.o.size));have P4:=P3.o.turn (hb4.block _ (qJ P3.o.c0));rw[World.size_alloc]at P4;have⟨r0,r1,r2,_⟩:=P4.a;have⟨g0,g1,g2,_⟩:=P4.b;have hlt:=qJ r0;clear hq hb4 P4 HC3 P3;simp only at hlt;unfold qZX;have hA:=(bal (Below.refl w4.1.size w4) (.cells #[.slice none 0 0, .slice none 0 0, .int .i64 0] 30)).trans ((bal (Below.refl _ (w4.alloc (.cells #[.slice none 0 0, .slice none 0 0, .int .i64 0] 30))) (.cells #[.int .i64 ln, .int .i64 co, .int .i64 code] 97)).mono (by simp));have z0:=(hA.cell (p:=⟨w.1.size+1,0,none⟩) hlt).trans r0;have z1:=(hA.cell (p:=⟨w.1.size+1,1,none⟩) hlt).trans r1;have z2:=(hA.cell (p:=⟨w.1.size+1,2,none⟩) hlt).trans r2;have f0:=(hA.frozen (p:=⟨w.1.size+1,0,none⟩) hlt).trans g0;have f1:=(hA.frozen (p:=⟨w.1.size+1,1,none⟩) hlt).trans g1;have f2:=(hA.frozen (p:=⟨w.1.size+1,2,none⟩) hlt).trans g2;have HA:=hI hA;have hne:¬w.1.size+1=w4.1.size:=by omega
  have hne2:¬w.1.size=w4.1.size:=by omega
  have hne3:¬w4.1.size=w.1.size+1:=by omega
  clear hA;go_wp2
  go_region
  go_wp2
  refine bodyPost_ret (v:=.tuple #[.agg #[.slice none 0 0, .slice none 0 0, .int .i64 0], .int .i64 ln, .int .i64 co, .int .i64 code]) (by simp[results,results22,go_sem, *]) rfl ?_;exact qQ9.badI rfl (jR (jR (jR (HB4.o.trans (HA.o.mono HB4.o.size)) (by omega) _) (by omega) _) (by omega) _).drew
def qXN(s:List UInt8):CR PrD :=
 match qZ4 s with
 | .ok t _=>qZb t
 | .bad a b c=>.bad a b c
 | .out=>.bad 0 0 0
theorem read_words{s:List UInt8}{t:qQ}{l:List Tok}(h:qZ4 s=.ok t l):qZl t/\∃ n ws,qQO n t=some ws/\ws.length<=458752/\(qUv ws).length<=458752:=by
 unfold qZ4 at h;split at h
 ·rename_i hs;unfold qJq at h;split at h
  ·cases h
  ·rename_i ts hx;obtain⟨ht1,ht2⟩:=lex_toks _ s 1 1 ts (Nat.le_refl _) hs hx;obtain⟨hN,hd,ws,hw,hwb,hwl⟩:=prog_words 200000 ts ⟨ht1,by omega⟩ t l h;have hsl:=show_len ws;have hwn:=qPM ws;exact⟨hN,_,ws,hw,by omega,by show(Lib.join ws [32]).length<=458752;omega⟩
 ·cases h
theorem qLq{s:List UInt8}{a b c:Int}(h:qZ4 s=.bad a b c):c≠0:=by
 unfold qZ4 at h;split at h
 ·rename_i hs;unfold qJq at h;split at h
  ·rename_i ln co code hx;injection h with e1 e2 e3;rcases qPN _ _ _ _ (Nat.le_refl _) hx with h | h <;> omega
  ·rename_i ts hx;have:=NZ.rel_program 200000 (l:=ts) (l':=ts) rfl;rw[h]at this;exact this.2
 ·injection h with e1 e2 e3;omega
theorem qKb(s:ByteArray)(w:World)(hc:qYA w)(h4:qWB w):Calls prog 9 #[.string s] w (qQ9 (qXN s.data.toList) w):=by
 have hp:=bal (Below.refl w.1.size w) (.cells #[.slice none 0 0, .slice none 0 0, .int .i64 0] 30);have HP:=hI (qKx.new w);have HK:=hI (jX.new w #[.slice none 0 0, .slice none 0 0, .int .i64 0] 30);have HB:=hI hp;have HR:=hI (read_all s _ (h4.below hp).1);have HC:=hI (fun(W:World) (h:Below w.1.size w W)=>hc.below h);have H4:=hI (fun(W:World) (h:Below w.1.size w W)=>h4.below h);have HO:=qVG s.data.toList;have hs0:(w.alloc (.cells #[.slice none 0 0, .slice none 0 0, .int .i64 0] 30)).1.size=w.1.size+1:=by simp
 clear hp hc h4;cases hr:qZ4 s.data.toList with
 | out=>exact absurd hr HO
 | bad a b c =>
  have hcode:=qLq hr;have hcb:(c != 0)=true:=by simpa using hcode
  have HRC:=hI (show qXN s.data.toList=.bad a b c by simp only[qXN,hr]);rw[hr]at HR;clear HO hr hcode HC H4;go_enter func9,ntmps9
  go_wp2_with fail
  refine(HR.o).mono ?_;rintro e w1 ⟨rfl,hb1⟩;have HB1:=hI (HB.o.trans (hb1.mono HB.o.size));have P1:=HP.o.turn (hb1.block _ (by omega));have⟨r0,r1,r2,_⟩:=P1.a;have⟨g0,g1,g2,_⟩:=P1.b;have hlt:=qJ r0;simp only at hlt;have hne:¬w.1.size=w1.1.size:=by omega
  have hne3:¬w1.1.size=w.1.size:=by omega
  clear hb1 P1 HP HR HB HK;unfold qXH;go_wp2
  refine bodyPost_ret (v:=.tuple #[.agg #[.slice none 0 0, .slice none 0 0, .int .i64 0], .int .i64 a, .int .i64 b, .int .i64 c]) (by simp[results,results9,go_sem, *]) rfl ?_;exact qQ9.badI HRC.o (bal (jR (jR (jR HB1.o (by omega) _) (by omega) _) (by omega) _) _)
 | ok t l =>
  obtain⟨hN,n,ws,hw,hwl,hsl⟩:=read_words hr;have HRC:=hI (show qXN s.data.toList=qZb t by simp only[qXN,hr]);rw[hr]at HR;have HCK:=hI (fun(v:Value) (W:World) (h:Below w.1.size w W) (hL:xZ W (· < W.1.size) t v)=>qLY n t v W ws (HC.o W h) (H4.o W h) hL hN hw (by omega) (by omega));clear HO hr hN hw hwl hsl HC H4;rw[HRC.o];generalize qZb t=p at *;go_enter func9,ntmps9
  go_wp2_with fail
  refine(HR.o).mono ?_;rintro e w1 ⟨v,rfl,hbd,hb1⟩;have hL:xZ w1 (· < w1.1.size) t v:=xZ.move (fun g hg _=>⟨hg,rfl⟩) t v hbd.lies;obtain⟨qa,ca,rfl,_,_⟩:=hL.shape;have ha:=bal (Below.refl w1.1.size w1) (.cells (qS t (.slice qa t.kids.length ca)).toArray 57);have hb2:=HB.o.trans ((hb1.trans (ha.mono hb1.size)).mono HB.o.size);have P1:=hI (HP.o.turn ((hb1.trans (ha.mono hb1.size)).block _ (by omega)));have K1:=hI (HK.o.turn ((hb1.trans (ha.mono hb1.size)).block _ (by omega)));have HC2:=hI (HCK.o (.slice qa t.kids.length ca) _ hb2 (xZ.move (fun g hg hok=>⟨Nat.lt_of_lt_of_le hg ha.size,ha.block g hg⟩) _ _ hL));have HB2:=hI hb2;have hs1:=hb1.size;have hs2:(w1.alloc (.cells (qS t (.slice qa t.kids.length ca)).toArray 57)).1.size=w1.1.size+1:=by simp
  clear hbd hb1 hL ha hb2 HP HK HR HCK HB;simp only[qS,qZ]at *;go_wp2_with fail
  refine(HC2.o).mono ?_;intro e w4 hq;rcases hq.cases with⟨r,v,rfl,rfl,hr,hb4⟩ | ⟨ln,co,code,rfl,rfl,hb4⟩
  ·have hlo:w.1.size < (w1.alloc (.cells #[.string ⟨t.kind.toArray⟩, .string ⟨t.text.toArray⟩, .int .u64 t.num, .int .i64 t.line, .int .i64 t.col, .slice qa t.kids.length ca] 57)).1.size:=by omega
   obtain⟨gq,gc,fq,fc,rfl⟩:=hr.shape;have HR:=hI hr;have HB4:=hI (HB2.o.trans (hb4.mono HB2.o.size));have K4:=hI (K1.o.turn (hb4.block _ hlo));have P4:=P1.o.turn (hb4.block _ hlo);have⟨r0,r1,r2,_⟩:=P4.a;have⟨g0,g1,g2,_⟩:=P4.b;have hlt:=qJ r0;clear hq hr hb4 P4 HC2 P1 K1;simp only at hlt;go_wp2
   refine bodyPost_ret (v:=.tuple #[.agg #[.slice gq r.globals.length gc, .slice fq r.funcs.length fc, .int .i64 r.main], .int .i64 0, .int .i64 0, .int .i64 0]) (by simp[results,results9,go_sem, *]) rfl ?_;refine qQ9.okI rfl (HR.o.move K4.o ⟨hlo,by omega⟩ fun k hk hne4=>?_) (jR (jR (jR HB4.o (by omega) _) (by omega) _) (by omega) _);rw[hS _ _ _ _ hne4,hS _ _ _ _ hne4,hS _ _ _ _ hne4]
  ·have hlo:w.1.size < (w1.alloc (.cells #[.string ⟨t.kind.toArray⟩, .string ⟨t.text.toArray⟩, .int .u64 t.num, .int .i64 t.line, .int .i64 t.col, .slice qa t.kids.length ca] 57)).1.size:=by omega
   have HB4:=hI (HB2.o.trans (hb4.mono HB2.o.size));have P4:=P1.o.turn (hb4.block _ hlo);have⟨r0,r1,r2,_⟩:=P4.a;have⟨g0,g1,g2,_⟩:=P4.b;have hlt:=qJ r0;clear hq hb4 P4 HC2 P1 K1;simp only at hlt;unfold qZX;go_wp2
   refine bodyPost_ret (v:=.tuple #[.agg #[.slice none 0 0, .slice none 0 0, .int .i64 0], .int .i64 ln, .int .i64 co, .int .i64 code]) (by simp[results,results9,go_sem, *]) rfl ?_;exact qQ9.badI rfl (jR (jR (jR HB4.o (by omega) _) (by omega) _) (by omega) _)
def qYz{α β:Type}(f:α->β->List Value):List α->List β->List Value
 | t :: ts,v :: vs=>f t v++qYz f ts vs
 | _,_=>[]
theorem zipR_at{α β:Type}{f:α->β->List Value}{n:Nat}(hf:∀ a b,(f a b).length=n):∀ (L:List α) (M:List β) (i k:Nat) (hi:i < L.length) (hj:i < M.length),k < n->(qYz f L M)[i * n+k]? = (f L[i] M[i])[k]?
 | t :: ts,v :: vs,0,k,_,_,hk=>by
  rw[qYz,Nat.zero_mul,Nat.zero_add,List.getElem?_append_left (by rw[hf];exact hk)];rfl
 | t :: ts,v :: vs,i+1,k,hi,hj,hk=>by
  rw[qYz,List.getElem?_append_right (by rw[hf,Nat.add_mul];omega)];have e:(i+1) * n+k - (f t v).length=i * n+k:=by rw[hf,Nat.add_mul];omega
  rw[e];exact zipR_at hf ts vs i k (by simpa using hi) (by simpa using hj) hk
 | [],_,i,_,hi,_,_=>by simp at hi
 | _ :: _,[],i,_,_,hj,_=>by simp at hj
theorem qP8:∀ (L:List Ex) (M:List Value),qVM L M=qYz exC L M
 | [],_=>by simp[qVM,qYz]
 | _ :: _,[]=>rfl
 | t :: ts,v :: vs=>by rw[qVM,qYz,qP8 ts vs]
theorem qP9:∀ (L:List Sx) (M:List qQg),qVN L M=qYz sxC L M
 | [],_=>by simp[qVN,qYz]
 | _ :: _,[]=>rfl
 | t :: ts,v :: vs=>by rw[qVN,qYz,qP9 ts vs]
theorem qLn{α β:Type}{f:α->β->List Value}{n:Nat}(hf:∀ a b,(f a b).length=n){w:World}{base T m:Nat}{v:Value}{L:List α}{M:List β}{g:Nat}(h:w.ownsRow base T n v m (qYz f L M))(hg:v.ownBlock=some g)
 {i k:Nat} (hi:i < L.length) (hj:i < M.length) (hk:k < n) {u:Value} (hu:(f L[i] M[i])[k]? = some u):w.cell? ⟨g,i * n+k,none⟩=some u:=by
 have:=h.cells hg (i * n+k) u (by rw[zipR_at hf L M i k hi hj hk];exact hu);rw[Lib.add_plain,Nat.zero_add]at this;exact this
theorem yN.at{w:World}{ok:Nat->Prop}:∀ {ts:List Ex} {vs:List Value},yN w ok ts vs->∀ i (h:i < ts.length) (h':i < vs.length),qQF w ok ts[i] vs[i]
 | _ :: _,_ :: _,hL,0,_,_=>hL.1
 | _ :: _,_ :: _,hL,i+1,h,h'=>yN.at hL.2 i (by simpa using h) (by simpa using h')
 | [],_,_,_,h,_=>by simp at h
 | _ :: _,[],hL,_,_,_=>hL.elim
theorem yZ.at{w:World}{ok:Nat->Prop}:∀ {ts:List Sx} {vs:List qQg},yZ w ok ts vs->∀ i (h:i < ts.length) (h':i < vs.length),wL w ok ts[i] vs[i]
 | _ :: _,_ :: _,hL,0,_,_=>hL.1
 | _ :: _,_ :: _,hL,i+1,h,h'=>yZ.at hL.2 i (by simpa using h) (by simpa using h')
 | [],_,_,_,h,_=>by simp at h
 | _ :: _,[],hL,_,_,_=>hL.elim
def Ex.op:Ex->List UInt8 | .mk op _ _ _ _ _ _ _=>op
def Ex.num:Ex->Int | .mk _ _ n _ _ _ _ _=>n
def Ex.var:Ex->Int | .mk _ _ _ v _ _ _ _=>v
def Ex.glob:Ex->Bool | .mk _ _ _ _ g _ _ _=>g
def Ex.line:Ex->Int | .mk _ _ _ _ _ l _ _=>l
def Ex.col:Ex->Int | .mk _ _ _ _ _ _ c _=>c
def Sx.op:Sx->List UInt8 | .mk op _ _ _ _ _ _ _=>op
def Sx.line:Sx->Int | .mk _ l _ _ _ _ _ _=>l
def Sx.col:Sx->Int | .mk _ _ c _ _ _ _ _=>c
def Sx.target:Sx->List Ex | .mk _ _ _ t _ _ _ _=>t
def Sx.exprs:Sx->List Ex | .mk _ _ _ _ e _ _ _=>e
def Sx.fn:Sx->Int | .mk _ _ _ _ _ f _ _=>f
def Sx.thn:Sx->List Sx | .mk _ _ _ _ _ _ t _=>t
def Sx.els:Sx->List Sx | .mk _ _ _ _ _ _ _ e=>e
structure CEx(g o:Nat)(e:Ex)(v:Value)(w:World):Prop where
 c0:w.cell? ⟨g,o,none⟩=some (.string ⟨e.op.toArray⟩)
 c1:w.cell? ⟨g,o+1,none⟩=some (.int .i64 e.ty.1)
 c2:w.cell? ⟨g,o+2,none⟩=some (.bool e.ty.2)
 c3:w.cell? ⟨g,o+3,none⟩=some (.int .u64 e.num)
 c4:w.cell? ⟨g,o+4,none⟩=some (.int .i64 e.var)
 c5:w.cell? ⟨g,o+5,none⟩=some (.bool e.glob)
 c6:w.cell? ⟨g,o+6,none⟩=some (.int .i64 e.line)
 c7:w.cell? ⟨g,o+7,none⟩=some (.int .i64 e.col)
 c8:w.cell? ⟨g,o+8,none⟩=some (v)
theorem CEx.a{g o:Nat}{e:Ex}{v:Value}{w:World}(h:CEx g o e v w):w.cell? ⟨g,o,none⟩=some (.string ⟨e.op.toArray⟩)/\w.cell? ⟨g,o+1,none⟩=some (.int .i64 e.ty.1)/\w.cell? ⟨g,o+2,none⟩=some (.bool e.ty.2)/\w.cell? ⟨g,o+3,none⟩=some (.int .u64 e.num)/\w.cell? ⟨g,o+4,none⟩=some (.int .i64 e.var)/\w.cell? ⟨g,o+5,none⟩=some (.bool e.glob)/\w.cell? ⟨g,o+6,none⟩=some (.int .i64 e.line)/\w.cell? ⟨g,o+7,none⟩=some (.int .i64 e.col)/\w.cell? ⟨g,o+8,none⟩=some (v)/\True:=⟨h.c0,h.c1,h.c2,h.c3,h.c4,h.c5,h.c6,h.c7,h.c8,trivial⟩
theorem CEx.move{g o:Nat}{e:Ex}{v:Value}{w w':World}(h:CEx g o e v w)(hg:w'.1[g]? = w.1[g]?):CEx g o e v w' :=
 ⟨(cB hg).trans h.c0,(cB hg).trans h.c1,(cB hg).trans h.c2,(cB hg).trans h.c3,(cB hg).trans h.c4,(cB hg).trans h.c5,(cB hg).trans h.c6,(cB hg).trans h.c7,(cB hg).trans h.c8⟩
structure CSx(g o:Nat)(e:Sx)(v:qQg)(w:World):Prop where
 c0:w.cell? ⟨g,o,none⟩=some (.string ⟨e.op.toArray⟩)
 c1:w.cell? ⟨g,o+1,none⟩=some (.int .i64 e.line)
 c2:w.cell? ⟨g,o+2,none⟩=some (.int .i64 e.col)
 c3:w.cell? ⟨g,o+3,none⟩=some (v.tv)
 c4:w.cell? ⟨g,o+4,none⟩=some (v.ev)
 c5:w.cell? ⟨g,o+5,none⟩=some (.int .i64 e.fn)
 c6:w.cell? ⟨g,o+6,none⟩=some (v.hv)
 c7:w.cell? ⟨g,o+7,none⟩=some (v.lv)
theorem CSx.a{g o:Nat}{e:Sx}{v:qQg}{w:World}(h:CSx g o e v w):w.cell? ⟨g,o,none⟩=some (.string ⟨e.op.toArray⟩)/\w.cell? ⟨g,o+1,none⟩=some (.int .i64 e.line)/\w.cell? ⟨g,o+2,none⟩=some (.int .i64 e.col)/\w.cell? ⟨g,o+3,none⟩=some (v.tv)/\w.cell? ⟨g,o+4,none⟩=some (v.ev)/\w.cell? ⟨g,o+5,none⟩=some (.int .i64 e.fn)/\w.cell? ⟨g,o+6,none⟩=some (v.hv)/\w.cell? ⟨g,o+7,none⟩=some (v.lv)/\True:=⟨h.c0,h.c1,h.c2,h.c3,h.c4,h.c5,h.c6,h.c7,trivial⟩
theorem CSx.move{g o:Nat}{e:Sx}{v:qQg}{w w':World}(h:CSx g o e v w)(hg:w'.1[g]? = w.1[g]?):CSx g o e v w' :=
 ⟨(cB hg).trans h.c0,(cB hg).trans h.c1,(cB hg).trans h.c2,(cB hg).trans h.c3,(cB hg).trans h.c4,(cB hg).trans h.c5,(cB hg).trans h.c6,(cB hg).trans h.c7⟩
structure FVals where
 vv:Value
 bv:Value
def fdV(f:qQ2)(x:FVals):Value:=.agg #[.string ⟨f.name.toArray⟩, .int .i64 f.t.1, .bool f.t.2, .int .i64 f.params,x.vv,x.bv]
structure CFn(g o:Nat)(e:qQ2)(v:FVals)(w:World):Prop where
 c0:w.cell? ⟨g,o,none⟩=some (.string ⟨e.name.toArray⟩)
 c1:w.cell? ⟨g,o+1,none⟩=some (.int .i64 e.t.1)
 c2:w.cell? ⟨g,o+2,none⟩=some (.bool e.t.2)
 c3:w.cell? ⟨g,o+3,none⟩=some (.int .i64 e.params)
 c4:w.cell? ⟨g,o+4,none⟩=some (v.vv)
 c5:w.cell? ⟨g,o+5,none⟩=some (v.bv)
theorem CFn.a{g o:Nat}{e:qQ2}{v:FVals}{w:World}(h:CFn g o e v w):w.cell? ⟨g,o,none⟩=some (.string ⟨e.name.toArray⟩)/\w.cell? ⟨g,o+1,none⟩=some (.int .i64 e.t.1)/\w.cell? ⟨g,o+2,none⟩=some (.bool e.t.2)/\w.cell? ⟨g,o+3,none⟩=some (.int .i64 e.params)/\w.cell? ⟨g,o+4,none⟩=some (v.vv)/\w.cell? ⟨g,o+5,none⟩=some (v.bv)/\True:=⟨h.c0,h.c1,h.c2,h.c3,h.c4,h.c5,trivial⟩
theorem CFn.move{g o:Nat}{e:qQ2}{v:FVals}{w w':World}(h:CFn g o e v w)(hg:w'.1[g]? = w.1[g]?):CFn g o e v w' :=
 ⟨(cB hg).trans h.c0,(cB hg).trans h.c1,(cB hg).trans h.c2,(cB hg).trans h.c3,(cB hg).trans h.c4,(cB hg).trans h.c5⟩
structure CVr(g o:Nat)(e:qI)(v:Unit)(w:World):Prop where
 c0:w.cell? ⟨g,o,none⟩=some (.string ⟨e.name.toArray⟩)
 c1:w.cell? ⟨g,o+1,none⟩=some (.int .i64 e.t.1)
 c2:w.cell? ⟨g,o+2,none⟩=some (.bool e.t.2)
 c3:w.cell? ⟨g,o+3,none⟩=some (.int .i64 e.size)
theorem CVr.a{g o:Nat}{e:qI}{v:Unit}{w:World}(h:CVr g o e v w):w.cell? ⟨g,o,none⟩=some (.string ⟨e.name.toArray⟩)/\w.cell? ⟨g,o+1,none⟩=some (.int .i64 e.t.1)/\w.cell? ⟨g,o+2,none⟩=some (.bool e.t.2)/\w.cell? ⟨g,o+3,none⟩=some (.int .i64 e.size)/\True:=⟨h.c0,h.c1,h.c2,h.c3,trivial⟩
theorem CVr.move{g o:Nat}{e:qI}{v:Unit}{w w':World}(h:CVr g o e v w)(hg:w'.1[g]? = w.1[g]?):CVr g o e v w' :=
 ⟨(cB hg).trans h.c0,(cB hg).trans h.c1,(cB hg).trans h.c2,(cB hg).trans h.c3⟩
def qWx(B:Nat)(w:World)(es:List Ex)(q:Option Addr):Prop:=es=[]\/∃ g,q=some ⟨g,0,none⟩/\g < B/\g < w.1.size/\∀ i (h:i < es.length),∃ v,qQF w (· < B) es[i] v/\CEx g (i * 9) es[i] v w
theorem qU.at{B:Nat}{w:World}{es:List Ex}{v:Value}(h:qU w (· < B) es v):∃ q c,v=.slice q es.length c/\es.length<=maxLen/\qWx B w es q:=by
 obtain⟨vs,h1,h2,h3⟩:=h;have hlen:=yN.length es vs h3;rw[qP8]at h2;rcases h2.2 with⟨rfl,h0⟩ | ⟨g,cap,cur,rfl,_,hg,h4,h5,_⟩
 ·exact⟨none,0,by rw[h0],by unfold maxLen;omega, .inl (List.length_eq_zero_iff.1 h0)⟩
 ·refine⟨_,cap,rfl,by omega, .inr ⟨g,rfl,h1 g rfl,(h2.lt g rfl).2,fun i hi=>?_⟩⟩;have hj:i < vs.length:=by omega
  have hl:=yN.at h3 i hi hj;have hat:=fun(k:Nat) (u:Value) (hk:k < 9) (hu:(exC es[i] vs[i])[k]? = some u)=>qLn exC_len h2 (g:=g) rfl hi hj hk hu
  refine⟨vs[i],hl,?_⟩;generalize es[i]=e at *;obtain⟨op,t,n,va,gl,l,c,ks⟩:=e;exact⟨hat 0 _ (by omega) rfl,hat 1 _ (by omega) rfl,hat 2 _ (by omega) rfl,hat 3 _ (by omega) rfl,hat 4 _ (by omega) rfl,hat 5 _ (by omega) rfl,hat 6 _ (by omega) rfl,hat 7 _ (by omega) rfl,hat 8 _ (by omega) rfl⟩
theorem qQF.keep{B:Nat}{w w':World}{e:Ex}{v:Value}(h:qQF w (· < B) e v)(hb:Below B w w'):qQF w' (· < B) e v:=qQF.move (fun g _ hg=>⟨hg,hb.block g hg⟩) e v h
theorem qWx.keep{B:Nat}{w w':World}{es:List Ex}{q:Option Addr}(h:qWx B w es q)(hb:Below B w w'):qWx B w' es q:=by
 rcases h with h | ⟨g,h1,h2,h3,h4⟩
 ·exact .inl h
 ·exact .inr ⟨g,h1,h2,Nat.lt_of_lt_of_le h3 hb.size,fun i hi=>by obtain⟨v,a,b⟩:=h4 i hi;exact⟨v,a.keep hb,b.move (hb.block g h2)⟩⟩
theorem qQF.at{B:Nat}{w:World}{e:Ex}{v:Value}(h:qQF w (· < B) e v):∃ q c,v=.slice q e.kids.length c/\e.kids.length<=maxLen/\qWx B w e.kids q:=((qVr e v).1 h).at
def qVt(B:Nat)(w:World)(ss:List Sx)(q:Option Addr):Prop:=ss=[]\/∃ g,q=some ⟨g,0,none⟩/\g < B/\g < w.1.size/\∀ i (h:i < ss.length),∃ v,wL w (· < B) ss[i] v/\CSx g (i * 8) ss[i] v w
theorem jE.at{B:Nat}{w:World}{ss:List Sx}{v:Value}(h:jE w (· < B) ss v):∃ q c,v=.slice q ss.length c/\ss.length<=maxLen/\qVt B w ss q:=by
 obtain⟨vs,h1,h2,h3⟩:=h;have hlen:=yZ.length ss vs h3;rw[qP9]at h2;rcases h2.2 with⟨rfl,h0⟩ | ⟨g,cap,cur,rfl,_,hg,h4,h5,_⟩
 ·exact⟨none,0,by rw[h0],by unfold maxLen;omega, .inl (List.length_eq_zero_iff.1 h0)⟩
 ·refine⟨_,cap,rfl,by omega, .inr ⟨g,rfl,h1 g rfl,(h2.lt g rfl).2,fun i hi=>?_⟩⟩;have hj:i < vs.length:=by omega
  have hl:=yZ.at h3 i hi hj;have hat:=fun(k:Nat) (u:Value) (hk:k < 8) (hu:(sxC ss[i] vs[i])[k]? = some u)=>qLn sxC_len h2 (g:=g) rfl hi hj hk hu
  refine⟨vs[i],hl,?_⟩;generalize ss[i]=e at *;obtain⟨op,l,c,tg,es,fn,th,el⟩:=e;exact⟨hat 0 _ (by omega) rfl,hat 1 _ (by omega) rfl,hat 2 _ (by omega) rfl,hat 3 _ (by omega) rfl,hat 4 _ (by omega) rfl,hat 5 _ (by omega) rfl,hat 6 _ (by omega) rfl,hat 7 _ (by omega) rfl⟩
theorem wL.keep{B:Nat}{w w':World}{e:Sx}{v:qQg}(h:wL w (· < B) e v)(hb:Below B w w'):wL w' (· < B) e v:=wL.move (fun g _ hg=>⟨hg,hb.block g hg⟩) e v h
theorem qVt.keep{B:Nat}{w w':World}{ss:List Sx}{q:Option Addr}(h:qVt B w ss q)(hb:Below B w w'):qVt B w' ss q:=by
 rcases h with h | ⟨g,h1,h2,h3,h4⟩
 ·exact .inl h
 ·exact .inr ⟨g,h1,h2,Nat.lt_of_lt_of_le h3 hb.size,fun i hi=>by obtain⟨v,a,b⟩:=h4 i hi;exact⟨v,a.keep hb,b.move (hb.block g h2)⟩⟩
theorem wL.at{B:Nat}{w:World}{e:Sx}{v:qQg}(h:wL w (· < B) e v):∃ q1 c1 q2 c2 q3 c3 q4 c4,v=⟨.slice q1 e.target.length c1, .slice q2 e.exprs.length c2, .slice q3 e.thn.length c3, .slice q4 e.els.length c4⟩ /\
 qWx B w e.target q1/\qWx B w e.exprs q2/\qVt B w e.thn q3/\qVt B w e.els q4/\e.target.length<=maxLen/\e.exprs.length<=maxLen/\e.thn.length<=maxLen/\e.els.length<=maxLen:=by
 obtain⟨op,l,c,tg,es,fn,th,el⟩:=e;obtain⟨h1,h2,h3,h4⟩:=h;obtain⟨q1,c1,e1,l1,a1⟩:=h1.at
 obtain⟨q2,c2,e2,l2,a2⟩:=h2.at
 obtain⟨q3,c3,e3,l3,a3⟩:=jE.at (ss:=th) h3;obtain⟨q4,c4,e4,l4,a4⟩:=jE.at (ss:=el) h4;obtain⟨tv,ev,hv,lv⟩:=v;simp only at e1 e2 e3 e4;subst e1 e2 e3 e4;exact⟨q1,c1,q2,c2,q3,c3,q4,c4,rfl,a1,a2,a3,a4,l1,l2,l3,l4⟩
def qYC(B:Nat)(w:World)(vs:List qI)(q:Option Addr):Prop:=vs=[]\/∃ g,q=some ⟨g,0,none⟩/\g < B/\g < w.1.size/\∀ i (h:i < vs.length),CVr g (i * 4) vs[i] () w
theorem qQI.at{B:Nat}{w:World}{vs:List qI}{v:Value}(h:qQI w 0 vs v)(hB:w.1.size<=B):∃ q c,v=.slice q vs.length c/\vs.length<=maxLen/\qYC B w vs q:=by
 have h2:w.ownsRow 0 42 4 v vs.length (xD qQe vs):=h;rcases h2.2 with⟨rfl,h0⟩ | ⟨g,cap,cur,rfl,_,hg,h4,h5,_⟩
 ·exact⟨none,0,by rw[h0],by unfold maxLen;omega, .inl (List.length_eq_zero_iff.1 h0)⟩
 ·refine⟨_,cap,rfl,by omega, .inr ⟨g,rfl,Nat.lt_of_lt_of_le (h2.lt g rfl).2 hB,(h2.lt g rfl).2,fun i hi=>?_⟩⟩;have hat:=fun(k:Nat) (u:Value) (hk:k < 4) (hu:(qQe vs[i])[k]? = some u)=>qQm qJ0 h2 (g:=g) rfl hi hk hu
  exact⟨hat 0 _ (by omega) rfl,hat 1 _ (by omega) rfl,hat 2 _ (by omega) rfl,hat 3 _ (by omega) rfl⟩
theorem qYC.keep{B:Nat}{w w':World}{vs:List qI}{q:Option Addr}(h:qYC B w vs q)(hb:Below B w w'):qYC B w' vs q:=by
 rcases h with h | ⟨g,h1,h2,h3,h4⟩
 ·exact .inl h
 ·exact .inr ⟨g,h1,h2,Nat.lt_of_lt_of_le h3 hb.size,fun i hi=>(h4 i hi).move (hb.block g h2)⟩
def qLB(B:Nat)(w:World)(fs:List qQ2)(q:Option Addr):Prop:=fs=[]\/∃ g,q=some ⟨g,0,none⟩/\g < B/\g < w.1.size/\∀ i (h:i < fs.length),∃ qv cv qb cb,CFn g (i * 6) fs[i] ⟨.slice qv fs[i].vars.length cv, .slice qb fs[i].body.length cb⟩ w/\qYC B w fs[i].vars qv/\fs[i].vars.length<=64/\qVt B w fs[i].body qb/\fs[i].body.length<=maxLen
theorem qLB.keep{B:Nat}{w w':World}{fs:List qQ2}{q:Option Addr}(h:qLB B w fs q)(hb:Below B w w'):qLB B w' fs q:=by
 rcases h with h | ⟨g,h1,h2,h3,h4⟩
 ·exact .inl h
 ·exact .inr ⟨g,h1,h2,Nat.lt_of_lt_of_le h3 hb.size,fun i hi=>by obtain⟨qv,cv,qb,cb,a,b,c,d,e⟩:=h4 i hi;exact⟨qv,cv,qb,cb,a.move (hb.block g h2),b.keep hb,c,d.keep hb,e⟩⟩
theorem outD_at:∀ (fs:List FnM) (bs:List (List Sx)) (i:Nat) (h:i < (qXt fs bs).length) (hf:i < fs.length),(qXt fs bs)[i]=mkD fs[i] (bs.getD i [])
 | f :: fs,b :: bs,0,_,_=>rfl
 | f :: fs,b :: bs,i+1,h,hf=>by
  simp only[qXt,List.getElem_cons_succ,List.getD_cons_succ];exact outD_at fs bs i (by simpa[qXt]using h) (by simpa using hf)
 | [],_,i,h,hf=>by simp at hf
 | _ :: _,[],i,h,_=>by simp[qXt]at h
structure qPb(B:Nat)(p:PrD)(gq fq:Option Addr)(w:World):Prop where
 gs:qYC B w p.globals gq
 fs:qLB B w p.funcs fq
 gl:p.globals.length<=64
 fl:p.funcs.length<=16
 ma:∃ i:Nat,p.main=i/\i < p.funcs.length
theorem qPb.keep{B:Nat}{p:PrD}{gq fq:Option Addr}{w w':World}(h:qPb B p gq fq w)(hb:Below B w w'):qPb B p gq fq w':=⟨h.gs.keep hb,h.fs.keep hb,h.gl,h.fl,h.ma⟩
def prV(p:PrD)(gq fq:Option Addr)(gc fc:Nat):Value:=.agg #[.slice gq p.globals.length gc, .slice fq p.funcs.length fc, .int .i64 p.main]
theorem qZ2.at{lo:Nat}{p:PrD}{v:Value}{w:World}(h:qZ2 lo p v w):∃ gq gc fq fc,v=prV p gq fq gc fc/\qPb w.1.size p gq fq w:=by
 obtain⟨fs,bs,gv,fv,rfl,h1,h2,h3,h4,h5,h6,h7,h8,h9,i,h10,h11⟩:=h;have hfl:p.funcs.length=fs.length:=by rw[h4,qVf fs bs (by omega),h5]
 obtain⟨gq,gc,rfl,_,hg⟩:=h1.at (Nat.le_refl _);refine⟨gq,gc,?_⟩;have key:∃ fq fc,fv=.slice fq fs.length fc/\qLB w.1.size w p.funcs fq:=by
  rcases h2.2 with⟨rfl,h0⟩ | ⟨g,cap,cur,rfl,_⟩
  ·exact⟨none,0,by rw[h0], .inl (List.length_eq_zero_iff.1 (by omega))⟩
  ·refine⟨_,cap,rfl, .inr ⟨g,rfl,(h2.lt g rfl).2,(h2.lt g rfl).2,fun j hj=>?_⟩⟩;have hjf:j < fs.length:=by omega
   obtain⟨qv,cv,ev,_,av⟩:=(h3 fs[j] (List.getElem_mem hjf)).at (Nat.le_refl _);have hb:=h6 j (by omega);rw[show fs.getD j noF=fs[j] by simp[List.getD_eq_getElem?_getD,hjf]]at hb;obtain⟨qb,cb,eb,lb,ab⟩:=jE.at (hb.move (ok':=(· < w.1.size)) (w':=w) (fun g hg _=>⟨hg,rfl⟩));have hc:=qZv h2 hjf;have hv64:=h9 fs[j] (List.getElem_mem hjf);have e:p.funcs[j]=mkD fs[j] (bs.getD j []):=by
    have:=outD_at fs bs j (by rw[qVf fs bs (by omega)];omega) hjf;simp only[h4];exact this
   rw[e];obtain⟨c0,c1,c2,c3,c4,c5⟩:=hc;rw[ev]at c4;rw[eb]at c5;exact⟨qv,cv,qb,cb,⟨c0,c1,c2,c3,c4,c5⟩,av,hv64,ab,lb⟩
 obtain⟨fq,fc,rfl,hf⟩:=key;exact⟨fq,fc,by rw[prV,hfl],hg,hf,h7,by omega,i,h10,by omega⟩
def qYi(a b:qI):Bool:=a.name == b.name && ((a.t.1 == b.t.1 && a.t.2 == b.t.2) && a.size == b.size)
def kC:List qI->List qI->Bool
 | [],us=>us.isEmpty
 | t :: ts,us=>match us with
  | []=>false
  | u :: us=>qYi t u && kC ts us
mutual
def qKs:Ex->Ex->Bool
 | .mk op t n v g l c ks,b=>op == b.op && ((t.1 == b.ty.1 && t.2 == b.ty.2) && (n == b.num && (v == b.var && (g == b.glob && (l == b.line && (c == b.col && yO ks b.kids))))))
def yO:List Ex->List Ex->Bool
 | [],us=>us.isEmpty
 | t :: ts,us=>match us with
  | []=>false
  | u :: us=>qKs t u && yO ts us
end
mutual
def qKu:Sx->Sx->Bool
 | .mk op l c tg es fn th el,b=>op == b.op && (l == b.line && (c == b.col && (fn == b.fn && (yO tg b.target && (yO es b.exprs && (yA th b.thn && yA el b.els))))))
def yA:List Sx->List Sx->Bool
 | [],us=>us.isEmpty
 | t :: ts,us=>match us with
  | []=>false
  | u :: us=>qKu t u && yA ts us
end
def qYf(a b:qQ2):Bool:=a.name == b.name && ((a.t.1 == b.t.1 && a.t.2 == b.t.2) && (a.params == b.params && (kC a.vars b.vars && yA a.body b.body)))
def wS:List qQ2->List qQ2->Bool
 | [],us=>us.isEmpty
 | t :: ts,us=>match us with
  | []=>false
  | u :: us=>qYf t u && wS ts us
def qLv(a b:PrD):Bool:=a.main == b.main && (kC a.globals b.globals && wS a.funcs b.funcs)
theorem qYj:∀ (ts us:List qI),kC ts us=true->ts.length=us.length
 | [],us,h=>by cases us with | nil=>rfl | cons u r=>simp[kC]at h
 | t :: ts,us,h=>by
  cases us with
  | nil=>simp[kC]at h
  | cons u r =>
   simp only[kC,bE]at h;simp[qYj ts r h.2]
theorem qLH{ts us:List qI}{i:Nat}(h:i < ts.length)(h':i < us.length):kC (ts.drop i) (us.drop i)=(qYi ts[i] us[i] && kC (ts.drop (i+1)) (us.drop (i+1))):=by
 rw[List.drop_eq_getElem_cons h,List.drop_eq_getElem_cons h',kC]
theorem qLz{ts us:List qI}{i:Nat}(h:¬i < ts.length)(hl:ts.length=us.length):kC (ts.drop i) (us.drop i)=true:=by
 rw[List.drop_eq_nil_of_le (by omega),List.drop_eq_nil_of_le (by omega),kC];rfl
theorem qYe:∀ (ts us:List Ex),yO ts us=true->ts.length=us.length
 | [],us,h=>by cases us with | nil=>rfl | cons u r=>simp[yO]at h
 | t :: ts,us,h=>by
  cases us with
  | nil=>simp[yO]at h
  | cons u r =>
   simp only[yO,bE]at h;simp[qYe ts r h.2]
theorem qLE{ts us:List Ex}{i:Nat}(h:i < ts.length)(h':i < us.length):yO (ts.drop i) (us.drop i)=(qKs ts[i] us[i] && yO (ts.drop (i+1)) (us.drop (i+1))):=by
 rw[List.drop_eq_getElem_cons h,List.drop_eq_getElem_cons h',yO]
theorem qLt{ts us:List Ex}{i:Nat}(h:¬i < ts.length)(hl:ts.length=us.length):yO (ts.drop i) (us.drop i)=true:=by
 rw[List.drop_eq_nil_of_le (by omega),List.drop_eq_nil_of_le (by omega),yO];rfl
theorem qYh:∀ (ts us:List Sx),yA ts us=true->ts.length=us.length
 | [],us,h=>by cases us with | nil=>rfl | cons u r=>simp[yA]at h
 | t :: ts,us,h=>by
  cases us with
  | nil=>simp[yA]at h
  | cons u r =>
   simp only[yA,bE]at h;simp[qYh ts r h.2]
theorem qLG{ts us:List Sx}{i:Nat}(h:i < ts.length)(h':i < us.length):yA (ts.drop i) (us.drop i)=(qKu ts[i] us[i] && yA (ts.drop (i+1)) (us.drop (i+1))):=by
 rw[List.drop_eq_getElem_cons h,List.drop_eq_getElem_cons h',yA]
theorem qLx{ts us:List Sx}{i:Nat}(h:¬i < ts.length)(hl:ts.length=us.length):yA (ts.drop i) (us.drop i)=true:=by
 rw[List.drop_eq_nil_of_le (by omega),List.drop_eq_nil_of_le (by omega),yA];rfl
theorem qYg:∀ (ts us:List qQ2),wS ts us=true->ts.length=us.length
 | [],us,h=>by cases us with | nil=>rfl | cons u r=>simp[wS]at h
 | t :: ts,us,h=>by
  cases us with
  | nil=>simp[wS]at h
  | cons u r =>
   simp only[wS,bE]at h;simp[qYg ts r h.2]
theorem qLF{ts us:List qQ2}{i:Nat}(h:i < ts.length)(h':i < us.length):wS (ts.drop i) (us.drop i)=(qYf ts[i] us[i] && wS (ts.drop (i+1)) (us.drop (i+1))):=by
 rw[List.drop_eq_getElem_cons h,List.drop_eq_getElem_cons h',wS]
theorem qLu{ts us:List qQ2}{i:Nat}(h:¬i < ts.length)(hl:ts.length=us.length):wS (ts.drop i) (us.drop i)=true:=by
 rw[List.drop_eq_nil_of_le (by omega),List.drop_eq_nil_of_le (by omega),wS];rfl
theorem sameV_refl(a:qI):qYi a a=true:=by simp[qYi]
theorem qJU:∀ l:List qI,kC l l=true
 | []=>rfl
 | a :: r=>by simp only[kC,bE];exact⟨sameV_refl a,qJU r⟩
mutual
theorem sameE_refl:∀ e:Ex,qKs e e=true
 | .mk op t n v g l c ks=>by
  have:=qJT ks;simp[qKs,Ex.op,Ex.ty,Ex.num,Ex.var,Ex.glob,Ex.line,Ex.col,Ex.kids,this]
theorem qJT:∀ l:List Ex,yO l l=true
 | []=>rfl
 | a :: r=>by simp only[yO,bE];exact⟨sameE_refl a,qJT r⟩
end
mutual
theorem sameS_refl:∀ e:Sx,qKu e e=true
 | .mk op l c tg es fn th el=>by
  have h1:=qXO th;have h2:=qXO el;simp[qKu,Sx.op,Sx.line,Sx.col,Sx.target,Sx.exprs,Sx.fn,Sx.thn,Sx.els,qJT,h1,h2]
theorem qXO:∀ l:List Sx,yA l l=true
 | []=>rfl
 | a :: r=>by simp only[yA,bE];exact⟨sameS_refl a,qXO r⟩
end
theorem sameF_refl(a:qQ2):qYf a a=true:=by simp[qYf,qJU,qXO]
theorem qWc:∀ l:List qQ2,wS l l=true
 | []=>rfl
 | a :: r=>by simp only[wS,bE];exact⟨sameF_refl a,qWc r⟩
theorem qLw(p:PrD):qLv p p=true:=by simp[qLv,qJU,qWc]
def xM(b:Bool)(w:World)(e:Ending)(w':World):Prop:=e=.returned (.bool b)/\Below w.1.size w w'
theorem kidE_size{t:Ex}{ks:List Ex}(h:t∈ks)(op:List UInt8)(ty:Ty)(n v:Int)(g:Bool)(l c:Int):SizeOf.sizeOf t < SizeOf.sizeOf (Ex.mk op ty n v g l c ks):=by
 have:=List.sizeOf_lt_of_mem h;simp only[Ex.mk.sizeOf_spec];omega
theorem thn_size{t:Sx}{e:Sx}(h:t∈e.thn):SizeOf.sizeOf t < SizeOf.sizeOf e:=by
 obtain⟨op,l,c,tg,es,fn,th,el⟩:=e;have:=List.sizeOf_lt_of_mem (show t∈th from h);simp only[Sx.mk.sizeOf_spec];omega
theorem els_size{t:Sx}{e:Sx}(h:t∈e.els):SizeOf.sizeOf t < SizeOf.sizeOf e:=by
 obtain⟨op,l,c,tg,es,fn,th,el⟩:=e;have:=List.sizeOf_lt_of_mem (show t∈el from h);simp only[Sx.mk.sizeOf_spec];omega
def AlERel(ts us:List Ex)(w:World)(i:Value)(wr:World):Prop :=
 ∃ k:Nat,k<=ts.length/\i=.int .i64 k/\yO (ts.drop k) (us.drop k)=yO ts us/\Below w.1.size w wr
theorem qWE(B:Nat)(ts us:List Ex)(q q':Option Addr)(c c':Nat)(w:World)(hB:B<=w.1.size)(h1:qWx B w ts q)(h2:qWx B w us q')(hn1:ts.length<=maxLen)(hn2:us.length<=maxLen)
 (hrec:∀ t∈ts,∀ (u:Ex) (v v':Value) (w:World),B<=w.1.size->qQF w (· < B) t v->qQF w (· < B) u v'->Calls prog 70 #[exV t v,exV u v'] w (xM (qKs t u) w)) :
 Calls prog 69 #[.slice q ts.length c, .slice q' us.length c', .func (.func 70) #[] #[]] w (xM (yO ts us) w):=by
 have H1:=hI h1;have H2:=hI h2;have HR:=hI hrec;have hcf:∀ (args:Array Value) (w:World),(callFunc 70 args).run prog w=.ok (.enter 70 args) w:=fun _ _=>rfl
 unfold maxLen at hn1 hn2;clear h1 h2 hrec;unfold xM;by_cases hl:ts.length=us.length
 ·have hlb:(((ts.length:Nat):Int) != ((us.length:Nat):Int))=false:=by simp[hl]
  rw[<-hl];rw[<-hl]at hlb hn2;have HL:=hI hl;clear hl;go_enter func69,ntmps69
  go_wp2_with fail
  go_loopw [15] (fun i wr=>AlERel ts us w i wr) (fun i _=>ts.length - (intOf i).toNat)
  case atStart=>exact⟨0,Nat.zero_le _,rfl,by simp,Below.refl _ _⟩
  case round =>
   obtain⟨k,hk,rfl,hs,hb⟩:=hrel;have HS:=hI hs;have HBB:=hI hb;clear hs hb;by_cases hlt:k < ts.length
   ·have hlt':k < us.length:=by have:=HL.o;omega
    obtain⟨g,rfl,hgB,hgr,hR1⟩:=(H1.o.keep (HBB.o.mono hB)).resolve_left (fun e=>by rw[e]at hlt;simp at hlt);obtain⟨g',rfl,hgB',hgr',hR2⟩:=(H2.o.keep (HBB.o.mono hB)).resolve_left (fun e=>by rw[e]at hlt';simp at hlt');have hbs:B<=wr.1.size:=by have:=HBB.o.size;omega
    obtain⟨v1,l1,C1⟩:=hR1 k hlt;obtain⟨v2,l2,C2⟩:=hR2 k hlt';have⟨k0,k1,k2,k3,k4,k5,k6,k7,k8,_⟩:=C1.a;have⟨j0,j1,j2,j3,j4,j5,j6,j7,j8,_⟩:=C2.a;have HC:=hI (fun(W:World) (h:Below wr.1.size wr W)=>HR.o ts[k] (List.getElem_mem _) us[k] v1 v2 W (Nat.le_trans hbs h.size) (l1.keep (h.mono hbs)) (l2.keep (h.mono hbs)));have hstep:=qLE hlt hlt';have HST:=hI hstep;clear hstep;clear C1 C2 hR1 hR2 l1 l2;generalize ts[k]=t at *;generalize us[k]=u at *;obtain⟨op,ty,n,va,gl,l,co,ks⟩:=t;obtain⟨op',ty',n',va',gl',l',co',ks'⟩:=u;simp only[Ex.op,Ex.ty,Ex.num,Ex.var,Ex.glob,Ex.line,Ex.col,exV]at k0 k1 k2 k3 k4 k5 k6 k7 k8 j0 j1 j2 j3 j4 j5 j6 j7 j8 HC;generalize hT:Ex.mk op ty n va gl l co ks=t at *;generalize hU:Ex.mk op' ty' n' va' gl' l' co' ks'=u at *;generalize hst:qKs t u=b at *;have hk63:(k:Int) < (ts.length:Nat):=by omega
    have hk0:(0:Int)<=(k:Int):=by omega
    go_wp2_with fail
    refine wRg (S:=fun w'=>Below wr.1.size wr w') 9 ?_;refine wTk 0 18 (.func (.func 70) #[] #[]) ?_ (bD wr) ?_
    ·intro _ y;go_simp
    refine wTk 1 19 (.slice (some ⟨g,0,none⟩) ts.length c) ?_ (bD wr) ?_
    ·intro _ y;go_simp
    refine wTk 2 20 (.int .i64 k) ?_ (bD wr) ?_
    ·intro _ y;go_simp
    refine wTk 3 21 (.pointer (some ⟨g,k * 9,none⟩)) ?_ (bD wr) ?_
    ·intro _ y;go_simp
    refine wTk 4 22 (.agg #[.string ⟨op.toArray⟩, .int .i64 ty.1, .bool ty.2, .int .u64 n, .int .i64 va, .bool gl, .int .i64 l, .int .i64 co,v1]) ?_ (bD wr) ?_
    ·intro _ y;obtain⟨k0,k1,k2,k3,k4,k5,k6,k7⟩:=kP8 y k0 k1 k2 k3 k4 k5 k6 k7;have k8:=kP y k8;go_simp
    refine wTk 5 23 (.slice (some ⟨g',0,none⟩) ts.length c') ?_ (bD wr) ?_
    ·intro _ y;go_simp
    refine wTk 6 24 (.int .i64 k) ?_ (bD wr) ?_
    ·intro _ y;go_simp
    refine wTk 7 25 (.pointer (some ⟨g',k * 9,none⟩)) ?_ (bD wr) ?_
    ·intro _ y;go_simp
    refine wTk 8 26 (.agg #[.string ⟨op'.toArray⟩, .int .i64 ty'.1, .bool ty'.2, .int .u64 n', .int .i64 va', .bool gl', .int .i64 l', .int .i64 co',v2]) ?_ (bD wr) ?_
    ·intro _ y;obtain⟨j0,j1,j2,j3,j4,j5,j6,j7⟩:=kP8 y j0 j1 j2 j3 j4 j5 j6 j7;have j8:=kP y j8;go_simp
    refine wOn 9 fun K hK=>?_
    go_simp;refine(HC.o _ (Below.refl _ _).drew).mono ?_;rintro e w3 ⟨rfl,hb3⟩;have hb9:=zF hb3;have HB9:=hI hb9;clear hb3;refine kD hK ?_;clear hK K;refine wOn 10 fun K hK=>?_
    go_simp;refine kD hK ?_;clear hK K;refine wDn ?_ _;clear hb9;cases b
    ·go_wp2
     go_ret;refine⟨?_,HBB.o.trans (HB9.o.mono HBB.o.size)⟩;rw[<-HS.o,HST.o];rfl
    ·go_wp2
     go_roundw
     case rel=>exact⟨k+1,by omega,by go_num,by rw[<-HS.o,HST.o,bT],HBB.o.trans (HB9.o.mono HBB.o.size)⟩
     case measure=>simp[intOf];omega
   ·have hend:=qLt hlt HL.o;go_wp2
    go_ret;refine⟨?_,HBB.o⟩;rw[<-HS.o,hend];rfl
 ·have hlb:(((ts.length:Nat):Int) != ((us.length:Nat):Int))=true:=by simp;omega
  have hs:yO ts us=false:=by
   cases h:yO ts us
   ·rfl
   ·exact absurd (qYe ts us h) hl
  rw[hs];clear hl;go_enter func69,ntmps69
  go_wp2
  go_ret;exact⟨rfl,Below.refl _ _⟩
theorem qYL(B:Nat)(a b:Ex)(v v':Value)(w:World)(hB:B<=w.1.size)(ha:qQF w (· < B) a v)(hb:qQF w (· < B) b v')
 (hrec:∀ t∈a.kids,∀ (u:Ex) (v v':Value) (w:World),B<=w.1.size->qQF w (· < B) t v->qQF w (· < B) u v'->Calls prog 70 #[exV t v,exV u v'] w (xM (qKs t u) w)) :
 Calls prog 70 #[exV a v,exV b v'] w (xM (qKs a b) w):=by
 obtain⟨q,c,rfl,hm,hka⟩:=ha.at
 obtain⟨q',c',rfl,hm',hkb⟩:=hb.at
 obtain⟨op,ty,n,va,gl,l,co,ks⟩:=a;obtain⟨op',ty',n',va',gl',l',co',ks'⟩:=b;simp only[Ex.kids]at *;have h2:=(bal (Below.refl w.1.size w) (.cells (exC (.mk op ty n va gl l co ks) (.slice q ks.length c)).toArray 76)).trans ((bal (Below.refl _ (w.alloc (.cells (exC (.mk op ty n va gl l co ks) (.slice q ks.length c)).toArray 76))) (.cells (exC (.mk op' ty' n' va' gl' l' co' ks') (.slice q' ks'.length c')).toArray 76)).mono (by simp));have HE:=hI (qWE B ks ks' q q' c c' _ (Nat.le_trans hB h2.size) (hka.keep (h2.mono hB)) (hkb.keep (h2.mono hB)) hm hm' hrec);have H2:=hI h2;have hst:qKs (.mk op ty n va gl l co ks) (.mk op' ty' n' va' gl' l' co' ks')=(op == op' && ((ty.1 == ty'.1 && ty.2 == ty'.2) && (n == n' && (va == va' && (gl == gl' && (l == l' && (co == co' && yO ks ks'))))))):=rfl;rw[hst];clear h2 ha hb hka hkb hrec hst hm hm';unfold xM at *;simp only[exC,exV]at *;cases e0:(op == op');case false =>
  go_enter func70,ntmps70
  go_wp2
  go_ret;exact⟨rfl,H2.o⟩
 case true =>
 obtain⟨t1,t2⟩:=ty;obtain⟨t1',t2'⟩:=ty';simp only at *;by_cases a1:t1=t1'
 case neg =>
  rw[show(t1 == t1')=false by simpa using a1];go_enter func70,ntmps70
  go_wp2
  go_ret;exact⟨rfl,H2.o⟩
 case pos =>
 subst a1;by_cases a2:t2=t2'
 case neg =>
  rw[show(t1 == t1)=true by simp,show(t2 == t2')=false by simpa using a2];go_enter func70,ntmps70
  go_wp2
  go_ret;exact⟨rfl,H2.o⟩
 case pos =>
 subst a2;rw[show(t1 == t1)=true by simp,show(t2 == t2)=true by simp];cases e2:(n == n');case false =>
  go_enter func70,ntmps70
  go_wp2
  go_ret;exact⟨rfl,H2.o⟩
 case true =>
 cases e3:(va == va');case false =>
  go_enter func70,ntmps70
  go_wp2
  go_ret;exact⟨rfl,H2.o⟩
 case true =>
 cases e4:(gl == gl');case false =>
  go_enter func70,ntmps70
  go_wp2
  go_ret;exact⟨rfl,H2.o⟩
 case true =>
 cases e5:(l == l');case false =>
  go_enter func70,ntmps70
  go_wp2
  go_ret;exact⟨rfl,H2.o⟩
 case true =>
 cases e6:(co == co');case false =>
  go_enter func70,ntmps70
  go_wp2
  go_ret;exact⟨rfl,H2.o⟩
 case true =>
  go_enter func70,ntmps70
  go_wp2_with fail
  refine(HE.o).mono ?_;rintro e w3 ⟨rfl,hb3⟩;go_wp2
  go_ret;exact⟨rfl,H2.o.trans (hb3.mono H2.o.size)⟩
theorem qU2(B:Nat):∀ (n:Nat) (a:Ex),SizeOf.sizeOf a < n->∀ (b:Ex) (va vb:Value) (w:World),B<=w.1.size->qQF w (· < B) a va->qQF w (· < B) b vb->Calls prog 70 #[exV a va,exV b vb] w (xM (qKs a b) w):=by
 intro n;induction n with
 | zero=>intro a h;omega
 | succ n ih =>
  intro a h b va vb w hB ha hb;refine qYL B a b va vb w hB ha hb fun t ht u v v' w1 h1 h2 h3=>ih t ?_ u v v' w1 h1 h2 h3
  obtain⟨op,ty,m,v,g,l,c,ks⟩:=a;have:=kidE_size (t:=t) (ks:=ks) ht op ty m v g l c;omega
theorem qKt(B:Nat)(es us:List Ex)(q q':Option Addr)(c c':Nat)(w:World)(hB:B<=w.1.size)(h1:qWx B w es q)(h2:qWx B w us q')(hn1:es.length<=maxLen)(hn2:us.length<=maxLen) :
 Calls prog 69 #[.slice q es.length c, .slice q' us.length c', .func (.func 70) #[] #[]] w (xM (yO es us) w) :=
 qWE B es us q q' c c' w hB h1 h2 hn1 hn2 fun t _ u v v' w1 hB1 l1 l2=>qU2 B _ t (Nat.lt_succ_self _) u v v' w1 hB1 l1 l2
def SlE(B:Nat)(es:List Ex):Prop:=∀ (us:List Ex) (q q':Option Addr) (c c':Nat) (w:World),B<=w.1.size->qWx B w es q->qWx B w us q'->es.length<=maxLen->us.length<=maxLen ->
 Calls prog 49 #[.slice q es.length c, .slice q' us.length c'] w (xM (yO es us) w)
theorem qLK(B:Nat)(ts:List Ex)(hrec:∀ t∈ts,SlE B t.kids):SlE B ts:=by
 intro us q q' c c' w hB h1 h2 hn1 hn2;have H1:=hI h1;have H2:=hI h2;have HR:=hI hrec;unfold maxLen at hn1 hn2;clear h1 h2 hrec;unfold xM;by_cases hl:ts.length=us.length
 ·have hlb:(((ts.length:Nat):Int) != ((us.length:Nat):Int))=false:=by simp[hl]
  rw[<-hl];rw[<-hl]at hlb hn2;have HL:=hI hl;clear hl;go_enter func49,ntmps49
  go_wp2_with fail
  go_loopw [5] (fun i wr=>AlERel ts us w i wr) (fun i _=>ts.length - (intOf i).toNat)
  case atStart=>exact⟨0,Nat.zero_le _,rfl,by simp,Below.refl _ _⟩
  case round =>
   obtain⟨k,hk,rfl,hs,hb⟩:=hrel;have HS:=hI hs;have HBB:=hI hb;clear hs hb;by_cases hlt:k < ts.length
   ·have hlt':k < us.length:=by have:=HL.o;omega
    obtain⟨g,rfl,hgB,hgr,hR1⟩:=(H1.o.keep (HBB.o.mono hB)).resolve_left (fun e=>by rw[e]at hlt;simp at hlt);obtain⟨g',rfl,hgB',hgr',hR2⟩:=(H2.o.keep (HBB.o.mono hB)).resolve_left (fun e=>by rw[e]at hlt';simp at hlt');obtain⟨v1,l1,C1⟩:=hR1 k hlt;obtain⟨v2,l2,C2⟩:=hR2 k hlt';obtain⟨q1,c1,rfl,m1,a1⟩:=l1.at
    obtain⟨q2,c2,rfl,m2,a2⟩:=l2.at
    have⟨k0,k1,k2,k3,k4,k5,k6,k7,k8,_⟩:=C1.a;have⟨j0,j1,j2,j3,j4,j5,j6,j7,j8,_⟩:=C2.a;have hbs:B<=wr.1.size:=by have:=HBB.o.size;omega
    have HC:=hI (fun(W:World) (h:Below wr.1.size wr W)=>HR.o ts[k] (List.getElem_mem _) us[k].kids q1 q2 c1 c2 W (Nat.le_trans hbs h.size) (a1.keep (h.mono hbs)) (a2.keep (h.mono hbs)) m1 m2);have hstep:=qLE hlt hlt';have HST:=hI hstep;clear hstep C1 C2 hR1 hR2 l1 l2 a1 a2 m1 m2;generalize ts[k]=t at *;generalize us[k]=u at *;have hk63:(k:Int) < (ts.length:Nat):=by omega
    have hk0:(0:Int)<=(k:Int):=by omega
    have HBY:=hI (fun a b:Obj=>(((Below.refl wr.1.size wr).alloc (Nat.le_refl _) a).alloc (by simp) b).drew);have HBX:=hI (fun a b:Obj=>HBB.o.trans ((HBY.o a b).mono HBB.o.size));obtain⟨op,⟨t1,t2⟩,n,va,gl,l,co,ks⟩:=t;obtain⟨op',⟨t1',t2'⟩,n',va',gl',l',co',ks'⟩:=u;have hsv:qKs (.mk op (t1,t2) n va gl l co ks) (.mk op' (t1',t2') n' va' gl' l' co' ks')=(op == op' && ((t1 == t1' && t2 == t2') && (n == n' && (va == va' && (gl == gl' && (l == l' && (co == co' && yO ks ks'))))))):=rfl;have HSV:=hI hsv;clear hsv;simp only[Ex.op,Ex.ty,Ex.num,Ex.var,Ex.glob,Ex.line,Ex.col,Ex.kids]at k0 k1 k2 k3 k4 k5 k6 k7 k8 j0 j1 j2 j3 j4 j5 j6 j7 j8 HC;generalize yO ks ks'=b at *;go_wp2_with fail
    go_region
    all_goals
     by_cases e0:op=op'
     case neg =>
      go_wp2
      go_ret;exact⟨by rw[<-HS.o,HST.o,HSV.o];simp[e0],HBX.o _ _⟩
     case pos =>
     subst e0;by_cases e1:t1=t1'
     case neg =>
      go_wp2
      go_ret;exact⟨by rw[<-HS.o,HST.o,HSV.o];simp[e1],HBX.o _ _⟩
     case pos =>
     subst e1;by_cases e2:t2=t2'
     case neg =>
      go_wp2
      go_ret;exact⟨by rw[<-HS.o,HST.o,HSV.o];simp[e2],HBX.o _ _⟩
     case pos =>
     subst e2;by_cases e3:n=n'
     case neg =>
      go_wp2
      go_ret;exact⟨by rw[<-HS.o,HST.o,HSV.o];simp[e3],HBX.o _ _⟩
     case pos =>
     subst e3;by_cases e4:va=va'
     case neg =>
      go_wp2
      go_ret;exact⟨by rw[<-HS.o,HST.o,HSV.o];simp[e4],HBX.o _ _⟩
     case pos =>
     subst e4;by_cases e5:gl=gl'
     case neg =>
      go_wp2
      go_ret;exact⟨by rw[<-HS.o,HST.o,HSV.o];simp[e5],HBX.o _ _⟩
     case pos =>
     subst e5;by_cases e6:l=l'
     case neg =>
      go_wp2
      go_ret;exact⟨by rw[<-HS.o,HST.o,HSV.o];simp[e6],HBX.o _ _⟩
     case pos =>
     subst e6;by_cases e7:co=co'
     case neg =>
      go_wp2
      go_ret;exact⟨by rw[<-HS.o,HST.o,HSV.o];simp[e7],HBX.o _ _⟩
     case pos =>
     subst e7;go_wp2_with fail
     refine(HC.o _ (HBY.o _ _)).mono ?_;rintro e w3 ⟨rfl,hb3⟩;have HB3:=hI ((HBX.o _ _).trans (hb3.mono (HBX.o _ _).size));clear hb3;cases b
     ·go_wp2
      go_ret;exact⟨by rw[<-HS.o,HST.o,HSV.o];simp,HB3.o⟩
     ·go_wp2
      go_roundw
      case rel=>exact⟨k+1,by omega,by go_num,by rw[<-HS.o,HST.o,HSV.o];simp,HB3.o⟩
      case measure=>simp[intOf];omega
   ·have hend:=qLt hlt HL.o;go_wp2
    go_ret;refine⟨?_,HBB.o⟩;rw[<-HS.o,hend];rfl
 ·have hlb:(((ts.length:Nat):Int) != ((us.length:Nat):Int))=true:=by simp;omega
  have hs:yO ts us=false:=by
   cases h:yO ts us
   ·rfl
   ·exact absurd (qYe ts us h) hl
  rw[hs];clear hl;go_enter func49,ntmps49
  go_wp2
  go_ret;exact⟨rfl,Below.refl _ _⟩
def AlSRel(ts us:List Sx)(w:World)(i:Value)(wr:World):Prop :=
 ∃ k:Nat,k<=ts.length/\i=.int .i64 k/\yA (ts.drop k) (us.drop k)=yA ts us/\Below w.1.size w wr
theorem qKz(B:Nat)(ts us:List Sx)(q q':Option Addr)(c c':Nat)(w:World)(hB:B<=w.1.size)(h1:qVt B w ts q)(h2:qVt B w us q')(hn1:ts.length<=maxLen)(hn2:us.length<=maxLen)
 (hrec:∀ t∈ts,∀ (u:Sx) (v v':qQg) (w:World),B<=w.1.size->wL w (· < B) t v->wL w (· < B) u v'->Calls prog 48 #[sxV t v,sxV u v'] w (xM (qKu t u) w)) :
 Calls prog 47 #[.slice q ts.length c, .slice q' us.length c', .func (.func 48) #[] #[]] w (xM (yA ts us) w):=by
 have H1:=hI h1;have H2:=hI h2;have HR:=hI hrec;have hcf:∀ (args:Array Value) (w:World),(callFunc 48 args).run prog w=.ok (.enter 48 args) w:=fun _ _=>rfl
 unfold maxLen at hn1 hn2;clear h1 h2 hrec;unfold xM;by_cases hl:ts.length=us.length
 ·have hlb:(((ts.length:Nat):Int) != ((us.length:Nat):Int))=false:=by simp[hl]
  rw[<-hl];rw[<-hl]at hlb hn2;have HL:=hI hl;clear hl;go_enter func47,ntmps47
  go_wp2_with fail
  go_loopw [15] (fun i wr=>AlSRel ts us w i wr) (fun i _=>ts.length - (intOf i).toNat)
  case atStart=>exact⟨0,Nat.zero_le _,rfl,by simp,Below.refl _ _⟩
  case round =>
   obtain⟨k,hk,rfl,hs,hb⟩:=hrel;have HS:=hI hs;have HBB:=hI hb;clear hs hb;by_cases hlt:k < ts.length
   ·have hlt':k < us.length:=by have:=HL.o;omega
    obtain⟨g,rfl,hgB,hgr,hR1⟩:=(H1.o.keep (HBB.o.mono hB)).resolve_left (fun e=>by rw[e]at hlt;simp at hlt);obtain⟨g',rfl,hgB',hgr',hR2⟩:=(H2.o.keep (HBB.o.mono hB)).resolve_left (fun e=>by rw[e]at hlt';simp at hlt');have hbs:B<=wr.1.size:=by have:=HBB.o.size;omega
    obtain⟨v1,l1,C1⟩:=hR1 k hlt;obtain⟨v2,l2,C2⟩:=hR2 k hlt';have⟨k0,k1,k2,k3,k4,k5,k6,k7,_⟩:=C1.a;have⟨j0,j1,j2,j3,j4,j5,j6,j7,_⟩:=C2.a;have HC:=hI (fun(W:World) (h:Below wr.1.size wr W)=>HR.o ts[k] (List.getElem_mem _) us[k] v1 v2 W (Nat.le_trans hbs h.size) (l1.keep (h.mono hbs)) (l2.keep (h.mono hbs)));have hstep:=qLG hlt hlt';have HST:=hI hstep;clear hstep;clear C1 C2 hR1 hR2 l1 l2;generalize ts[k]=t at *;generalize us[k]=u at *;obtain⟨op,l,co,tg,es,fn,th,el⟩:=t;obtain⟨op',l',co',tg',es',fn',th',el'⟩:=u;obtain⟨tv,ev,hv,lv⟩:=v1;obtain⟨tv',ev',hv',lv'⟩:=v2;simp only[Sx.op,Sx.line,Sx.col,Sx.fn,sxV]at k0 k1 k2 k3 k4 k5 k6 k7 j0 j1 j2 j3 j4 j5 j6 j7 HC;generalize hT:Sx.mk op l co tg es fn th el=t at *;generalize hU:Sx.mk op' l' co' tg' es' fn' th' el'=u at *;generalize hst:qKu t u=b at *;have hk63:(k:Int) < (ts.length:Nat):=by omega
    have hk0:(0:Int)<=(k:Int):=by omega
    go_wp2_with fail
    refine wRg (S:=fun w'=>Below wr.1.size wr w') 9 ?_;refine wTk 0 18 (.func (.func 48) #[] #[]) ?_ (bD wr) ?_
    ·intro _ y;go_simp
    refine wTk 1 19 (.slice (some ⟨g,0,none⟩) ts.length c) ?_ (bD wr) ?_
    ·intro _ y;go_simp
    refine wTk 2 20 (.int .i64 k) ?_ (bD wr) ?_
    ·intro _ y;go_simp
    refine wTk 3 21 (.pointer (some ⟨g,k * 8,none⟩)) ?_ (bD wr) ?_
    ·intro _ y;go_simp
    refine wTk 4 22 (.agg #[.string ⟨op.toArray⟩, .int .i64 l, .int .i64 co,tv,ev, .int .i64 fn,hv,lv]) ?_ (bD wr) ?_
    ·intro _ y;obtain⟨k0,k1,k2,k3,k4,k5,k6,k7⟩:=kP8 y k0 k1 k2 k3 k4 k5 k6 k7;go_simp
    refine wTk 5 23 (.slice (some ⟨g',0,none⟩) ts.length c') ?_ (bD wr) ?_
    ·intro _ y;go_simp
    refine wTk 6 24 (.int .i64 k) ?_ (bD wr) ?_
    ·intro _ y;go_simp
    refine wTk 7 25 (.pointer (some ⟨g',k * 8,none⟩)) ?_ (bD wr) ?_
    ·intro _ y;go_simp
    refine wTk 8 26 (.agg #[.string ⟨op'.toArray⟩, .int .i64 l', .int .i64 co',tv',ev', .int .i64 fn',hv',lv']) ?_ (bD wr) ?_
    ·intro _ y;obtain⟨j0,j1,j2,j3,j4,j5,j6,j7⟩:=kP8 y j0 j1 j2 j3 j4 j5 j6 j7;go_simp
    refine wOn 9 fun K hK=>?_
    go_simp;refine(HC.o _ (Below.refl _ _).drew).mono ?_;rintro e w3 ⟨rfl,hb3⟩;have hb9:=zF hb3;have HB9:=hI hb9;clear hb3;refine kD hK ?_;clear hK K;refine wOn 10 fun K hK=>?_
    go_simp;refine kD hK ?_;clear hK K;refine wDn ?_ _;clear hb9;cases b
    ·go_wp2
     go_ret;refine⟨?_,HBB.o.trans (HB9.o.mono HBB.o.size)⟩;rw[<-HS.o,HST.o];rfl
    ·go_wp2
     go_roundw
     case rel=>exact⟨k+1,by omega,by go_num,by rw[<-HS.o,HST.o,bT],HBB.o.trans (HB9.o.mono HBB.o.size)⟩
     case measure=>simp[intOf];omega
   ·have hend:=qLx hlt HL.o;go_wp2
    go_ret;refine⟨?_,HBB.o⟩;rw[<-HS.o,hend];rfl
 ·have hlb:(((ts.length:Nat):Int) != ((us.length:Nat):Int))=true:=by simp;omega
  have hs:yA ts us=false:=by
   cases h:yA ts us
   ·rfl
   ·exact absurd (qYh ts us h) hl
  rw[hs];clear hl;go_enter func47,ntmps47
  go_wp2
  go_ret;exact⟨rfl,Below.refl _ _⟩
theorem qVx{w:World}{g T:Nat}{a0 a1 a2 a3 a4 a5 a6 a7:Value}(h:w.1[g]? = some (.cells #[a0,a1,a2,a3,a4,a5,a6,a7] T)) :
 w.cell? ⟨g,0,none⟩=some a0/\w.cell? ⟨g,1,none⟩=some a1/\w.cell? ⟨g,2,none⟩=some a2/\w.cell? ⟨g,3,none⟩=some a3/\w.cell? ⟨g,4,none⟩=some a4/\w.cell? ⟨g,5,none⟩=some a5/\w.cell? ⟨g,6,none⟩=some a6/\w.cell? ⟨g,7,none⟩=some a7:=by
 simp[World.cell?,h]
theorem qYM(B:Nat)(a b:Sx)(v v':qQg)(w:World)(hB:B<=w.1.size)(ha:wL w (· < B) a v)(hb:wL w (· < B) b v')
 (hrec:∀ t,(t∈a.thn\/t∈a.els)->∀ (u:Sx) (v v':qQg) (w:World),B<=w.1.size->wL w (· < B) t v->wL w (· < B) u v'->Calls prog 48 #[sxV t v,sxV u v'] w (xM (qKu t u) w)) :
 Calls prog 48 #[sxV a v,sxV b v'] w (xM (qKu a b) w):=by
 obtain⟨q1,c1,q2,c2,q3,c3,q4,c4,rfl,a1,a2,a3,a4,m1,m2,m3,m4⟩:=ha.at
 obtain⟨p1,d1,p2,d2,p3,d3,p4,d4,rfl,b1,b2,b3,b4,n1,n2,n3,n4⟩:=hb.at
 obtain⟨op,l,co,tg,es,fn,th,el⟩:=a;obtain⟨op',l',co',tg',es',fn',th',el'⟩:=b;simp only[Sx.target,Sx.exprs,Sx.thn,Sx.els]at *;have h2:=(bal (Below.refl w.1.size w) (.cells (sxC (.mk op l co tg es fn th el) ⟨.slice q1 tg.length c1, .slice q2 es.length c2, .slice q3 th.length c3, .slice q4 el.length c4⟩).toArray 73)).trans ((bal (Below.refl _ (w.alloc (.cells (sxC (.mk op l co tg es fn th el) ⟨.slice q1 tg.length c1, .slice q2 es.length c2, .slice q3 th.length c3, .slice q4 el.length c4⟩).toArray 73))) (.cells (sxC (.mk op' l' co' tg' es' fn' th' el') ⟨.slice p1 tg'.length d1, .slice p2 es'.length d2, .slice p3 th'.length d3, .slice p4 el'.length d4⟩).toArray 73)).mono (by simp));have N0:=hI ((bal (Below.refl _ (w.alloc (.cells (sxC (.mk op l co tg es fn th el) ⟨.slice q1 tg.length c1, .slice q2 es.length c2, .slice q3 th.length c3, .slice q4 el.length c4⟩).toArray 73))) (.cells (sxC (.mk op' l' co' tg' es' fn' th' el') ⟨.slice p1 tg'.length d1, .slice p2 es'.length d2, .slice p3 th'.length d3, .slice p4 el'.length d4⟩).toArray 73)).block w.1.size (by simp) |>.trans (vL w (.cells (sxC (.mk op l co tg es fn th el) ⟨.slice q1 tg.length c1, .slice q2 es.length c2, .slice q3 th.length c3, .slice q4 el.length c4⟩).toArray 73)));have N1:=hI (vL (w.alloc (.cells (sxC (.mk op l co tg es fn th el) ⟨.slice q1 tg.length c1, .slice q2 es.length c2, .slice q3 th.length c3, .slice q4 el.length c4⟩).toArray 73)) (.cells (sxC (.mk op' l' co' tg' es' fn' th' el') ⟨.slice p1 tg'.length d1, .slice p2 es'.length d2, .slice p3 th'.length d3, .slice p4 el'.length d4⟩).toArray 73));have E1:=hI (fun(W:World) (h:Below w.1.size w W)=>qKt B tg tg' q1 p1 c1 d1 W (Nat.le_trans hB h.size) (a1.keep (h.mono hB)) (b1.keep (h.mono hB)) m1 n1);have E2:=hI (fun(W:World) (h:Below w.1.size w W)=>qKt B es es' q2 p2 c2 d2 W (Nat.le_trans hB h.size) (a2.keep (h.mono hB)) (b2.keep (h.mono hB)) m2 n2);have E3:=hI (fun(W:World) (h:Below w.1.size w W)=>qKz B th th' q3 p3 c3 d3 W (Nat.le_trans hB h.size) (a3.keep (h.mono hB)) (b3.keep (h.mono hB)) m3 n3 fun t ht=>hrec t (.inl ht));have E4:=hI (fun(W:World) (h:Below w.1.size w W)=>qKz B el el' q4 p4 c4 d4 W (Nat.le_trans hB h.size) (a4.keep (h.mono hB)) (b4.keep (h.mono hB)) m4 n4 fun t ht=>hrec t (.inr ht));have H2:=hI h2;have hst:qKu (.mk op l co tg es fn th el) (.mk op' l' co' tg' es' fn' th' el')=(op == op' && (l == l' && (co == co' && (fn == fn' && (yO tg tg' && (yO es es' && (yA th th' && yA el el'))))))):=rfl;rw[hst];clear h2 ha hb a1 a2 a3 a4 b1 b2 b3 b4 hrec hst;generalize yO tg tg'=g1 at *;generalize yO es es'=g2 at *;generalize yA th th'=g3 at *;generalize yA el el'=g4 at *;rw[World.size_alloc]at N1;unfold xM at *;simp only[sxC,sxV]at *;cases e0:(op == op');case false =>
  go_enter func48,ntmps48
  go_wp2
  go_ret;exact⟨rfl,H2.o⟩
 case true =>
 cases e1:(l == l');case false =>
  go_enter func48,ntmps48
  go_wp2
  go_ret;exact⟨rfl,H2.o⟩
 case true =>
 cases e2:(co == co');case false =>
  go_enter func48,ntmps48
  go_wp2
  go_ret;exact⟨rfl,H2.o⟩
 case true =>
 cases e3:(fn == fn');case false =>
  go_enter func48,ntmps48
  go_wp2
  go_ret;exact⟨rfl,H2.o⟩
 case true =>
 have C1:=hI (E1.o _ H2.o);clear E1;have hs0:(w.alloc (.cells (sxC (.mk op l co tg es fn th el) ⟨.slice q1 tg.length c1, .slice q2 es.length c2, .slice q3 th.length c3, .slice q4 el.length c4⟩).toArray 73)).1.size=w.1.size+1:=by simp
 simp only[sxC]at hs0;clear hs0;go_enter func48,ntmps48
 go_wp2_with fail
 refine(C1.o).mono ?_;rintro e w3 ⟨rfl,hb3⟩;have HB3:=hI (H2.o.trans (hb3.mono H2.o.size));have M0:=hI ((hb3.block _ (by simp;omega)).trans N0.o);have M1:=hI ((hb3.block _ (by simp)).trans N1.o);have D2:=hI (E2.o w3 HB3.o);clear hb3 C1 E2 N0 N1 H2;cases g1;case false =>
  go_wp2
  go_ret;exact⟨rfl,HB3.o⟩
 case true =>
 obtain⟨k0,k1,k2,k3,k4,k5,k6,k7⟩:=qVx M0.o;obtain⟨j0,j1,j2,j3,j4,j5,j6,j7⟩:=qVx M1.o;have hl3:=qJ j0;simp only at hl3;go_wp2_with fail
 refine(D2.o).mono ?_;rintro e w4 ⟨rfl,hb4⟩;have HB4:=hI (HB3.o.trans (hb4.mono HB3.o.size));have P0:=hI ((hb4.block _ (by omega)).trans M0.o);have P1:=hI ((hb4.block _ (by omega)).trans M1.o);have D3:=hI (E3.o w4 HB4.o);clear hb4 D2 E3 M0 M1 HB3 k0 k1 k2 k3 k4 k5 k6 k7 j0 j1 j2 j3 j4 j5 j6 j7 hl3;cases g2;case false =>
  go_wp2
  go_ret;exact⟨rfl,HB4.o⟩
 case true =>
 obtain⟨k0,k1,k2,k3,k4,k5,k6,k7⟩:=qVx P0.o;obtain⟨j0,j1,j2,j3,j4,j5,j6,j7⟩:=qVx P1.o;have hl3:=qJ j0;simp only at hl3;go_wp2_with fail
 refine(D3.o).mono ?_;rintro e w5 ⟨rfl,hb5⟩;have HB5:=hI (HB4.o.trans (hb5.mono HB4.o.size));have Q0:=hI ((hb5.block _ (by omega)).trans P0.o);have Q1:=hI ((hb5.block _ (by omega)).trans P1.o);have D4:=hI (E4.o w5 HB5.o);clear hb5 D3 E4 P0 P1 HB4 k0 k1 k2 k3 k4 k5 k6 k7 j0 j1 j2 j3 j4 j5 j6 j7 hl3;cases g3;case false =>
  go_wp2
  go_ret;exact⟨rfl,HB5.o⟩
 case true =>
 obtain⟨k0,k1,k2,k3,k4,k5,k6,k7⟩:=qVx Q0.o;obtain⟨j0,j1,j2,j3,j4,j5,j6,j7⟩:=qVx Q1.o;have hl3:=qJ j0;simp only at hl3;go_wp2_with fail
 refine(D4.o).mono ?_;rintro e w6 ⟨rfl,hb6⟩;have HB6:=hI (HB5.o.trans (hb6.mono HB5.o.size));go_wp2
 go_ret;exact⟨rfl,HB6.o⟩
theorem qU4(B:Nat):∀ (n:Nat) (a:Sx),SizeOf.sizeOf a < n->∀ (b:Sx) (va vb:qQg) (w:World),B<=w.1.size->wL w (· < B) a va->wL w (· < B) b vb->Calls prog 48 #[sxV a va,sxV b vb] w (xM (qKu a b) w):=by
 intro n;induction n with
 | zero=>intro a h;omega
 | succ n ih =>
  intro a h b va vb w hB ha hb;refine qYM B a b va vb w hB ha hb fun t ht u v v' w1 h1 h2 h3=>ih t ?_ u v v' w1 h1 h2 h3
  rcases ht with ht | ht
  ·have:=thn_size ht;omega
  ·have:=els_size ht;omega
theorem qYN(B:Nat)(es us:List Sx)(q q':Option Addr)(c c':Nat)(w:World)(hB:B<=w.1.size)(h1:qVt B w es q)(h2:qVt B w us q')(hn1:es.length<=maxLen)(hn2:us.length<=maxLen) :
 Calls prog 47 #[.slice q es.length c, .slice q' us.length c', .func (.func 48) #[] #[]] w (xM (yA es us) w) :=
 qKz B es us q q' c c' w hB h1 h2 hn1 hn2 fun t _ u v v' w1 hB1 l1 l2=>qU4 B _ t (Nat.lt_succ_self _) u v v' w1 hB1 l1 l2
end Go.Proofs.YtiajhekdhhhghaaGreatDoor
