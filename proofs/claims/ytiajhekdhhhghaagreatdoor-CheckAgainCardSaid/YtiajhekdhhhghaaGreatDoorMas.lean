/- Walks. -/
import Derived.Lib.Builder
import Derived.Lib.AppendStr
import Derived.Laws.Externs
import Derived.Test.YtiajhekdhhhghaaGreatDoorMar
set_option linter.all false
set_option maxHeartbeats 8000000
set_option maxRecDepth 100000
namespace Go.Proofs.YtiajhekdhhhghaaGreatDoor
open Tryz Go.Proofs.Tryz
open Go Go.RowKit
abbrev SW:qQ->Nat->Prop:=PW qJr 0
section
variable {rec:NT->Int->List Tok->PR qQ} {n:Nat}
def GS(word:List UInt8)(t:qQ)(k:Nat):Prop:=∃ e b k1 k2 ln co,t=.mk word [] 0 ln co [e,b]/\EW e k1/\BW b k2/\k1+k2+3<=k
theorem qW4(H:qKh rec)(word:List UInt8)(hw:word≠[])(d:Int){l:List Tok}(hl:yT l):PI (GS word) l (jK rec word d l):=by
 unfold jK;refine(qW5 [word,[40]] (by simp[hw]) hl).bind fun _ l1 k h1 _ h=>?_
 refine(qWq H d h1).bind fun e l2 k2 h2 _ he=>?_
 refine(xB [41] h2).bind fun _ l3 k3 h3 _ h4=>?_
 exact(qZh (H.block (d+1) l3 h3)).bind fun b l4 k4 h5 _ hb=>PI.ok h5 ⟨e,b,k2,k4,_,_,rfl,he,hb,by simp at h h4;omega⟩
theorem qWX{word:List UInt8}(hw:kN word=true)(hl:word.length<=5){x:List UInt8}{m ln co:Int}{e b:qQ}{r:List qQ}{k1 k2:Nat}(he:EW e k1)(hb:BW b k2){j:Nat}(hj:vZ (.mk word x m ln co (e :: b :: r))<=j+1) :
 ∃ ws,qQi (qZB j) (.mk word x m ln co (e :: b :: r))=some ws/\(∀ w∈ws,kN w=true)/\yI ws<=7 * (k1+k2)+6:=by
 have hd:=yU (t:=e) (ks:=e :: b :: r) (by simp) word x m ln co;have hd2:=yU (t:=b) (ks:=e :: b :: r) (by simp) word x m ln co;obtain⟨we,a1,a2,a3⟩:=he.rec (m:=j) (by omega);obtain⟨wb,b1,b2,b3⟩:=hb.rec (m:=j) (by omega);refine⟨[word,[40]]++(we++([[41]]++wb)),?_,jP (fun w hw'=>?_) (jP a2 (jP (xI (by decide)) b2)),by rw[zH,zH,zH];simp[yI];omega⟩
 ·rw[qJH];simp[a1,b1,jD]
 ·simp only[List.mem_cons,List.not_mem_nil,or_false]at hw';rcases hw' with rfl | rfl
  ·exact hw
  ·decide
theorem pi_choice(H:qKh rec)(d:Int){l:List Tok}(hl:yT l):PI SW l (vF rec d l):=by
 unfold vF;refine(qW4 H kIf (by decide) d hl).bind fun t l1 k h1 _ h=>?_
 obtain⟨e,b,k1,k2,ln,co,rfl,he,hb,hk⟩:=h;split
 ·refine(xB zS h1).bind fun _ l2 k3 h2 _ h3=>?_
  refine(qZh (H.block (d+1) l2 h2)).bind fun c l3 k4 h4 _ hc=>PI.ok h4 ⟨(show vZ (.mk kIf [] 0 ln co [e,b,c])<=_ from deep3 (by have:=he.1;omega) (by have:=hb.1;omega) (by have:=hc.1;omega)),⟨by simp[qQ.kind,kIf],by simp[qQ.text],by simp[qQ.num],by simp[qQ.num],by simp[qQ.kids],he.2.1,hb.2.1,hc.2.1,trivial⟩,fun m hm=>?_⟩
  simp only[tQ,lC,lN]at hm ⊢;have hd:=yU (t:=c) (ks:=[e,b,c]) (by simp) kIf [] 0 ln co;obtain⟨wg,a1,a2,a3⟩:=qWX (word:=kIf) (by decide) (by decide) he hb hm;obtain⟨wc,b1,b2,b3⟩:=hc.rec (m:=m) (by omega);have hk3:k3=4:=h3;refine⟨wg++([zS]++wc),?_,jP a2 (jP (xI (by decide)) b2),by rw[zH,zH];simp[yI,zS];omega⟩;rw[wX,if_pos (by decide),qJb];simp[ifW,a1,b1,jD]
 ·refine PI.ok h1 ⟨qY4 (by have:=he.1;omega) (by have:=hb.1;omega),⟨by decide,by simp,by decide,by decide,by simp,he.2.1,hb.2.1,trivial⟩,fun m hm=>?_⟩;obtain⟨wg,a1,a2,a3⟩:=qWX (word:=kIf) (by decide) (by decide) he hb hm;refine⟨wg,?_,a2,by omega⟩;rw[wX,if_pos (by decide),qJb];simp[ifW,a1]
theorem pi_while(H:qKh rec)(d:Int){l:List Tok}(hl:yT l):PI SW l (jK rec qA d l):=by
 refine(qW4 H qA (by decide) d hl).mono fun t k h=>?_
 obtain⟨e,b,k1,k2,ln,co,rfl,he,hb,hk⟩:=h;refine⟨qY4 (by have:=he.1;omega) (by have:=hb.1;omega),⟨by decide,by simp,by decide,by decide,by simp,he.2.1,hb.2.1,trivial⟩,fun m hm=>?_⟩;obtain⟨wg,a1,a2,a3⟩:=qWX (word:=qA) (by decide) (by decide) he hb hm;refine⟨wg,?_,a2,by omega⟩;rw[wX,if_neg (by decide),if_pos (by decide)];simp[ifW,a1]
theorem pi_leave(H:qKh rec)(d:Int){l:List Tok}(hl:yT l):PI SW l (yC rec d l):=by
 unfold yC;refine(xB qV hl).bind fun _ l1 k h1 _ h=>?_
 have hk:k=6:=h;split
 ·refine(xB [59] h1).bind fun _ l2 k2 h2 _ h3=>PI.ok h2 ⟨qJC (by omega),⟨by decide,by simp,by decide,by decide,by simp,trivial⟩,fun m hm=>⟨[qV]++[]++[[59]],?_,xI (by decide),by simp[yI,qV];omega⟩⟩
  rw[wX,if_neg (by decide),if_neg (by decide),if_neg (by decide),if_neg (by decide),if_pos (by decide)];rfl
 ·refine(qWq H d h1).bind fun e l2 k2 h2 _ he=>?_
  refine(xB [59] h2).bind fun _ l3 k3 h3 _ h4=>PI.ok h3 ⟨qK1 (by have:=he.1;omega),⟨by decide,by simp,by decide,by decide,by simp,he.2.1,trivial⟩,fun m hm=>?_⟩
  have hd:=yU (t:=e) (ks:=[e]) (by simp) qV [] 0 (hdT l).line (hdT l).col;obtain⟨we,a1,a2,a3⟩:=he.rec (m:=m) (by omega);refine⟨[qV]++we++[[59]],?_,jP (jP (xI (by decide)) a2) (xI (by decide)),by rw[zH,zH];simp[yI,qV];omega⟩;rw[wX,if_neg (by decide),if_neg (by decide),if_neg (by decide),if_neg (by decide),if_pos (by decide)];simp[ifW,qQn,wO,qKp,a1,jD]
theorem pi_claim(H:qKh rec)(d:Int){l:List Tok}(hl:yT l)(hk:((hdT l).text == qF || (hdT l).text == qD)=true):PI SW l (kL rec d l):=by
 unfold kL;refine(qQV hl).bind fun t l1 k h1 _ h=>?_
 obtain⟨rfl,_,hok,rfl⟩:=h;have hf:(hdT l).text.length=6/\kN (hdT l).text=true/\((hdT l).text == kIf)=false/\((hdT l).text == qA)=false/\((hdT l).text == qE)=false/\((hdT l).text == zW)=false/\((hdT l).text == qV)=false:=by
  have hk':=hk;simp only[Bool.or_eq_true,beq_iff_eq]at hk';rcases hk' with e | e <;> rw[e] <;> decide
 obtain⟨f1,f2,f3,f4,f5,f6,f7⟩:=hf;refine(xB [40] h1).bind fun _ l2 k2 h2 _ h3=>?_
 refine(qWq H d h2).bind fun e l3 k3 h4 _ he=>?_
 refine(qW5 [[41],[59]] (by simp) h4).bind fun _ l4 k4 h5 _ h6=>PI.ok h5 ⟨qK1 (by have:=he.1;omega),⟨by omega,by simp,by decide,by decide,by simp,he.2.1,trivial⟩,fun m hm=>?_⟩
 have hd:=yU (t:=e) (ks:=[e]) (by simp) (hdT l).text [] 0 (hdT l).line (hdT l).col;obtain⟨we,a1,a2,a3⟩:=he.rec (m:=m) (by omega);refine⟨[(hdT l).text,[40]]++(we++[[41]])++[[59]],?_,jP (jP (fun w hw=>?_) (jP a2 (xI (by decide)))) (xI (by decide)),by rw[zH,zH,zH];simp[yI]at h3 h6 ⊢;omega⟩
 ·rw[wX,f3,f4,f5,f6,f7,hk,if_neg (by decide),if_neg (by decide),if_neg (by decide),if_neg (by decide),if_neg (by decide),if_pos rfl];simp[ifW,qQn,a1,jD]
 ·simp only[List.mem_cons,List.not_mem_nil,or_false]at hw;rcases hw with rfl | rfl
  ·exact f2
  ·decide
theorem qXm{kind tx x:List UInt8}(hx:jH x=true)(void:Bool)(ht:yG tx=true\/void=true/\tx=zA)(m ln co ln' co':Int)(r:List qQ) :
 vY void (.mk kind x m ln co (.mk zB tx 0 ln' co' [] :: r))=some [tx,x]/\(∀ w∈[tx,x],kN w=true)/\2<=tx.length/\tx.length<=4:=by
 have hw:kN tx=true/\2<=tx.length/\tx.length<=4:=by
  rcases ht with h | ⟨_,rfl⟩
  ·exact qXh h
  ·decide
 refine⟨?_,fun w hw'=>?_,hw.2⟩
 ·rw[qUJ];rcases ht with h | ⟨rfl,rfl⟩
  ·simp[ifW,qQ.kind,qQ.num,qQ.kids,qQ.text,h]
  ·simp[ifW,qQ.kind,qQ.num,qQ.kids,qQ.text]
 ·simp only[List.mem_cons,List.not_mem_nil,or_false]at hw';rcases hw' with rfl | rfl
  ·exact hw.1
  ·exact qKg hx
theorem pi_local{l:List Tok}(hl:yT l):PI SW l (qQM l):=by
 unfold qQM;refine(qJO qE false hl).bind fun t l1 k h1 _ h=>?_
 obtain⟨x,ln,co,ln',co',rfl,hty,hx,hx1,hx2,hx3,rfl⟩:=h;have ht:yG (hdT l).text=true:=by rcases hty with h | h;cases h;exact h
 refine(xB [59] h1).bind fun _ l2 k2 h2 _ h3=>PI.ok h2 ⟨qK1 (by have hty2:=(qXh ht).2.1;have:=qJC (k:=zB) (x:=(hdT l).text) (n:=0) (l:=ln') (c:=co') (j:=1) (by omega);omega),⟨by decide,by omega,by decide,by decide,by simp,⟨by decide,by omega,by decide,by decide,by simp,trivial⟩,trivial⟩,fun m hm=>?_⟩
 obtain⟨a1,a2,a3,a4⟩:=qXm (kind:=qE) hx false (.inl ht) 0 ln co ln' co' [];refine⟨[(hdT l).text,x]++[[59]],?_,jP a2 (xI (by decide)),by rw[zH];simp[yI];omega⟩;rw[wX,if_neg (by decide),if_neg (by decide),if_pos (by decide),a1];simp[ifW,hx,qQn,jD]
theorem pi_action(H:qKh rec)(d:Int){l:List Tok}(hl:yT l):PI SW l (jJ rec n d l):=by
 unfold jJ;split
 ·refine(pi_call H d hl).bind fun t l1 k h1 _ h=>?_
  refine(xB [59] h1).bind fun _ l2 k2 h2 _ h3=>PI.ok h2 ⟨by have:=h.1;omega,h.2.1,fun m hm=>?_⟩
  obtain⟨ws,a1,a2,a3⟩:=h.2.2 m hm;refine⟨ws++[[59]],?_,jP a2 (xI (by decide)),by rw[zH];simp[yI]at h3 ⊢;omega⟩;obtain⟨k0,x,nm,ln,co,ks⟩:=t;have hkc:k0=zW:=by
   rw[qWJ]at a1;have:=(zN a1).1;simp only[bE,beq_iff_eq]at this;exact this.1
  subst hkc;rw[wX,if_neg (by decide),if_neg (by decide),if_neg (by decide),if_pos (by decide),a1];rfl
 ·refine(qUp H d hl).bind fun x l1 k h1 _ hx=>?_
  refine(xB [61] h1).bind fun _ l2 k2 h2 _ h3=>?_
  have hk2:k2=1:=h3;split
  ·refine(qW5 [qW,[40],[41]] (by decide) h2).bind fun _ l3 k3 h4 _ h5=>?_
   refine(xB [59] h4).bind fun _ l4 k4 h6 _ h7=>PI.ok h6 ⟨qK1 (by have:=hx.1.1;omega),⟨by decide,by simp,by decide,by decide,by simp,hx.1.2.1,trivial⟩,fun m hm=>?_⟩
   have hd:=yU (t:=x) (ks:=[x]) (by simp) qW [] 0 (hdT l).line (hdT l).col;obtain⟨wx,a1,a2,a3⟩:=hx.1.2.2 m (by omega);refine⟨wx++[[61],qW,[40],[41]]++[[59]],?_,jP (jP a2 (xI (by decide))) (xI (by decide)),by rw[zH,zH];simp[yI,qW]at h5 ⊢;omega⟩;rw[wX,if_neg (by decide),if_neg (by decide),if_neg (by decide),if_neg (by decide),if_neg (by decide),if_neg (by decide),qK7];simp[ifW,qQn,a1,jD]
  split
  ·refine(pi_call H d h2).bind fun y l3 k3 h4 _ hy=>?_
   refine(xB [59] h4).bind fun _ l4 k4 h6 _ h7=>PI.ok h6 ⟨qY4 (by have:=hx.1.1;omega) (by have:=hy.1;omega),⟨by decide,by simp,by decide,by decide,by simp,hx.1.2.1,hy.2.1,trivial⟩,fun m hm=>?_⟩
   have hd:=yU (t:=x) (ks:=[x,y]) (by simp) qN [] 0 (hdT l).line (hdT l).col;have hd2:=yU (t:=y) (ks:=[x,y]) (by simp) qN [] 0 (hdT l).line (hdT l).col;obtain⟨wx,a1,a2,a3⟩:=hx.1.2.2 m (by omega);obtain⟨wy,b1,b2,b3⟩:=hy.2.2 m (by omega);refine⟨wx++([[61]]++wy)++[[59]],?_,jP (jP a2 (jP (xI (by decide)) b2)) (xI (by decide)),by rw[zH,zH,zH];simp[yI]at h7 ⊢;omega⟩;rw[wX,if_neg (by decide),if_neg (by decide),if_neg (by decide),if_neg (by decide),if_neg (by decide),if_neg (by decide),qK7];simp[ifW,qQn,a1,b1,jD,show(qN == qP)=false by decide]
  ·refine(qWq H d h2).bind fun y l3 k3 h4 _ hy=>?_
   refine(xB [59] h4).bind fun _ l4 k4 h6 _ h7=>PI.ok h6 ⟨qY4 (by have:=hx.1.1;omega) (by have:=hy.1;omega),⟨by decide,by simp,by decide,by decide,by simp,hx.1.2.1,hy.2.1,trivial⟩,fun m hm=>?_⟩
   have hd:=yU (t:=x) (ks:=[x,y]) (by simp) qP [] 0 (hdT l).line (hdT l).col;have hd2:=yU (t:=y) (ks:=[x,y]) (by simp) qP [] 0 (hdT l).line (hdT l).col;obtain⟨wx,a1,a2,a3⟩:=hx.1.2.2 m (by omega);obtain⟨wy,b1,b2,b3⟩:=hy.rec (m:=m) (by omega);refine⟨wx++([[61]]++wy)++[[59]],?_,jP (jP a2 (jP (xI (by decide)) b2)) (xI (by decide)),by rw[zH,zH,zH];simp[yI]at h7 ⊢;omega⟩;rw[wX,if_neg (by decide),if_neg (by decide),if_neg (by decide),if_neg (by decide),if_neg (by decide),if_neg (by decide),qK7];simp[ifW,qQn,a1,b1,jD]
theorem pi_stmt(H:qKh rec)(d:Int){l:List Tok}(hl:yT l):PI SW l (qQA rec n d l):=by
 unfold qQA;split
 ·exact pi_choice H d hl
 split
 ·exact pi_while H d hl
 split
 ·exact pi_leave H d hl
 split
 ·rename_i hk;exact pi_claim H d hl hk
 split
 ·exact pi_local hl
 ·exact pi_action H d hl
theorem qUT{P:qQ->Nat->Prop}{j:Nat}:∀ (ts:List qQ) (k:Nat),PL P ts k->(∀ t∈ts,vZ t<=j)->PL (fun t k=>P t k/\vZ t<=j) ts k
 | [],_,_,_=>trivial
 | t :: r,_,⟨a,b,h1,h2,h3⟩,hm=>⟨a,b,⟨h1,hm t (by simp)⟩,qUT r b h2 (fun u hu=>hm u (by simp[hu])),h3⟩
theorem pi_block(H:qKh rec)(d:Int){l:List Tok}(hl:yT l):PI BW l (qQK rec n d l):=by
 unfold qQK;refine(xB [123] hl).bind fun _ l1 k h1 e1 h=>?_
 refine(qWr (fun l' hl'=>pi_stmt H d hl') n [] l1 0 h1 trivial).bind fun ts l2 k2 h2 e2 hts=>?_
 refine(xB [125] h2).bind fun _ l3 k3 h3 _ h4=>?_
 have hch:=hl.2;have hn:=hts.len (fun t k h=>Nat.le_trans (qJD t) h.1);have hk:k=1:=h;have hk3:k3=1:=h4;refine PI.ok h3 ⟨qVZ (by omega) (fun t ht=>by obtain⟨k1,h3,h4⟩:=hts.memle t ht;have:=h3.1;omega),⟨by decide,by simp,by decide,by decide,by omega,hts.neat fun t k h=>h.2.1⟩,fun m hm=>?_⟩;obtain⟨ws,a1,a2,a3⟩:=many_w (g:=qJr (qZB m)) (qUT (j:=m) ts _ hts (fun t ht=>by have:=yU ht zX [] 0 (hdT l).line (hdT l).col;omega)) (fun t _ k h=>by
  obtain⟨ws,c1,c2,c3⟩:=h.1.2.2 m (by have:=h.2;omega);exact⟨ws,c1,c2,by omega⟩)
 refine⟨[[123]]++(ws++[[125]]),?_,jP (xI (by decide)) (jP a2 (xI (by decide))),by rw[zH,zH];simp[yI];omega⟩;rw[qYY,a1];rfl
end
theorem qVj:∀ n,qKh (qQd n)
 | 0=>⟨fun _ _ _ _ _=>PI.o,fun _ _ _=>PI.o,fun _ _ _=>PI.o⟩
 | n+1=>⟨fun k d l hk hl=>pi_binary (qVj n) k d hk hl,fun d l hl=>pi_operand (qVj n) d hl,fun d l hl=>pi_block (qVj n) d hl⟩
theorem fn_mk(rec:WT->qQ->Ws)(k x:List UInt8)(m ln co:Int)(u b:qQ)(ps:List qQ):kA rec (.mk k x m ln co (u :: (ps++[b])))=ifW (jH x && m == 0) (jD (vY true (.mk k x m ln co (u :: (ps++[b])))) (jD (some [[40]]) (jD (wO qZ1 ps) (jD (some [[41]]) (rec .block b))))):=by
 cases ps with
 | nil=>rw[lN,qK6];rfl
 | cons p r =>
  rw[lC,qK6];have h1:(p :: (r++[b])).dropLast=p :: r:=by rw[<-lC,List.dropLast_concat]
  have h2:(p :: (r++[b])).getLast (List.cons_ne_nil p (r++[b]))=b:=by
   have:=List.getLast_concat (a:=b) (l:=p :: r);exact this
  show ifW (jH x && m == 0) (jD (vY true (.mk k x m ln co (u :: p :: (r++[b])))) (jD (some [[40]]) (jD (wO qZ1 ((p :: (r++[b])).dropLast)) (jD (some [[41]]) (rec .block ((p :: (r++[b])).getLast (List.cons_ne_nil p (r++[b]))))))))=_
  rw[h1,h2]
def qPL(rec:WT->qQ->Ws)(t:qQ):Ws:=if t.kind == qC then kA rec t else qXa t
abbrev IW:qQ->Nat->Prop:=PW qPL 0
theorem pi_param{l:List Tok}(hl:yT l):PI (PW (fun _=>qZ1) 4) l (zG qO false l):=by
 refine(qJO qO false hl).mono fun t k h=>?_
 obtain⟨x,ln,co,ln',co',rfl,hty,hx,hx1,hx2,hx3,rfl⟩:=h;have ht:yG (hdT l).text=true:=by rcases hty with h | h;cases h;exact h
 obtain⟨a1,a2,a3,a4⟩:=qXm (kind:=qO) hx false (.inl ht) 0 ln co ln' co' [];refine⟨qK1 (by have hty2:=(qXh ht).2.1;have:=qJC (k:=zB) (x:=(hdT l).text) (n:=0) (l:=ln') (c:=co') (j:=1) (by omega);omega),⟨by decide,by omega,by decide,by decide,by simp,⟨by decide,by omega,by decide,by decide,by simp,trivial⟩,trivial⟩,fun m hm=>⟨_,?_,a2,by simp[yI];omega⟩⟩;show qZ1 (.mk qO x 0 ln co [.mk zB (hdT l).text 0 ln' co' []])=_
 rw[paramW_mk,a1];simp[ifW,hx]
theorem pi_item(n:Nat){l:List Tok}(hl:yT l):PI IW l (qZe n l):=by
 unfold qZe;refine(qJO qG _ hl).bind fun t l1 k h1 e1 h=>?_
 obtain⟨x,ln,co,ln',co',rfl,hty,hx,hx1,hx2,hx3,hk⟩:=h;have htv:yG (hdT l).text=true\/true=true/\(hdT l).text=zA:=by
  rcases hty with h | h
  ·exact .inr ⟨rfl,by simpa using h⟩
  ·exact .inl h
 have hch:=hl.2;split
 ·refine(qUn n (fun l' hl'=>pi_param hl') h1).bind fun ps l2 k2 h2 e2 hps=>?_
  obtain⟨k',hpl,hk'⟩:=hps;refine(qZh ((qVj n).block (0+1) l2 h2)).bind fun b l3 k3 h3 _ hb=>?_
  obtain⟨a1,a2,a3,a4⟩:=qXm (kind:=qC) hx true htv 0 ln co ln' co' (ps++[b]);have hty0:vZ (.mk zB (hdT l).text 0 ln' co' [])<=1:=qJC (by omega);refine PI.ok h3 ⟨(show vZ (.mk qC x 0 ln co ([.mk zB (hdT l).text 0 ln' co' []]++ps++[b]))<=_ from qVZ (by omega) (fun t ht=>by
   simp only[lC,lN,List.mem_cons,List.mem_append,List.not_mem_nil,or_false]at ht;rcases ht with rfl | ht | rfl
   ·omega
   ·obtain⟨j1,j2,j3⟩:=hpl.memle t ht;have:=j2.1;omega
   ·have:=hb.1;omega)),⟨by simp[qQ.kind,qC],by simp only[qQ.text];omega,by simp[qQ.num],by simp[qQ.num],by simp[qQ.kids];omega,?_⟩,fun m hm=>?_⟩
  ·simp only[qQ.kids,lC,lN];refine⟨⟨by decide,by omega,by decide,by decide,by simp,trivial⟩,qZn.of fun t ht=>?_⟩;rcases List.mem_append.1 ht with h | h
   ·exact qZn.mem (hpl.neat fun t k h=>h.2.1) t h
   ·obtain rfl:t=b:=by simpa using h
    exact hb.2.1
  ·simp only[qQ.text,qQ.num,qQ.line,qQ.col,qQ.kids,lC,lN]at hm ⊢;have hd:=yU (t:=b) (ks:=.mk zB (hdT l).text 0 ln' co' [] :: (ps++[b])) (by simp) qC x 0 ln co;obtain⟨wb,b1,b2,b3⟩:=hb.rec (m:=m) (by omega);obtain⟨wc,c1,c2,c3⟩:=(com_w (g:=qZ1) (fun t k h=>h.2.2 (vZ t) (by omega)) hpl).2;refine⟨[(hdT l).text,x]++([[40]]++(wc++([[41]]++wb))),?_,jP a2 (jP (xI (by decide)) (jP c2 (jP (xI (by decide)) b2))),by rw[zH,zH,zH,zH];simp[yI];omega⟩;rw[qPL,if_pos (by rfl),fn_mk,a1,b1,c1];simp[ifW,hx,jD]
 split
 ·rename_i hnf _;have ht:yG (hdT l).text=true:=by
   rcases hty with h | h
   ·simp only[Bool.or_eq_true,not_or]at hnf;exact absurd h hnf.1
   ·exact h
  refine(xB [91] h1).bind fun _ l2 k2 h2 _ h3=>?_
  refine(qUo h2).bind fun m0 l3 k3 h4 _ hm0=>?_
  refine(xB [93] h4).bind fun _ l4 k4 h5 _ h6=>?_
  refine(xB [59] h5).bind fun _ l5 k5 h7 _ h8=>PI.ok h7 ⟨(show vZ (.mk qG x 0 ln co [.mk zB (hdT l).text 0 ln' co' [],m0])<=_ from qY4 (by have hty2:=(qXh ht).2.1;have:=qJC (k:=zB) (x:=(hdT l).text) (n:=0) (l:=ln') (c:=co') (j:=1) (by omega);omega) (by have:=hm0.1.1;omega)),⟨by simp[qQ.kind,qG],by simp only[qQ.text];omega,by simp[qQ.num],by simp[qQ.num],by simp[qQ.kids],⟨by decide,by omega,by decide,by decide,by simp,trivial⟩,hm0.1.2.1,trivial⟩,fun m hm=>?_⟩
  obtain⟨a1,a2,a3,a4⟩:=qXm (kind:=qG) hx false (.inl ht) 0 ln co ln' co' [m0];obtain⟨wn,b1,b2,b3⟩:=hm0.2.2.2 (vZ m0) (by omega);have j1:k2=1:=h3;have j2:k4=1:=h6;have j3:k5=1:=h8;refine⟨([(hdT l).text,x]++([[91]]++(wn++[[93]])))++[[59]],?_,jP (jP a2 (jP (xI (by decide)) (jP b2 (xI (by decide))))) (xI (by decide)),by rw[zH,zH,zH,zH];simp[yI];omega⟩;simp only[tQ,lC,lN];rw[qPL,if_neg (by simp only[qQ.kind];decide),qKF,a1];have b1':qZy m0=some wn:=b1;simp[ifW,hx,qQn,jD,b1']
 ·rename_i hnf _;have ht:yG (hdT l).text=true:=by
   rcases hty with h | h
   ·simp only[Bool.or_eq_true,not_or]at hnf;exact absurd h hnf.1
   ·exact h
  refine(xB [59] h1).bind fun _ l5 k5 h7 _ h8=>PI.ok h7 ⟨qK1 (by have hty2:=(qXh ht).2.1;have:=qJC (k:=zB) (x:=(hdT l).text) (n:=0) (l:=ln') (c:=co') (j:=1) (by omega);omega),⟨by decide,by omega,by decide,by decide,by simp,⟨by decide,by omega,by decide,by decide,by simp,trivial⟩,trivial⟩,fun m hm=>?_⟩
  obtain⟨a1,a2,a3,a4⟩:=qXm (kind:=qG) hx false (.inl ht) 0 ln co ln' co' [];have j3:k5=1:=h8;refine⟨[(hdT l).text,x]++[[59]],?_,jP a2 (xI (by decide)),by rw[zH];simp[yI];omega⟩;rw[qPL,if_neg (by simp only[qQ.kind];decide),qKF,a1];simp[ifW,hx,qQn,jD]
theorem prog_words(n:Nat)(l:List Tok)(hl:yT l)(t:qQ)(l':List Tok)(h:xW n l=.ok t l') :
 qZl t/\vZ t<=ch l+1/\∃ ws,qQO (vZ t) t=some ws/\(∀ w∈ws,kN w=true)/\yI ws<=7 * ch l:=by
 have key:PI (fun t k=>qZl t/\vZ t<=k+1/\∃ ws,qQO (vZ t) t=some ws/\(∀ w∈ws,kN w=true)/\yI ws<=7 * k) l (xW n l):=by
  unfold xW;refine(qWr (fun l' hl'=>pi_item n hl') n [] l 0 hl trivial).bind fun ts l1 k h1 e1 hts=>?_
  have hch:=hl.2;have hn:=hts.len (fun t k h=>Nat.le_trans (qJD t) h.1);refine PI.ok h1 ⟨⟨by decide,by simp,by decide,by decide,by omega,hts.neat fun t k h=>h.2.1⟩,qVZ (by omega) (fun t ht=>by obtain⟨k1,h3,h4⟩:=hts.memle t ht;have:=h3.1;omega),?_⟩;obtain⟨ws,a1,a2,a3⟩:=many_w (g:=qPL (qZB (vZ (.mk qY [] 0 (hdT l).line (hdT l).col ts)))) (qUT (j:=vZ (.mk qY [] 0 (hdT l).line (hdT l).col ts)) ts _ hts (fun t ht=>by have:=yU ht qY [] 0 (hdT l).line (hdT l).col;omega)) (fun t _ k h=>by
   obtain⟨ws,c1,c2,c3⟩:=h.1.2.2 (vZ (.mk qY [] 0 (hdT l).line (hdT l).col ts)) (by have:=h.2;omega);exact⟨ws,c1,c2,by omega⟩)
  refine⟨ws,?_,a2,by omega⟩;rw[qV9,show(qZP (fun k=>if k.kind == qC then kA (qZB (vZ (.mk qY [] 0 (hdT l).line (hdT l).col ts))) k else qXa k) ts)=some ws from a1];rfl
 obtain⟨_,k,h1,h2,hd,ws,h3,h4,h5⟩:=key t l' h;exact⟨h2,by omega,ws,h3,h4,by omega⟩
theorem qKl(kind:List UInt8)(void:Bool)(d:Int):∀ (B:Nat) (l:List Tok) (w:World),vP B l d w->(void=true->(hdT l).text≠[])->(zG kind void) l≠.out->Calls prog 103 ((fun p=>#[p, .string ⟨kind.toArray⟩, .bool void]) (.pointer (some ⟨B,0,none⟩))) w (qXV B d w ((zG kind void) l)):=by
 intro B l w h hcond hno;obtain⟨t,r,rfl⟩:=h.ends.ne;have S0:=St.start h;have hBw:=S0.hB;have HNO:=hI hno;have S0:=hI S0;have hmf:=zT;have hft:=vS;have hfk:=yW;have hvt:void=true->t.text≠[]:=hcond;clear hcond;clear h hno;unfold jY at *;go_enter func103,ntmps103
 cases hv:(void);case false =>
  clear hvt;have H:=hI (kY B t r d _ S0.o.ps);go_wp2_with fail
  refine(H.o).mono ?_;rintro e w1 ⟨rfl,hb1⟩;have S1:=hI (S0.o.below hb1);clear S0;clear H hb1;cases hf1:(yG t.text);case false =>
   have hT:qWD w1:=by
    obtain⟨lo,T,o,c,h1⟩:=S1.o.ps;exact h1.tab.types
   have H:=hI (qXC ⟨t.text.toArray⟩ _ hT);have hdt:(⟨t.text.toArray⟩:ByteArray).data.toList=t.text:=by simp
   rw[hdt,hf1]at H;unfold vT xA at *;go_wp2_with fail
   refine(H.o).mono ?_;rintro e w2' ⟨rfl,rfl⟩;clear H hT hdt;have H:=hI (qQ8 B t r d _ S1.o.ps);go_wp2_with fail
   refine(H.o).mono ?_;rintro e w3 ⟨rfl,hg3⟩;refine⟨rfl,?_⟩;have hbad:(zG kind false) (t :: r)=.bad t.line t.col 30:=by simp only[bF,if_false,if_true,reduceIte,bN,bM,bO,bU,bP,bV,bW,bB,bA,bT,lN,lC,lA,zG,jV,hf1,PR.bind,qX,jV]
   rw[hbad];exact S1.o.pan ⟨rfl,hg3⟩
  case true =>
   have hT:qWD w1:=by
    obtain⟨lo,T,o,c,h1⟩:=S1.o.ps;exact h1.tab.types
   have H:=hI (qXC ⟨t.text.toArray⟩ _ hT);have hdt:(⟨t.text.toArray⟩:ByteArray).data.toList=t.text:=by simp
   rw[hdt,hf1]at H;unfold vT xA at *;go_wp2_with fail
   refine(H.o).mono ?_;rintro e w2' ⟨rfl,rfl⟩;clear H hT hdt;have hte:t.text≠[]:=fun e=>by rw[e]at hf1;exact absurd hf1 (by decide)
   have H:=hI (vB B t r d _ S1.o.ps hte);go_wp2_with fail
   refine(H.o).mono ?_;rintro e w3 ⟨rfl,hP3,hg3⟩;have S3:=hI (S1.o.call hP3 hg3);clear S1;clear H hP3 hg3;unfold vT xA at *;have hwT:w.1.size < w3.1.size:=S3.o.lt;have L4:=hI (wH.newO t w3);have S4:=hI (S3.o.alloc (qXT t));clear S3;unfold qXT at *;obtain⟨u,rr,hlu⟩:=S4.o.ps.ends.ne;subst hlu;cases hn:(kR u);case false =>
    go_wp2_with fail
    refine wp_pan [{ v:=qXo u.line u.col 30,recovered:=false }] (fun w'=>w.grownBy w' (some B)) ?_ ?_
    ·refine wW (S:=fun w'=>wH w3.1.size t w') (tail:=fun _=>false) (by kernel_rfl) ?_;change vR _ _ _ _ _ _ _ _ _ (World.drew _);have SS:=hI S4.o.drew;have LL:=hI (L4.o.below (Below.refl _ _).drew);generalize World.drew _=wd at *;refine wTk 0 18 (.agg #[.int .i64 t.kind, .string ⟨t.text.toArray⟩, .int .u64 t.num, .int .i64 t.line, .int .i64 t.col]) ?_ LL.o ?_
     ·intro _ y;have⟨h0,h1,h2,h3,h4,_⟩:=y.a;go_simp
     refine wTk 1 19 (.string ⟨kind.toArray⟩) ?_ LL.o ?_
     ·intro _ y;go_simp
     refine wTk 2 20 (.pointer (some ⟨B,0,none⟩)) ?_ LL.o ?_
     ·intro _ y;go_simp
     refine wTk 3 21 (.pointer (some ⟨B,0,none⟩)) ?_ LL.o ?_
     ·intro _ y;go_simp
     refine jA (i:=4) (j:=8) rfl rfl (by kernel_rfl) (by rfl) (by rfl) (fun K hK=>?_) (fun K hK=>?_)
     ·go_simp;have HN51:=kT B u rr d _ SS.o.ps;rw[hn]at HN51;refine HN51.mono ?_;rintro e v51 ⟨rfl,hb51⟩;have S51p:=hI (SS.o.below hb51);have L51p:=hI (LL.o.below hb51);refine kK hK L51p.o ?_;clear hK K;refine jA (i:=5) (j:=8) rfl rfl (by kernel_rfl) (by rfl) (by rfl) (fun K hK=>?_) (fun K hK=>?_)
      ·go_simp;refine(qQ8 B u rr d _ S51p.o.ps).mono ?_;rintro e v9 ⟨rfl,hg⟩;exact⟨rfl,rfl,qR S51p.o.gr hg⟩
      ·go_simp;have S52a:=hI (S51p.o.alloc jY);have L52a:=hI (L51p.o.below ((Below.refl _ _).alloc (Nat.le_refl _) jY));unfold jY at *;refine kK hK L52a.o ?_;clear hK K;refine wOn 5 fun K hK=>?_
       go_simp;refine(qQ8 B u rr d _ S52a.o.ps).mono ?_;rintro e v9 ⟨rfl,hg⟩;exact⟨rfl,rfl,qR S52a.o.gr hg⟩
     ·go_simp;have S53a:=hI (SS.o.alloc jY);have L53a:=hI (LL.o.below ((Below.refl _ _).alloc (Nat.le_refl _) jY));unfold jY at *;refine kK hK L53a.o ?_;clear hK K;refine wOn 4 fun K hK=>?_
      go_simp;have HN54:=kT B u rr d _ S53a.o.ps;rw[hn]at HN54;refine HN54.mono ?_;rintro e v54 ⟨rfl,hb54⟩;have S54p:=hI (S53a.o.below hb54);have L54p:=hI (L53a.o.below hb54);refine kK hK L54p.o ?_;clear hK K;refine wOn 5 fun K hK=>?_
      go_simp;refine(qQ8 B u rr d _ S54p.o.ps).mono ?_;rintro e v9 ⟨rfl,hg⟩;exact⟨rfl,rfl,qR S54p.o.gr hg⟩
    intro a' w' hd' hg';refine⟨hd',?_⟩;have hbad:(zG kind false) (t :: u :: rr)=.bad u.line u.col 30:=by simp only[bF,if_false,if_true,reduceIte,bN,bM,bO,bU,bP,bV,bW,bB,bA,bT,lN,lC,lA,zG,jV,hf1,hn,PR.bind,qX]
    rw[hbad];exact⟨rfl,hg'⟩
   case true =>
    have hteu:u.text≠[]:=qXe S4.o.ps.ends (by simp[kR]at hn;omega);go_wp2_with fail
    have hname:∀ (W:World),vP B (u :: rr) d W->Calls prog 125 #[.pointer (some ⟨B,0,none⟩)] W fun e w'=>e=.returned (.bool true)/\Below W.1.size W w':=fun W h=>by have:=kT B u rr d W h;rw[hn]at this;exact this
    have HNM:=hI hname;clear hname;refine qXG (fun a N=>((((((((a.put (some 18) (.agg #[.int .i64 t.kind, .string ⟨t.text.toArray⟩, .int .u64 t.num, .int .i64 t.line, .int .i64 t.col])).put (some 19) (.string ⟨kind.toArray⟩)).put (some 20) (.pointer (some ⟨B,0,none⟩))).put (some 21) (.pointer (some ⟨B,0,none⟩))).put (some 22) (.bool true)).put (some 23) (.agg #[.int .i64 u.kind, .string ⟨u.text.toArray⟩, .int .u64 u.num, .int .i64 u.line, .int .i64 u.col])).put (some 24) (.string ⟨u.text.toArray⟩)).put (some 25) (.agg #[.string ⟨kind.toArray⟩, .string ⟨u.text.toArray⟩, .int .u64 0, .int .i64 t.line, .int .i64 t.col, .slice none 0 0])).put (some 8) (.pointer (some ⟨N,0,none⟩))) (fun N w'=>St w B rr d w'/\Nd N kind u.text 0 t.line t.col (.slice none 0 0) [] w'/\w.1.size < N/\wH w3.1.size t w') ?_ ?_
    ·refine wW (S:=fun w'=>wH w3.1.size t w') (tail:=fun _=>false) (by kernel_rfl) ?_;change vR _ _ _ _ _ _ _ _ _ (World.drew _);have SS:=hI S4.o.drew;have LL:=hI (L4.o.below (Below.refl _ _).drew);generalize World.drew _=wd at *;have hwd:=SS.o.lt;have hwl:=LL.o.lt;refine wTk 0 18 (.agg #[.int .i64 t.kind, .string ⟨t.text.toArray⟩, .int .u64 t.num, .int .i64 t.line, .int .i64 t.col]) ?_ LL.o ?_
     ·intro _ y;have⟨h0,h1,h2,h3,h4,_⟩:=y.a;go_simp
     refine wTk 1 19 (.string ⟨kind.toArray⟩) ?_ LL.o ?_
     ·intro _ y;go_simp
     refine wTk 2 20 (.pointer (some ⟨B,0,none⟩)) ?_ LL.o ?_
     ·intro _ y;go_simp
     refine wTk 3 21 (.pointer (some ⟨B,0,none⟩)) ?_ LL.o ?_
     ·intro _ y;go_simp
     refine jA (i:=4) (j:=8) rfl rfl (by kernel_rfl) (by rfl) (by rfl) (fun K hK=>?_) (fun K hK=>?_)
     ·go_simp;refine(HNM.o _ SS.o.ps).mono ?_;rintro e v7 ⟨rfl,hb⟩;have S7x:=hI (SS.o.below hb);have L7x:=hI (LL.o.below hb);have hss7:=S7x.o.lt;have hll7:=L7x.o.lt;refine kK hK L7x.o ?_;clear hK K;refine jA (i:=5) (j:=8) rfl rfl (by kernel_rfl) (by rfl) (by rfl) (fun K hK=>?_) (fun K hK=>?_)
      ·go_simp;refine(vB B u rr d _ S7x.o.ps hteu).mono ?_;rintro e v10 ⟨rfl,hP,hg⟩;have S10x:=hI (S7x.o.call hP hg);have L10x:=hI (L7x.o.grown hg (by simp;omega));have hss10:=S10x.o.lt;have hll10:=L10x.o.lt;unfold vT xA;refine kK hK L10x.o ?_;clear hK K;refine wTk 6 24 (.string ⟨u.text.toArray⟩) ?_ L10x.o ?_
       ·intro _ y;go_simp
       refine jA (i:=7) (j:=8) rfl rfl (by kernel_rfl) (by rfl) (by rfl) (fun K hK=>?_) (fun K hK=>?_)
       ·go_simp;have HN:=jI t ⟨kind.toArray⟩ ⟨(u.text).toArray⟩;unfold vT xA at HN;refine(HN _).mono ?_;rintro e v14 ⟨rfl,hb⟩;have S14x:=hI (S10x.o.below hb);have L14x:=hI (L10x.o.below hb);have hss14:=S14x.o.lt;have hll14:=L14x.o.lt;refine kK hK L14x.o ?_;clear hK K;refine wOn 8 fun K hK=>?_
        go_simp;refine kK hK (L14x.o.below ((Below.refl _ _).alloc (Nat.le_refl _) _)) ?_;clear hK K;refine wOn 9 fun K hK=>?_
        go_simp;refine kK hK (L14x.o.below ((Below.refl _ _).alloc (Nat.le_refl _) _)) ?_;clear hK K;refine wDn ?_ _;exact⟨_,by simp only[Act.put,pZa,pZb,pZc],S14x.o.alloc _,Nd.new kind u.text 0 t.line t.col _,S14x.o.lt,L14x.o.below ((Below.refl _ _).alloc (Nat.le_refl _) _)⟩
       ·go_simp;have S16a:=hI (S10x.o.alloc jY);have L16a:=hI (L10x.o.below ((Below.refl _ _).alloc (Nat.le_refl _) jY));have N16a:=hI (zI.new [] [] 0 0 0 (.slice none 0 0) v10);have hNs16:=N16a.o.lt;have hlt16:=S10x.o.lt;unfold jY at *;refine kK hK L16a.o ?_;clear hK K;refine wOn 7 fun K hK=>?_
        go_simp;have HN:=jI t ⟨kind.toArray⟩ ⟨(u.text).toArray⟩;unfold vT xA at HN;refine(HN _).mono ?_;rintro e v18 ⟨rfl,hb⟩;have S18x:=hI (S16a.o.below hb);have L18x:=hI (L16a.o.below hb);have N18x:=hI (N16a.o.below hb);have hNs18:=N18x.o.lt;have hss18:=S18x.o.lt;have hll18:=L18x.o.lt;refine kK hK L18x.o ?_;clear hK K;have⟨a0,a1,a2,a3,a4,a5,_⟩:=N18x.o.a;have⟨b0,b1,b2,b3,b4,b5,_⟩:=N18x.o.b;refine wOn 9 fun K hK=>?_
        go_simp;refine kK hK (L18x.o.grown (vQ _ v10.1.size _ _ _ _ _ _) (by simp;omega)) ?_;clear hK K;refine wDn ?_ _;exact⟨_,by simp only[Act.put,pZa,pZb,pZc],S18x.o.six (by omega) _ _ _ _ _ _,⟨N18x.o.six kind u.text 0 t.line t.col (.slice none 0 0),zC.nil _ _⟩,by omega,L18x.o.grown (vQ _ v10.1.size _ _ _ _ _ _) (by simp;omega)⟩
      ·go_simp;have S20a:=hI (S7x.o.alloc jY);have L20a:=hI (L7x.o.below ((Below.refl _ _).alloc (Nat.le_refl _) jY));have N20a:=hI (zI.new [] [] 0 0 0 (.slice none 0 0) v7);have hNs20:=N20a.o.lt;have hlt20:=S7x.o.lt;unfold jY at *;refine kK hK L20a.o ?_;clear hK K;refine wOn 5 fun K hK=>?_
       go_simp;refine(vB B u rr d _ S20a.o.ps hteu).mono ?_;rintro e v22 ⟨rfl,hP,hg⟩;have S22x:=hI (S20a.o.call hP hg);have L22x:=hI (L20a.o.grown hg (by simp;omega));have N22x:=hI (N20a.o.grown hg (by simp;omega));have hNs22:=N22x.o.lt;have hss22:=S22x.o.lt;have hll22:=L22x.o.lt;unfold vT xA;refine kK hK L22x.o ?_;clear hK K;refine wTk 6 24 (.string ⟨u.text.toArray⟩) ?_ L22x.o ?_
       ·intro _ y;go_simp
       refine wOn 7 fun K hK=>?_
       go_simp;have HN:=jI t ⟨kind.toArray⟩ ⟨(u.text).toArray⟩;unfold vT xA at HN;refine(HN _).mono ?_;rintro e v25 ⟨rfl,hb⟩;have S25x:=hI (S22x.o.below hb);have L25x:=hI (L22x.o.below hb);have N25x:=hI (N22x.o.below hb);have hNs25:=N25x.o.lt;have hss25:=S25x.o.lt;have hll25:=L25x.o.lt;refine kK hK L25x.o ?_;clear hK K;have⟨a0,a1,a2,a3,a4,a5,_⟩:=N25x.o.a;have⟨b0,b1,b2,b3,b4,b5,_⟩:=N25x.o.b;refine wOn 9 fun K hK=>?_
       go_simp;refine kK hK (L25x.o.grown (vQ _ v7.1.size _ _ _ _ _ _) (by simp;omega)) ?_;clear hK K;refine wDn ?_ _;exact⟨_,by simp only[Act.put,pZa,pZb,pZc],S25x.o.six (by omega) _ _ _ _ _ _,⟨N25x.o.six kind u.text 0 t.line t.col (.slice none 0 0),zC.nil _ _⟩,by omega,L25x.o.grown (vQ _ v7.1.size _ _ _ _ _ _) (by simp;omega)⟩
     ·go_simp;have S27a:=hI (SS.o.alloc jY);have L27a:=hI (LL.o.below ((Below.refl _ _).alloc (Nat.le_refl _) jY));have N27a:=hI (zI.new [] [] 0 0 0 (.slice none 0 0) wd);have hNs27:=N27a.o.lt;have hlt27:=SS.o.lt;unfold jY at *;refine kK hK L27a.o ?_;clear hK K;refine wOn 4 fun K hK=>?_
      go_simp;refine(HNM.o _ S27a.o.ps).mono ?_;rintro e v29 ⟨rfl,hb⟩;have S29x:=hI (S27a.o.below hb);have L29x:=hI (L27a.o.below hb);have N29x:=hI (N27a.o.below hb);have hNs29:=N29x.o.lt;have hss29:=S29x.o.lt;have hll29:=L29x.o.lt;refine kK hK L29x.o ?_;clear hK K;refine wOn 5 fun K hK=>?_
      go_simp;refine(vB B u rr d _ S29x.o.ps hteu).mono ?_;rintro e v31 ⟨rfl,hP,hg⟩;have S31x:=hI (S29x.o.call hP hg);have L31x:=hI (L29x.o.grown hg (by simp;omega));have N31x:=hI (N29x.o.grown hg (by simp;omega));have hNs31:=N31x.o.lt;have hss31:=S31x.o.lt;have hll31:=L31x.o.lt;unfold vT xA;refine kK hK L31x.o ?_;clear hK K;refine wTk 6 24 (.string ⟨u.text.toArray⟩) ?_ L31x.o ?_
      ·intro _ y;go_simp
      refine wOn 7 fun K hK=>?_
      go_simp;have HN:=jI t ⟨kind.toArray⟩ ⟨(u.text).toArray⟩;unfold vT xA at HN;refine(HN _).mono ?_;rintro e v34 ⟨rfl,hb⟩;have S34x:=hI (S31x.o.below hb);have L34x:=hI (L31x.o.below hb);have N34x:=hI (N31x.o.below hb);have hNs34:=N34x.o.lt;have hss34:=S34x.o.lt;have hll34:=L34x.o.lt;refine kK hK L34x.o ?_;clear hK K;have⟨a0,a1,a2,a3,a4,a5,_⟩:=N34x.o.a;have⟨b0,b1,b2,b3,b4,b5,_⟩:=N34x.o.b;refine wOn 9 fun K hK=>?_
      go_simp;refine kK hK (L34x.o.grown (vQ _ wd.1.size _ _ _ _ _ _) (by simp;omega)) ?_;clear hK K;refine wDn ?_ _;exact⟨_,by simp only[Act.put,pZa,pZb,pZc],S34x.o.six (by omega) _ _ _ _ _ _,⟨N34x.o.six kind u.text 0 t.line t.col (.slice none 0 0),zC.nil _ _⟩,by omega,L34x.o.grown (vQ _ wd.1.size _ _ _ _ _ _) (by simp;omega)⟩
    intro N w5 ⟨hS5,hN5,hwN,hL5⟩;try simp only[Act.put,pZa,pZb,pZc]
    have S5:=hI hS5;have N5:=hI hN5;have l0:=hL5.c0;have l1:=hL5.c1;have l2':=hL5.c2;have l3':=hL5.c3;have l4':=hL5.c4;clear hS5 hN5 hL5 S4 L4;have H:=hI (jI t ⟨zB.toArray⟩ ⟨t.text.toArray⟩);go_wp2_with fail
    refine(H.o _).mono ?_;rintro e w21 ⟨rfl,hb21⟩;have S21:=hI (S5.o.below hb21);have N21:=hI (N5.o.below hb21);clear S5 N5;clear H hb21;have hff:=qVb (t:=.mk zB t.text 0 t.line t.col []) S21.o N21.o.nd hwN (zC.nil _ w21.1.size) (Nat.succ_le_of_lt N21.o.lt) (Nat.le_refl _);have HFF:=hI hff;have SC:=S21.o;have NC:=N21.o;have hs1:=SC.lt;have hs2:=NC.lt;have hf5:=NC.nd.f 5 nL;have hr:=SC.res;have⟨r0,r1',r2,r3,r4,r5,_⟩:=hr.a;have⟨g0,g1,g2,g3,g4,g5,_⟩:=hr.b;clear hr;have hq:=NC.nd;have⟨qn0,qn1,qn2,qn3,qn4,qn5,_⟩:=hq.a;clear hq;clear hff S21 N21 SC NC l0 l1 l2' l3' l4';go_wp2
    refine bodyPost_ret (v:=qZ (.mk kind u.text 0 t.line t.col [.mk zB t.text 0 t.line t.col []]) (.slice (some ⟨w21.1.size,0,none⟩) 1 1)) (by simp[results,results103,go_sem,qZ,tQ,qY,qG,qC,qO,zB,zD,zX,qE,kIf,zS,qA,qV,qF,qD,qP,qW,qN,zW,zM,qL,qM,qT,zK,zL,qH,zA, *]) rfl ?_;have hgood:(zG kind false) (t :: u :: rr)=.ok (.mk kind u.text 0 t.line t.col [.mk zB t.text 0 t.line t.col []]) rr:=by simp only[bF,if_false,if_true,reduceIte,bN,bM,bO,bU,bP,bV,bW,bB,bA,bT,lN,lC,lA,zG,jV,hf1,hn,PR.bind,qX]
    rw[hgood];exact HFF.o.1.finA (by simpa using hs1) (HFF.o.2.bd.mono (by omega)) _ _ _ _ _ _
 case true =>
  have hte:t.text≠[]:=hvt hv;clear hvt;have H:=hI (vB B t r d _ S0.o.ps hte);go_wp2_with fail
  refine(H.o).mono ?_;rintro e w1 ⟨rfl,hP1,hg1⟩;have S1:=hI (S0.o.call hP1 hg1);clear S0;clear H hP1 hg1;unfold vT xA at *;have hwT:w.1.size < w1.1.size:=S1.o.lt;have L2:=hI (wH.newO t w1);have S2:=hI (S1.o.alloc (qXT t));clear S1;unfold qXT at *;obtain⟨u,rr,hlu⟩:=S2.o.ps.ends.ne;subst hlu;cases hn:(kR u);case false =>
   go_wp2_with fail
   refine wp_pan [{ v:=qXo u.line u.col 30,recovered:=false }] (fun w'=>w.grownBy w' (some B)) ?_ ?_
   ·refine wW (S:=fun w'=>wH w1.1.size t w') (tail:=fun _=>false) (by kernel_rfl) ?_;change vR _ _ _ _ _ _ _ _ _ (World.drew _);have SS:=hI S2.o.drew;have LL:=hI (L2.o.below (Below.refl _ _).drew);generalize World.drew _=wd at *;refine wTk 0 18 (.agg #[.int .i64 t.kind, .string ⟨t.text.toArray⟩, .int .u64 t.num, .int .i64 t.line, .int .i64 t.col]) ?_ LL.o ?_
    ·intro _ y;have⟨h0,h1,h2,h3,h4,_⟩:=y.a;go_simp
    refine wTk 1 19 (.string ⟨kind.toArray⟩) ?_ LL.o ?_
    ·intro _ y;go_simp
    refine wTk 2 20 (.pointer (some ⟨B,0,none⟩)) ?_ LL.o ?_
    ·intro _ y;go_simp
    refine wTk 3 21 (.pointer (some ⟨B,0,none⟩)) ?_ LL.o ?_
    ·intro _ y;go_simp
    refine jA (i:=4) (j:=8) rfl rfl (by kernel_rfl) (by rfl) (by rfl) (fun K hK=>?_) (fun K hK=>?_)
    ·go_simp;have HN51:=kT B u rr d _ SS.o.ps;rw[hn]at HN51;refine HN51.mono ?_;rintro e v51 ⟨rfl,hb51⟩;have S51p:=hI (SS.o.below hb51);have L51p:=hI (LL.o.below hb51);refine kK hK L51p.o ?_;clear hK K;refine jA (i:=5) (j:=8) rfl rfl (by kernel_rfl) (by rfl) (by rfl) (fun K hK=>?_) (fun K hK=>?_)
     ·go_simp;refine(qQ8 B u rr d _ S51p.o.ps).mono ?_;rintro e v9 ⟨rfl,hg⟩;exact⟨rfl,rfl,qR S51p.o.gr hg⟩
     ·go_simp;have S52a:=hI (S51p.o.alloc jY);have L52a:=hI (L51p.o.below ((Below.refl _ _).alloc (Nat.le_refl _) jY));unfold jY at *;refine kK hK L52a.o ?_;clear hK K;refine wOn 5 fun K hK=>?_
      go_simp;refine(qQ8 B u rr d _ S52a.o.ps).mono ?_;rintro e v9 ⟨rfl,hg⟩;exact⟨rfl,rfl,qR S52a.o.gr hg⟩
    ·go_simp;have S53a:=hI (SS.o.alloc jY);have L53a:=hI (LL.o.below ((Below.refl _ _).alloc (Nat.le_refl _) jY));unfold jY at *;refine kK hK L53a.o ?_;clear hK K;refine wOn 4 fun K hK=>?_
     go_simp;have HN54:=kT B u rr d _ S53a.o.ps;rw[hn]at HN54;refine HN54.mono ?_;rintro e v54 ⟨rfl,hb54⟩;have S54p:=hI (S53a.o.below hb54);have L54p:=hI (L53a.o.below hb54);refine kK hK L54p.o ?_;clear hK K;refine wOn 5 fun K hK=>?_
     go_simp;refine(qQ8 B u rr d _ S54p.o.ps).mono ?_;rintro e v9 ⟨rfl,hg⟩;exact⟨rfl,rfl,qR S54p.o.gr hg⟩
   intro a' w' hd' hg';refine⟨hd',?_⟩;have hbad:(zG kind true) (t :: u :: rr)=.bad u.line u.col 30:=by simp only[bF,if_false,if_true,reduceIte,bN,bM,bO,bU,bP,bV,bW,bB,bA,bT,lN,lC,lA,zG,jV,hn,PR.bind,qX]
   rw[hbad];exact⟨rfl,hg'⟩
  case true =>
   have hteu:u.text≠[]:=qXe S2.o.ps.ends (by simp[kR]at hn;omega);go_wp2_with fail
   have hname:∀ (W:World),vP B (u :: rr) d W->Calls prog 125 #[.pointer (some ⟨B,0,none⟩)] W fun e w'=>e=.returned (.bool true)/\Below W.1.size W w':=fun W h=>by have:=kT B u rr d W h;rw[hn]at this;exact this
   have HNM:=hI hname;clear hname;refine qXG (fun a N=>((((((((a.put (some 18) (.agg #[.int .i64 t.kind, .string ⟨t.text.toArray⟩, .int .u64 t.num, .int .i64 t.line, .int .i64 t.col])).put (some 19) (.string ⟨kind.toArray⟩)).put (some 20) (.pointer (some ⟨B,0,none⟩))).put (some 21) (.pointer (some ⟨B,0,none⟩))).put (some 22) (.bool true)).put (some 23) (.agg #[.int .i64 u.kind, .string ⟨u.text.toArray⟩, .int .u64 u.num, .int .i64 u.line, .int .i64 u.col])).put (some 24) (.string ⟨u.text.toArray⟩)).put (some 25) (.agg #[.string ⟨kind.toArray⟩, .string ⟨u.text.toArray⟩, .int .u64 0, .int .i64 t.line, .int .i64 t.col, .slice none 0 0])).put (some 8) (.pointer (some ⟨N,0,none⟩))) (fun N w'=>St w B rr d w'/\Nd N kind u.text 0 t.line t.col (.slice none 0 0) [] w'/\w.1.size < N/\wH w1.1.size t w') ?_ ?_
   ·refine wW (S:=fun w'=>wH w1.1.size t w') (tail:=fun _=>false) (by kernel_rfl) ?_;change vR _ _ _ _ _ _ _ _ _ (World.drew _);have SS:=hI S2.o.drew;have LL:=hI (L2.o.below (Below.refl _ _).drew);generalize World.drew _=wd at *;have hwd:=SS.o.lt;have hwl:=LL.o.lt;refine wTk 0 18 (.agg #[.int .i64 t.kind, .string ⟨t.text.toArray⟩, .int .u64 t.num, .int .i64 t.line, .int .i64 t.col]) ?_ LL.o ?_
    ·intro _ y;have⟨h0,h1,h2,h3,h4,_⟩:=y.a;go_simp
    refine wTk 1 19 (.string ⟨kind.toArray⟩) ?_ LL.o ?_
    ·intro _ y;go_simp
    refine wTk 2 20 (.pointer (some ⟨B,0,none⟩)) ?_ LL.o ?_
    ·intro _ y;go_simp
    refine wTk 3 21 (.pointer (some ⟨B,0,none⟩)) ?_ LL.o ?_
    ·intro _ y;go_simp
    refine jA (i:=4) (j:=8) rfl rfl (by kernel_rfl) (by rfl) (by rfl) (fun K hK=>?_) (fun K hK=>?_)
    ·go_simp;refine(HNM.o _ SS.o.ps).mono ?_;rintro e v7 ⟨rfl,hb⟩;have S7x:=hI (SS.o.below hb);have L7x:=hI (LL.o.below hb);have hss7:=S7x.o.lt;have hll7:=L7x.o.lt;refine kK hK L7x.o ?_;clear hK K;refine jA (i:=5) (j:=8) rfl rfl (by kernel_rfl) (by rfl) (by rfl) (fun K hK=>?_) (fun K hK=>?_)
     ·go_simp;refine(vB B u rr d _ S7x.o.ps hteu).mono ?_;rintro e v10 ⟨rfl,hP,hg⟩;have S10x:=hI (S7x.o.call hP hg);have L10x:=hI (L7x.o.grown hg (by simp;omega));have hss10:=S10x.o.lt;have hll10:=L10x.o.lt;unfold vT xA;refine kK hK L10x.o ?_;clear hK K;refine wTk 6 24 (.string ⟨u.text.toArray⟩) ?_ L10x.o ?_
      ·intro _ y;go_simp
      refine jA (i:=7) (j:=8) rfl rfl (by kernel_rfl) (by rfl) (by rfl) (fun K hK=>?_) (fun K hK=>?_)
      ·go_simp;have HN:=jI t ⟨kind.toArray⟩ ⟨(u.text).toArray⟩;unfold vT xA at HN;refine(HN _).mono ?_;rintro e v14 ⟨rfl,hb⟩;have S14x:=hI (S10x.o.below hb);have L14x:=hI (L10x.o.below hb);have hss14:=S14x.o.lt;have hll14:=L14x.o.lt;refine kK hK L14x.o ?_;clear hK K;refine wOn 8 fun K hK=>?_
       go_simp;refine kK hK (L14x.o.below ((Below.refl _ _).alloc (Nat.le_refl _) _)) ?_;clear hK K;refine wOn 9 fun K hK=>?_
       go_simp;refine kK hK (L14x.o.below ((Below.refl _ _).alloc (Nat.le_refl _) _)) ?_;clear hK K;refine wDn ?_ _;exact⟨_,by simp only[Act.put,pZa,pZb,pZc],S14x.o.alloc _,Nd.new kind u.text 0 t.line t.col _,S14x.o.lt,L14x.o.below ((Below.refl _ _).alloc (Nat.le_refl _) _)⟩
      ·go_simp;have S16a:=hI (S10x.o.alloc jY);have L16a:=hI (L10x.o.below ((Below.refl _ _).alloc (Nat.le_refl _) jY));have N16a:=hI (zI.new [] [] 0 0 0 (.slice none 0 0) v10);have hNs16:=N16a.o.lt;have hlt16:=S10x.o.lt;unfold jY at *;refine kK hK L16a.o ?_;clear hK K;refine wOn 7 fun K hK=>?_
       go_simp;have HN:=jI t ⟨kind.toArray⟩ ⟨(u.text).toArray⟩;unfold vT xA at HN;refine(HN _).mono ?_;rintro e v18 ⟨rfl,hb⟩;have S18x:=hI (S16a.o.below hb);have L18x:=hI (L16a.o.below hb);have N18x:=hI (N16a.o.below hb);have hNs18:=N18x.o.lt;have hss18:=S18x.o.lt;have hll18:=L18x.o.lt;refine kK hK L18x.o ?_;clear hK K;have⟨a0,a1,a2,a3,a4,a5,_⟩:=N18x.o.a;have⟨b0,b1,b2,b3,b4,b5,_⟩:=N18x.o.b;refine wOn 9 fun K hK=>?_
       go_simp;refine kK hK (L18x.o.grown (vQ _ v10.1.size _ _ _ _ _ _) (by simp;omega)) ?_;clear hK K;refine wDn ?_ _;exact⟨_,by simp only[Act.put,pZa,pZb,pZc],S18x.o.six (by omega) _ _ _ _ _ _,⟨N18x.o.six kind u.text 0 t.line t.col (.slice none 0 0),zC.nil _ _⟩,by omega,L18x.o.grown (vQ _ v10.1.size _ _ _ _ _ _) (by simp;omega)⟩
     ·go_simp;have S20a:=hI (S7x.o.alloc jY);have L20a:=hI (L7x.o.below ((Below.refl _ _).alloc (Nat.le_refl _) jY));have N20a:=hI (zI.new [] [] 0 0 0 (.slice none 0 0) v7);have hNs20:=N20a.o.lt;have hlt20:=S7x.o.lt;unfold jY at *;refine kK hK L20a.o ?_;clear hK K;refine wOn 5 fun K hK=>?_
      go_simp;refine(vB B u rr d _ S20a.o.ps hteu).mono ?_;rintro e v22 ⟨rfl,hP,hg⟩;have S22x:=hI (S20a.o.call hP hg);have L22x:=hI (L20a.o.grown hg (by simp;omega));have N22x:=hI (N20a.o.grown hg (by simp;omega));have hNs22:=N22x.o.lt;have hss22:=S22x.o.lt;have hll22:=L22x.o.lt;unfold vT xA;refine kK hK L22x.o ?_;clear hK K;refine wTk 6 24 (.string ⟨u.text.toArray⟩) ?_ L22x.o ?_
      ·intro _ y;go_simp
      refine wOn 7 fun K hK=>?_
      go_simp;have HN:=jI t ⟨kind.toArray⟩ ⟨(u.text).toArray⟩;unfold vT xA at HN;refine(HN _).mono ?_;rintro e v25 ⟨rfl,hb⟩;have S25x:=hI (S22x.o.below hb);have L25x:=hI (L22x.o.below hb);have N25x:=hI (N22x.o.below hb);have hNs25:=N25x.o.lt;have hss25:=S25x.o.lt;have hll25:=L25x.o.lt;refine kK hK L25x.o ?_;clear hK K;have⟨a0,a1,a2,a3,a4,a5,_⟩:=N25x.o.a;have⟨b0,b1,b2,b3,b4,b5,_⟩:=N25x.o.b;refine wOn 9 fun K hK=>?_
      go_simp;refine kK hK (L25x.o.grown (vQ _ v7.1.size _ _ _ _ _ _) (by simp;omega)) ?_;clear hK K;refine wDn ?_ _;exact⟨_,by simp only[Act.put,pZa,pZb,pZc],S25x.o.six (by omega) _ _ _ _ _ _,⟨N25x.o.six kind u.text 0 t.line t.col (.slice none 0 0),zC.nil _ _⟩,by omega,L25x.o.grown (vQ _ v7.1.size _ _ _ _ _ _) (by simp;omega)⟩
    ·go_simp;have S27a:=hI (SS.o.alloc jY);have L27a:=hI (LL.o.below ((Below.refl _ _).alloc (Nat.le_refl _) jY));have N27a:=hI (zI.new [] [] 0 0 0 (.slice none 0 0) wd);have hNs27:=N27a.o.lt;have hlt27:=SS.o.lt;unfold jY at *;refine kK hK L27a.o ?_;clear hK K;refine wOn 4 fun K hK=>?_
     go_simp;refine(HNM.o _ S27a.o.ps).mono ?_;rintro e v29 ⟨rfl,hb⟩;have S29x:=hI (S27a.o.below hb);have L29x:=hI (L27a.o.below hb);have N29x:=hI (N27a.o.below hb);have hNs29:=N29x.o.lt;have hss29:=S29x.o.lt;have hll29:=L29x.o.lt;refine kK hK L29x.o ?_;clear hK K;refine wOn 5 fun K hK=>?_
     go_simp;refine(vB B u rr d _ S29x.o.ps hteu).mono ?_;rintro e v31 ⟨rfl,hP,hg⟩;have S31x:=hI (S29x.o.call hP hg);have L31x:=hI (L29x.o.grown hg (by simp;omega));have N31x:=hI (N29x.o.grown hg (by simp;omega));have hNs31:=N31x.o.lt;have hss31:=S31x.o.lt;have hll31:=L31x.o.lt;unfold vT xA;refine kK hK L31x.o ?_;clear hK K;refine wTk 6 24 (.string ⟨u.text.toArray⟩) ?_ L31x.o ?_
     ·intro _ y;go_simp
     refine wOn 7 fun K hK=>?_
     go_simp;have HN:=jI t ⟨kind.toArray⟩ ⟨(u.text).toArray⟩;unfold vT xA at HN;refine(HN _).mono ?_;rintro e v34 ⟨rfl,hb⟩;have S34x:=hI (S31x.o.below hb);have L34x:=hI (L31x.o.below hb);have N34x:=hI (N31x.o.below hb);have hNs34:=N34x.o.lt;have hss34:=S34x.o.lt;have hll34:=L34x.o.lt;refine kK hK L34x.o ?_;clear hK K;have⟨a0,a1,a2,a3,a4,a5,_⟩:=N34x.o.a;have⟨b0,b1,b2,b3,b4,b5,_⟩:=N34x.o.b;refine wOn 9 fun K hK=>?_
     go_simp;refine kK hK (L34x.o.grown (vQ _ wd.1.size _ _ _ _ _ _) (by simp;omega)) ?_;clear hK K;refine wDn ?_ _;exact⟨_,by simp only[Act.put,pZa,pZb,pZc],S34x.o.six (by omega) _ _ _ _ _ _,⟨N34x.o.six kind u.text 0 t.line t.col (.slice none 0 0),zC.nil _ _⟩,by omega,L34x.o.grown (vQ _ wd.1.size _ _ _ _ _ _) (by simp;omega)⟩
   intro N w5 ⟨hS5,hN5,hwN,hL5⟩;try simp only[Act.put,pZa,pZb,pZc]
   have S5:=hI hS5;have N5:=hI hN5;have l0:=hL5.c0;have l1:=hL5.c1;have l2':=hL5.c2;have l3':=hL5.c3;have l4':=hL5.c4;clear hS5 hN5 hL5 S2 L2;have H:=hI (jI t ⟨zB.toArray⟩ ⟨t.text.toArray⟩);go_wp2_with fail
   refine(H.o _).mono ?_;rintro e w21 ⟨rfl,hb21⟩;have S21:=hI (S5.o.below hb21);have N21:=hI (N5.o.below hb21);clear S5 N5;clear H hb21;have hff:=qVb (t:=.mk zB t.text 0 t.line t.col []) S21.o N21.o.nd hwN (zC.nil _ w21.1.size) (Nat.succ_le_of_lt N21.o.lt) (Nat.le_refl _);have HFF:=hI hff;have SC:=S21.o;have NC:=N21.o;have hs1:=SC.lt;have hs2:=NC.lt;have hf5:=NC.nd.f 5 nL;have hr:=SC.res;have⟨r0,r1',r2,r3,r4,r5,_⟩:=hr.a;have⟨g0,g1,g2,g3,g4,g5,_⟩:=hr.b;clear hr;have hq:=NC.nd;have⟨qn0,qn1,qn2,qn3,qn4,qn5,_⟩:=hq.a;clear hq;clear hff S21 N21 SC NC l0 l1 l2' l3' l4';go_wp2
   refine bodyPost_ret (v:=qZ (.mk kind u.text 0 t.line t.col [.mk zB t.text 0 t.line t.col []]) (.slice (some ⟨w21.1.size,0,none⟩) 1 1)) (by simp[results,results103,go_sem,qZ,tQ,qY,qG,qC,qO,zB,zD,zX,qE,kIf,zS,qA,qV,qF,qD,qP,qW,qN,zW,zM,qL,qM,qT,zK,zL,qH,zA, *]) rfl ?_;have hgood:(zG kind true) (t :: u :: rr)=.ok (.mk kind u.text 0 t.line t.col [.mk zB t.text 0 t.line t.col []]) rr:=by simp only[bF,if_false,if_true,reduceIte,bN,bM,bO,bU,bP,bV,bW,bB,bA,bT,lN,lC,lA,zG,jV,hn,PR.bind,qX]
   rw[hgood];exact HFF.o.1.finA (by simpa using hs1) (HFF.o.2.bd.mono (by omega)) _ _ _ _ _ _
theorem qK2:yR 107:=fun args w=>by simp[go_sem,func107]
theorem enters94:yR 105:=fun args w=>by simp[go_sem,func105]
theorem qVz:yR 158:=fun args w=>by simp[go_sem,func158]
theorem enters146:yR 173:=fun args w=>by simp[go_sem,func173]
theorem qY6:yR 181:=fun args w=>by simp[go_sem,func181]
theorem enters119:yR 141:=fun args w=>by simp[go_sem,func141]
theorem enters120:yR 142:=fun args w=>by simp[go_sem,func142]
theorem enters121:yR 143:=fun args w=>by simp[go_sem,func143]
theorem enters122:yR 144:=fun args w=>by simp[go_sem,func144]
theorem enters123:yR 145:=fun args w=>by simp[go_sem,func145]
theorem enters124:yR 146:=fun args w=>by simp[go_sem,func146]
theorem qL0(x:List UInt8):yR (qXy x):=by
 unfold qXy;split
 ·exact enters119
 split
 ·exact enters120
 split
 ·exact enters121
 split
 ·exact enters122
 split
 ·exact enters123
 ·exact enters124
theorem qKo(kind:List UInt8)(d:Int):vM 103 (fun p=>#[p, .string ⟨kind.toArray⟩, .bool false]) d (zG kind false):=fun B l w h hno=>qKl kind false d B l w h (fun e=>by cases e) hno
structure AllAt(n:Nat)(d:Int):Prop where
 block:vM 107 (fun p=>#[p]) d (qQd n .block d)
 binary:∀ k,0<=k->k<=10->vM 172 (fun p=>#[p, .int .i64 k]) d (qQd n (.binary k) d)
 operand:vM 181 (fun p=>#[p]) d (qQd n .operand d)
theorem stmt_does(rec:NT->Int->List Tok->PR qQ)(n:Nat)(d:Int)(hch:vM 141 (fun p=>#[p]) d (vF rec d))(hlo:vM 142 (fun p=>#[p]) d (jK rec qA d))(hle:vM 143 (fun p=>#[p]) d (yC rec d))
 (hcl:∀ (B:Nat) (l:List Tok) (w:World),vP B l d w->(hdT l).text≠[]->kL rec d l≠.out->Calls prog 144 #[.pointer (some ⟨B,0,none⟩)] w (qXV B d w (kL rec d l))) (hlc:vM 145 (fun p=>#[p]) d qQM) (hac:vM 146 (fun p=>#[p]) d (jJ rec n d)) :
 ∀ (B:Nat) (l:List Tok) (w:World),vP B l d w->qQA rec n d l≠.out->Calls prog (qXy (hdT l).text) #[.pointer (some ⟨B,0,none⟩)] w (qXV B d w (qQA rec n d l)):=by
 intro B l w h hno;unfold qQA at *;unfold qXy;cases h1:((hdT l).text == kIf);case true=>simp only[h1,if_true]at hno ⊢;exact hch B l w h hno
 cases h2:((hdT l).text == qA);case true=>simp only[h1,h2,if_true,bF,if_false]at hno ⊢;exact hlo B l w h hno
 cases h3:((hdT l).text == qV);case true=>simp only[h1,h2,h3,if_true,bF,if_false]at hno ⊢;exact hle B l w h hno
 cases h4:((hdT l).text == qF || (hdT l).text == qD);case true =>
  simp only[h1,h2,h3,h4,if_true,bF,if_false]at hno ⊢;exact hcl B l w h (fun e=>by rw[e]at h4;exact absurd h4 (by decide)) hno
 cases h5:yG (hdT l).text;case true=>simp only[h1,h2,h3,h4,h5,if_true,bF,if_false]at hno ⊢;exact hlc B l w h hno
 simp only[h1,h2,h3,h4,h5,bF,if_false]at hno ⊢;exact hac B l w h hno
theorem all_at(n:Nat)(hn:n<=900000):∀ d:Int,AllAt n d:=by
 induction n with
 | zero=>exact fun d=>⟨fun B l w h hno=>absurd rfl hno,fun k _ _ B l w h hno=>absurd rfl hno,fun B l w h hno=>absurd rfl hno⟩
 | succ n ih =>
  intro d;have H:=ih (by omega);have hex:∀ d,vM 158 (fun p=>#[p]) d (qQh (qQd n) d):=fun d=>qWk (qQd n) d ((H d).binary 0 (by omega) (by omega))
  have hta:∀ d,vM 161 (fun p=>#[p]) d (xF (qQd n) d):=fun d=>qLf (qQd n) d qVz (hex (d+1))
  have har:∀ d,vM 173 (fun p=>#[p]) d (qPf (qQd n) d):=fun d=>qYD (qQd n) d qVz (hex (d+1))
  have hca:∀ d,vM 160 (fun p=>#[p]) d (qQz (qQd n) n d):=fun d=>call_does (qQd n) n d (by omega) enters146 (har d)
  have hgw:vM 157 (fun p=>#[p, .string ⟨qA.toArray⟩]) d (jK (qQd n) qA d):=qK9 (qQd n) qA d (by decide) qK2 (hex d) (H (d+1)).block;have hgi:vM 157 (fun p=>#[p, .string ⟨kIf.toArray⟩]) d (jK (qQd n) kIf d):=qK9 (qQd n) kIf d (by decide) qK2 (hex d) (H (d+1)).block;refine⟨?_,?_,?_⟩
  ·exact qLT (qQd n) n d (by omega) qL0 (stmt_does (qQd n) n d (qPp (qQd n) d qK2 hgi (H (d+1)).block) (loop_does (qQd n) d hgw) (leave_does (qQd n) d (hex d)) (qLZ (qQd n) d (hex d)) (local_does d (qKo qE d)) (qPd (qQd n) n d (hca d) (hta d) (hex d)))
  ·exact fun k h0 h1=>qPi (qQd n) n k d h0 h1 (H d).operand (H d).binary
  ·exact qUS (qQd n) d qY6 (H (d+1)).operand (paren_does (qQd n) d qY6 qVz (H (d+1)).operand (hex (d+1))) (hta d)
theorem qP2(n:Nat)(hn:n<=900000):vM 74 (fun p=>#[p]) 0 (xW n) :=
 qUW n hn (item_does n 0 hn qK2 enters94 (fun void B l w h hc hno=>qKl qG void 0 B l w h hc hno) (param_does 0 (qKo qO 0)) ((all_at n hn 1).block))
def xP{α:Type}(m:Nat)(p:PR α):Prop:=p≠.out/\∀ a l,p=.ok a l->l.length < m
theorem xP.ok{α:Type}{m:Nat}(a:α){l:List Tok}(h:l.length < m):xP m (.ok a l):=⟨by simp,fun a' l' e=>by injection e with _ e;subst e;exact h⟩
theorem xP.bad{α:Type}(m:Nat)(ln c code:Int):xP m (.bad ln c code:PR α):=⟨by simp,fun a' l' e=>by cases e⟩
theorem xP.bind{α β:Type}{m m':Nat}{p:PR α}{f:α->List Tok->PR β}(h:xP m p)(hf:∀ a l,l.length < m->xP m' (f a l)):xP m' (p.bind f):=by
 cases p with
 | ok a l=>exact hf a l (h.2 a l rfl)
 | bad ln c code=>exact xP.bad _ _ _ _
 | out=>exact absurd rfl h.1
theorem xP.mono{α:Type}{m m':Nat}{p:PR α}(h:xP m p)(hm:m<=m'):xP m' p:=⟨h.1,fun a l e=>Nat.lt_of_lt_of_le (h.2 a l e) hm⟩
theorem kS(may:Bool)(l:List Tok):xP l.length (jV may l):=by
 cases l with
 | nil=>exact xP.bad _ _ _ _
 | cons t r =>
  rw[jV];split
  ·exact xP.ok _ (by simp)
  ·exact xP.bad _ _ _ _
theorem qWU:∀ (xs:List (List UInt8)) (l:List Tok),xP (l.length+1) (jL xs l)
 | [],l=>xP.ok _ (by simp)
 | x :: xs,l=>(kS _ l).bind fun _ l' h=>(qWU xs l').mono (by omega)
theorem jB(x:List UInt8)(xs:List (List UInt8))(l:List Tok):xP l.length (jL (x :: xs) l):=(kS _ l).bind fun _ l' h=>(qWU xs l').mono (by omega)
theorem fine_fail(m:Nat)(code:Int)(l:List Tok):xP m (qWQ code l:PR qQ):=xP.bad _ _ _ _
theorem wR{m:Nat}{d:Int}{p:Int->List Tok->PR qQ}{l:List Tok}(h:xP m (p (d+1) l)):xP m (xX d p l):=by
 unfold xX;split
 ·exact fine_fail _ _ _
 ·exact h
theorem qJ6{stop:Tok->Bool}{p:List Tok->PR qQ}:∀ (n:Nat) (acc:List qQ) (l:List Tok),l.length < n->(∀ l',l'.length<=l.length->xP l'.length (p l'))->xP (l.length+1) (vI stop p n acc l)
 | 0,_,_,h,_=>by omega
 | n+1,acc,l,h,hp=>by
  rw[vI];split
  ·exact xP.ok _ (by omega)
  ·exact(hp l (Nat.le_refl _)).bind fun t l' hl=>(qJ6 n (acc++[t]) l' (by omega) (fun l'' h''=>hp l'' (by omega))).mono (by omega)
theorem qXS(kind:List UInt8)(void:Bool)(l:List Tok):xP l.length (zG kind void l) :=
 (kS _ l).bind fun t l' h=>(kS _ l').bind fun u l'' h'=>xP.ok _ (by omega)
theorem qV1(l:List Tok):xP l.length (wQ l):=(kS _ l).bind fun t l' h=>xP.ok _ h
theorem qV0{n:Nat}{p:List Tok->PR qQ}{l:List Tok}(hn:l.length<=n)(hp:∀ l',l'.length < l.length->xP l'.length (p l')):xP l.length (xT n p l):=by
 unfold xT;refine(jB [40] [] l).bind fun _ l1 h1=>?_
 split
 ·exact(jB [41] [] l1).bind fun _ l2 h2=>xP.ok _ (by omega)
 ·refine(hp l1 h1).bind fun t l2 h2=>?_
  refine(qJ6 n [t] l2 (by omega) (fun l' h'=>(jB [44] [] l').bind fun _ l3 h3=>(hp l3 (by omega)).mono (by omega))).bind fun ts l3 h3=>?_
  exact(jB [41] [] l3).bind fun _ l4 h4=>xP.ok _ (by omega)
section
variable {rec:NT->Int->List Tok->PR qQ} {n L:Nat}
structure qXj(rec:NT->Int->List Tok->PR qQ)(L:Nat):Prop where
 block:∀ d l,l.length < L->xP l.length (rec .block d l)
 binary:∀ k d l,l.length < L->xP l.length (rec (.binary k) d l)
 operand:∀ d l,l.length < L->xP l.length (rec .operand d l)
theorem qV2(H:qXj rec L)(d:Int)(l:List Tok)(hl:l.length<=L):xP l.length (xF rec d l):=by
 unfold xF;refine(kS _ l).bind fun t l1 h1=>?_
 split
 ·refine(jB [91] [] l1).bind fun _ l2 h2=>?_
  refine(wR (H.binary 0 (d+1) l2 (by omega))).bind fun e l3 h3=>?_
  exact(jB [93] [] l3).bind fun _ l4 h4=>xP.ok _ (by omega)
 ·exact xP.ok _ h1
theorem qL6(H:qXj rec L)(d:Int)(l:List Tok)(hl:l.length<=L):xP l.length (yJ rec d l):=by
 unfold yJ;refine(kS _ l).bind fun t l1 h1=>?_
 split
 ·refine(kS _ l1).bind fun u l2 h2=>?_
  refine(jB [41] [] l2).bind fun _ l3 h3=>?_
  exact(wR (H.operand (d+1) l3 (by omega))).bind fun e l4 h4=>xP.ok _ (by omega)
 ·refine(wR (H.binary 0 (d+1) l1 (by omega))).bind fun e l3 h3=>?_
  exact(jB [41] [] l3).bind fun _ l4 h4=>xP.ok _ (by omega)
theorem qUL(H:qXj rec L)(d:Int)(l:List Tok)(hl:l.length<=L):xP l.length (jU rec d l):=by
 unfold jU;split
 ·exact qV1 l
 split
 ·exact(kS _ l).bind fun u l1 h1=>xP.ok _ h1
 split
 ·refine(kS _ l).bind fun u l1 h1=>?_
  exact(wR (H.operand (d+1) l1 (by omega))).bind fun e l2 h2=>xP.ok _ (by omega)
 split
 ·exact qL6 H d l hl
 ·exact qV2 H d l hl
theorem qK4(H:qXj rec L)(k d:Int):∀ (m:Nat) (left:qQ) (l:List Tok),l.length < m->l.length<=L->xP (l.length+1) (kX rec k d m left l)
 | 0,_,_,h,_=>by omega
 | m+1,left,l,h,hl=>by
  rw[kX];split
  ·exact xP.ok _ (by omega)
  ·refine(kS _ l).bind fun t l1 h1=>?_
   refine(H.binary _ d l1 (by omega)).bind fun r l2 h2=>?_
   exact(qK4 H k d m _ l2 (by omega) (by omega)).mono (by omega)
theorem qPB(H:qXj rec L)(k d:Int)(l:List Tok)(hl:l.length<=L)(hn:l.length<=n)(ho:xP l.length (rec .operand d l)):xP l.length (qQy rec n k d l):=by
 unfold qQy;exact ho.bind fun e l1 h1=>(qK4 H k d n e l1 (by omega) (by omega)).mono (by omega)
theorem qJ5(H:qXj rec L)(d:Int)(l:List Tok)(hl:l.length < L):xP l.length (qQh rec d l):=H.binary 0 d l hl
theorem qY8(H:qXj rec L)(d:Int)(l:List Tok)(hl:l.length<=L)(hn:l.length<=n):xP l.length (qQz rec n d l):=by
 unfold qQz;refine(kS _ l).bind fun t l1 h1=>?_
 exact(qV0 (by omega) (fun l' h'=>wR (H.binary 0 (d+1) l' (by omega)))).bind fun ts l2 h2=>xP.ok _ (by omega)
theorem qPA(H:qXj rec L)(d:Int)(l:List Tok)(hl:l.length<=L)(hn:l.length<=n):xP l.length (jJ rec n d l):=by
 unfold jJ;split
 ·exact(qY8 H d l hl hn).bind fun t l1 h1=>(jB [59] [] l1).bind fun _ l2 h2=>xP.ok _ (by omega)
 ·refine(qV2 H d l hl).bind fun x l1 h1=>(jB [61] [] l1).bind fun _ l2 h2=>?_
  split
  ·exact(jB qW [[40],[41]] l2).bind fun _ l3 h3=>(jB [59] [] l3).bind fun _ l4 h4=>xP.ok _ (by omega)
  split
  ·exact(qY8 H d l2 (by omega) (by omega)).bind fun y l3 h3=>(jB [59] [] l3).bind fun _ l4 h4=>xP.ok _ (by omega)
  ·exact(qJ5 H d l2 (by omega)).bind fun y l3 h3=>(jB [59] [] l3).bind fun _ l4 h4=>xP.ok _ (by omega)
theorem qL3(H:qXj rec L)(d:Int)(l:List Tok)(hl:l.length<=L):xP l.length (kL rec d l):=by
 unfold kL;exact(kS _ l).bind fun t l1 h1=>(jB [40] [] l1).bind fun _ l2 h2=>(qJ5 H d l2 (by omega)).bind fun e l3 h3=>(jB [41] [[59]] l3).bind fun _ l4 h4=>xP.ok _ (by omega)
theorem qL4(H:qXj rec L)(d:Int)(l:List Tok)(hl:l.length<=L):xP l.length (yC rec d l):=by
 unfold yC;refine(jB qV [] l).bind fun _ l1 h1=>?_
 split
 ·exact(jB [59] [] l1).bind fun _ l2 h2=>xP.ok _ (by omega)
 ·exact(qJ5 H d l1 (by omega)).bind fun e l2 h2=>(jB [59] [] l2).bind fun _ l3 h3=>xP.ok _ (by omega)
theorem qK5(H:qXj rec L)(word:List UInt8)(d:Int)(l:List Tok)(hl:l.length<=L):xP l.length (jK rec word d l):=by
 unfold jK;exact(jB word [[40]] l).bind fun _ l1 h1=>(qJ5 H d l1 (by omega)).bind fun e l2 h2=>(jB [41] [] l2).bind fun _ l3 h3=>(wR (H.block (d+1) l3 (by omega))).bind fun b l4 h4=>xP.ok _ (by omega)
theorem qPC(H:qXj rec L)(d:Int)(l:List Tok)(hl:l.length<=L):xP l.length (vF rec d l):=by
 unfold vF;refine(qK5 H kIf d l hl).bind fun t l1 h1=>?_
 split
 ·exact(jB zS [] l1).bind fun _ l2 h2=>(wR (H.block (d+1) l2 (by omega))).bind fun b l3 h3=>xP.ok _ (by omega)
 ·exact xP.ok _ h1
theorem qL5(l:List Tok):xP l.length (qQM l):=(qXS _ _ l).bind fun t l1 h1=>(jB [59] [] l1).bind fun _ l2 h2=>xP.ok _ (by omega)
theorem fine_stmt(H:qXj rec L)(d:Int)(l:List Tok)(hl:l.length<=L)(hn:l.length<=n):xP l.length (qQA rec n d l):=by
 unfold qQA;split
 ·exact qPC H d l hl
 split
 ·exact qK5 H _ d l hl
 split
 ·exact qL4 H d l hl
 split
 ·exact qL3 H d l hl
 split
 ·exact qL5 l
 ·exact qPA H d l hl hn
theorem qL2(H:qXj rec L)(d:Int)(l:List Tok)(hl:l.length<=L)(hn:l.length<=n):xP l.length (qQK rec n d l):=by
 unfold qQK;refine(jB [123] [] l).bind fun _ l1 h1=>?_
 exact(qJ6 n [] l1 (by omega) (fun l' h'=>fine_stmt H d l' (by omega) (by omega))).bind fun ts l2 h2=>(jB [125] [] l2).bind fun _ l3 h3=>xP.ok _ (by omega)
end
theorem fine_run:∀ (n:Nat),(∀ d l,2 * l.length+2<=n->xP l.length (qQd n .block d l))/\(∀ k d l,2 * l.length+2<=n->xP l.length (qQd n (.binary k) d l))/\∀ d l,2 * l.length+1<=n->xP l.length (qQd n .operand d l):=by
 intro n;induction n with
 | zero=>exact⟨fun d l h=>by omega,fun k d l h=>by omega,fun d l h=>by omega⟩
 | succ n ih =>
  have hR:∀ L,2 * L<=n->qXj (qQd n) L:=fun L hL=>⟨fun d l hl=>ih.1 d l (by omega),fun k d l hl=>ih.2.1 k d l (by omega),fun d l hl=>ih.2.2 d l (by omega)⟩
  refine⟨fun d l h=>?_,fun k d l h=>?_,fun d l h=>?_⟩
  ·exact qL2 (hR l.length (by omega)) d l (Nat.le_refl _) (by omega)
  ·exact qPB (hR l.length (by omega)) k d l (Nat.le_refl _) (by omega) (ih.2.2 d l (by omega))
  ·exact qUL (hR l.length (by omega)) d l (Nat.le_refl _)
theorem fine_item(n:Nat)(l:List Tok)(h:2 * l.length+2<=n):xP l.length (qZe n l):=by
 unfold qZe;refine(qXS _ _ l).bind fun t l1 h1=>?_
 split
 ·refine(qV0 (by omega) (fun l' h'=>qXS _ _ l')).bind fun ps l2 h2=>?_
  exact(wR ((fine_run n).1 (0+1) l2 (by omega))).bind fun b l3 h3=>xP.ok _ (by omega)
 split
 ·exact(jB [91] [] l1).bind fun _ l2 h2=>(qV1 l2).bind fun m l3 h3=>(jB [93] [] l3).bind fun _ l4 h4=>(jB [59] [] l4).bind fun _ l5 h5=>xP.ok _ (by omega)
 ·exact(jB [59] [] l1).bind fun _ l2 h2=>xP.ok _ (by omega)
theorem qP3(n:Nat)(l:List Tok)(h:2 * l.length+2<=n):xW n l≠.out:=by
 have:=(qJ6 (stop:=fun u=>u.kind == 3) n [] l (by omega) (fun l' h'=>fine_item n l' (by omega))).bind (m':=l.length+1) (f:=fun ts l'=>PR.ok (qQ.mk qY [] 0 (hdT l).line (hdT l).col ts) l') fun ts l' h'=>xP.ok _ h'
 exact this.1
theorem lex_long(s:ByteArray)(w:World)(hs:65536 < s.size) :
 Calls prog 8 #[.string s] w fun e w'=>e=.returned (.tuple #[.slice none 0 0, .int .i64 0, .int .i64 0, .int .i64 22])/\Below w.1.size w w':=by
 have hs':(65536:Int) < (s.size:Int):=by omega
 go_enter func8,ntmps8
 go_wp2
 exact bodyPost_ret (v:=.tuple #[.slice none 0 0, .int .i64 0, .int .i64 0, .int .i64 22]) (by simp[results,results8,go_sem]) rfl ⟨rfl,Below.refl _ _⟩
def qZ4(s:List UInt8):PR qQ:=if s.length<=65536 then qJq 200000 s else .bad 0 0 22
theorem qP5(s:List UInt8)(h:s.length<=65536):qJq 200000 s≠.out:=by
 unfold qJq;cases hr:qQD s 1 1 with
 | bad a b c=>simp
 | ok l =>
  have:=(qUh hr).2.1;exact qP3 _ _ (by omega)
theorem read_long(s:ByteArray)(w:World)(hs:65536 < s.size):Calls prog 21 #[.string s] w (qJ1 w (.bad 0 0 22)):=by
 have ha:=(Below.refl w.1.size w).alloc (Nat.le_refl _) jY;have H:=hI (lex_long s (w.alloc jY) hs);have HA:=hI ha;have HR:=hI (zI.new [] [] 0 0 0 (.slice none 0 0) w);clear ha;unfold jY at *;go_enter func21,ntmps21
 go_wp2_with fail
 refine(H.o).mono ?_;rintro e w1 ⟨rfl,hB⟩;have hR:=HR.o.below hB;have HG:=hI hB;have⟨r0,r1,r2,r3,r4,r5,_⟩:=hR.a;have⟨g0,g1,g2,g3,g4,g5,_⟩:=hR.b;have hsz:=hR.lt;clear hR hB H HR;go_wp2
 refine bodyPost_ret (v:=.tuple #[qXH, .int .i64 0, .int .i64 0, .int .i64 22]) (by simp[results,results21,go_sem,qXH, *]) rfl ?_;exact⟨rfl,qQb (qQU (zV (HA.o.trans (HG.o.mono HA.o.size)) none) (Nat.le_refl _) _ _ _ _ _ _)⟩
theorem read_all(s:ByteArray)(w:World)(ht:Tab3 w):Calls prog 21 #[.string s] w (qJ1 w (qZ4 s.data.toList)):=by
 have hl:s.data.toList.length=s.size:=(qQQ s).symm;unfold qZ4;by_cases h:s.data.toList.length<=65536
 ·rw[if_pos h];exact read_any 200000 (qP2 200000 (by omega)) s w (by omega) ht (qP5 _ h)
 ·rw[if_neg h];exact read_long s w (by omega)
theorem qVG(s:List UInt8):qZ4 s≠.out:=by
 unfold qZ4;split
 ·rename_i h;exact qP5 s h
 ·simp
theorem lex_len(n:Nat)(l:List UInt8)(ln c:Int)(ts:List Tok)(hn:l.length<=n)(h:qQD l ln c=.ok ts):0 < ts.length/\ts.length<=l.length+1/\(qZ5 (ts.map Tok.bare)).length<=2 * l.length:=by
 induction n generalizing l ln c ts with
 | zero =>
  obtain rfl:l=[]:=List.length_eq_zero_iff.mp (by omega);have e:qQD [] ln c=.ok [⟨3,[],0,ln,c⟩]:=rfl;rw[e]at h;cases h;exact⟨by simp,by simp,by simp[qZ5,Tok.bare]⟩
 | succ n ih =>
  rw[qJe]at h;have hls:(vO l ln c).1.length<=l.length:=qZT l.length l ln c;generalize vO l ln c=s at *;by_cases h1:s.1=[]
  ·rw[if_pos h1]at h;cases h;exact⟨by simp,by simp,by simp[qZ5,Tok.bare]⟩
  ·rw[if_neg h1]at h;by_cases he:wK s.1=0
   ·rw[if_pos he]at h;have hp:=qQW he;have hle:=wG s.1;cases hr:qQD (s.1.drop (zZ s.1)) (kU (s.1.take (zZ s.1)) s.2.1 s.2.2).1 (kU (s.1.take (zZ s.1)) s.2.1 s.2.2).2 with
    | bad a b c=>rw[hr]at h;cases h
    | ok ts' =>
     rw[hr]at h;cases h;have hd:(s.1.drop (zZ s.1)).length=s.1.length - zZ s.1:=List.length_drop;obtain⟨a1,a2,a3⟩:=ih _ _ _ ts' (by omega) hr;refine⟨by simp,by simp;omega,?_⟩;have hk:(qJX s.1 s.2.1 s.2.2).bare.kind=vA s.1:=rfl;have ht:(qJX s.1 s.2.1 s.2.2).bare.text=s.1.take (zZ s.1):=rfl;rw[List.map_cons,qZ5,if_neg (by rw[hk];exact qVA _),ht,lL,lO,List.length_take];omega
   ·rw[if_neg he]at h;cases h
theorem qPN(n:Nat)(l:List UInt8)(ln c:Int){a b code:Int}(hn:l.length<=n)(h:qQD l ln c=.bad a b code):code=20\/code=21:=by
 induction n generalizing l ln c with
 | zero =>
  obtain rfl:l=[]:=List.length_eq_zero_iff.mp (by omega);have e:qQD [] ln c=.ok [⟨3,[],0,ln,c⟩]:=rfl;rw[e]at h;cases h
 | succ n ih =>
  rw[qJe]at h;have hls:(vO l ln c).1.length<=l.length:=qZT l.length l ln c;generalize vO l ln c=s at *;by_cases h1:s.1=[]
  ·rw[if_pos h1]at h;cases h
  ·rw[if_neg h1]at h;by_cases he:wK s.1=0
   ·rw[if_pos he]at h;have hp:=qQW he;have hle:=wG s.1;have hd:(s.1.drop (zZ s.1)).length=s.1.length - zZ s.1:=List.length_drop;cases hr:qQD (s.1.drop (zZ s.1)) (kU (s.1.take (zZ s.1)) s.2.1 s.2.2).1 (kU (s.1.take (zZ s.1)) s.2.1 s.2.2).2 with
    | ok ts'=>rw[hr]at h;cases h
    | bad a' b' c' =>
     rw[hr]at h;cases h;exact ih _ _ _ (by omega) hr
   ·rw[if_neg he]at h;cases h;exact qU7 he
section
variable {D:Prop} {m:Nat}
end
section
variable {D:Prop}
end
theorem qUu:∀ (i:Nat) (l:List UInt8),0 < i->qQ0 i (l.take (xQ qQZ l))=true
 | _,[],_=>rfl
 | i,b :: r,hi=>by
  rw[xQ];by_cases h:qQZ (b.toNat:Int)=true
  ·rw[if_pos h,List.take_succ_cons,qQ0,qUu (i+1) r (by omega),bW];unfold qQZ at h;simp only[Bool.or_eq_true,decide_eq_true_eq]at h;rcases h with h | h
   ·rw[h];rfl
   ·have:qPv (b.toNat:Int)=true:=by
     unfold qQa at h;unfold qPv;simp only[decide_eq_true_eq];by_cases h1:(48:Int)<=b.toNat/\(b.toNat:Int)<=57
     ·exact h1
     ·rw[if_neg h1]at h;by_cases h2:(97:Int)<=b.toNat/\(b.toNat:Int)<=102
      ·rw[if_pos h2]at h;omega
      ·rw[if_neg h2]at h;by_cases h3:(65:Int)<=b.toNat/\(b.toNat:Int)<=70
       ·rw[if_pos h3]at h;omega
       ·rw[if_neg h3]at h;omega
    rw[this,show(i == 0)=false by simp;omega];simp
  ·rw[if_neg h];rfl
theorem qUm{base:Int}(hb:base=10\/base=16):∀ (l:List UInt8) (acc v:Int),xJ base acc l=some v->0<=acc->acc<=18446744073709551615 ->
 0<=v/\v<=18446744073709551615/\v < (acc+1) * ((16 ^ l.length:Nat):Int)
 | [],acc,v,h,h0,h1=>by
  rw[xJ]at h;cases h;refine⟨h0,h1,?_⟩;show acc < (acc+1) * ((16 ^ 0:Nat):Int)
  simp;omega
 | b :: r,acc,v,h,h0,h1=>by
  rw[xJ]at h;by_cases hc:base<=qQa (b.toNat:Int)\/(18446744073709551615 - qQa (b.toNat:Int)) / base < acc
  ·rw[if_pos hc]at h;cases h
  ·rw[if_neg hc]at h;rw[not_or]at hc;have hd:=qWP (b.toNat:Int);generalize qQa (b.toNat:Int)=d at *;have hm:0<=acc * base+d/\acc * base+d<=18446744073709551615/\acc * base+d+1<=(acc+1) * 16:=by
    rcases hb with rfl | rfl <;> omega
   obtain⟨a1,a2,a3⟩:=qUm hb r _ v h hm.1 hm.2.1;refine⟨a1,a2,Int.lt_of_lt_of_le a3 ?_⟩;rw[lO,Nat.pow_succ,Nat.mul_comm,Int.natCast_mul,<-Int.mul_assoc];exact Int.mul_le_mul_of_nonneg_right hm.2.2 (Int.natCast_nonneg _)
theorem qY3:∀ (k u:Nat),u < 10 ^ k->Lib.nDigits u<=k+1 - (if u=0 then 0 else 1)
 | 0,u,h=>by
  have:u=0:=by simpa using h
  subst this;rw[Lib.nDigits_small (by omega)];simp
 | k+1,u,h=>by
  by_cases hu:u < 10
  ·rw[Lib.nDigits_small hu];split <;> omega
  ·rw[Lib.nDigits_big hu];have:=qY3 k (u / 10) (by rw[Nat.pow_succ]at h;omega);rw[if_neg (by omega)]at this;rw[if_neg (by omega)];omega
theorem dec_len{u k:Nat}(h:u < 10 ^ k)(hk:1<=k):(Lib.decDigits u).length<=k:=by
 rw[Lib.decDigits_length];have:=qY3 k u h;by_cases hu:u=0
 ·subst hu;rw[Lib.nDigits_small (by omega)];exact hk
 ·rw[if_neg hu]at this;omega
theorem pow_16_10(k:Nat):16 ^ k<=10 ^ (2 * k):=by
 rw[Nat.pow_mul];exact Nat.pow_le_pow_left (by omega) k
theorem numL_ok{l:List UInt8}{v:Int}(h:qJg l=some v):0<=v/\v < 18446744073709551616/\(Lib.decDigits v.toNat).length<=2 * l.length:=by
 have key:∀ (base:Int) (x:List UInt8),(base=10\/base=16)->xJ base 0 x=some v->x≠[]->x.length<=l.length->0<=v/\v < 18446744073709551616/\(Lib.decDigits v.toNat).length<=2 * l.length:=by
  intro base x hb hx hne hle;obtain⟨a1,a2,a3⟩:=qUm hb x 0 v hx (by omega) (by omega);have h4:v.toNat < 16 ^ x.length:=by omega
  have h5:=pow_16_10 x.length;have hp:0 < x.length:=List.length_pos_iff.2 hne;have h6:=dec_len (u:=v.toNat) (k:=2 * x.length) (by omega) (by omega);exact⟨a1,by omega,by omega⟩
 unfold qJg at h;by_cases hh:Lib.hasPrefix l qWl=true
 ·rw[if_pos hh]at h;by_cases he:l.drop 2=[]
  ·rw[if_pos he]at h;cases h
  ·rw[if_neg he]at h;exact key 16 _ (.inr rfl) h he (by rw[List.length_drop];omega)
 ·rw[if_neg hh]at h;by_cases he:l=[]
  ·rw[if_pos he]at h;cases h
  ·rw[if_neg he]at h;exact key 10 _ (.inl rfl) h he (Nat.le_refl _)
theorem tok_ok{l:List UInt8}(ln c:Int)(h:wK l=0)(hl:l.length<=65536):qWC (qJX l ln c):=by
 have hp:=qQW h;have hle:=wG l;have hlen:(l.take (zZ l)).length=zZ l:=by rw[List.length_take];omega
 refine⟨fun hk=>?_,fun hk=>?_,?_,fun _=>?_⟩
 ·show qQ0 0 (l.take (zZ l))=true
  cases l with
  | nil=>rfl
  | cons b r =>
   have hk':vA (b :: r)=0:=hk;have hb:qZx (b.toNat:Int)=true:=by
    cases hb:qZx (b.toNat:Int)with
    | true=>rfl
    | false =>
     rw[vA,hb]at hk';by_cases hd:qQa (b.toNat:Int) < 10 <;> simp[hd]at hk'
   rw[zZ,if_pos hb,xQ,if_pos (by unfold qQZ;rw[hb];rfl),List.take_succ_cons,qQ0,hb,qUu 1 r (by omega)];rfl
 ·have hk':vA l=1:=hk;unfold wK at h;rw[if_neg (by omega),if_pos hk']at h;cases hn:qJg (l.take (zZ l))with
  | none=>rw[hn]at h;simp at h
  | some v =>
   have e:(qJX l ln c).num=v:=by show(if vA l=1 then(qJg (l.take (zZ l))).getD 0 else 0)=v;rw[if_pos hk',hn];rfl
   rw[e];exact numL_ok hn
 ·show(l.take (zZ l)).length<=65536
  omega
 ·show l.take (zZ l)≠[]
  intro e;rw[e]at hlen;simp at hlen;omega
theorem lex_toks(n:Nat)(l:List UInt8)(ln c:Int)(ts:List Tok)(hn:l.length<=n)(hs:l.length<=65536)(h:qQD l ln c=.ok ts):(∀ t∈ts,qWC t)/\ch ts<=l.length:=by
 have hend:∀ (ln c:Int) (t:Tok),t∈[(⟨3,[],0,ln,c⟩:Tok)]->qWC t:=fun ln c t ht=>by
  obtain rfl:t=⟨3,[],0,ln,c⟩:=by simpa using ht
  exact⟨fun h=>absurd (show(3:Int)=0 from h) (by decide),fun h=>absurd (show(3:Int)=1 from h) (by decide),by simp,fun h=>absurd rfl h⟩
 induction n generalizing l ln c ts with
 | zero =>
  obtain rfl:l=[]:=List.length_eq_zero_iff.mp (by omega);have e:qQD [] ln c=.ok [⟨3,[],0,ln,c⟩]:=rfl;rw[e]at h;cases h;exact⟨hend _ _,by simp[ch]⟩
 | succ n ih =>
  rw[qJe]at h;have hls:(vO l ln c).1.length<=l.length:=qZT l.length l ln c;generalize vO l ln c=s at *;by_cases h1:s.1=[]
  ·rw[if_pos h1]at h;cases h;exact⟨hend _ _,by simp[ch]⟩
  ·rw[if_neg h1]at h;by_cases he:wK s.1=0
   ·rw[if_pos he]at h;have hp:=qQW he;have hle:=wG s.1;cases hr:qQD (s.1.drop (zZ s.1)) (kU (s.1.take (zZ s.1)) s.2.1 s.2.2).1 (kU (s.1.take (zZ s.1)) s.2.1 s.2.2).2 with
    | bad a b c=>rw[hr]at h;cases h
    | ok ts' =>
     rw[hr]at h;cases h;have hd:(s.1.drop (zZ s.1)).length=s.1.length - zZ s.1:=List.length_drop;obtain⟨a1,a2⟩:=ih _ _ _ ts' (by omega) (by omega) hr;refine⟨fun t ht=>?_,?_⟩
     ·rcases List.mem_cons.1 ht with rfl | ht
      ·exact tok_ok _ _ he (by omega)
      ·exact a1 t ht
     ·have ht:(qJX s.1 s.2.1 s.2.2).text=s.1.take (zZ s.1):=rfl;rw[ch,ht,List.length_take];omega
   ·rw[if_neg he]at h;cases h
theorem qJB{void:Bool}{t:qQ}{ws:List (List UInt8)}(h:vY void t=some ws):∃ u r,t.kids=u :: r/\u.kind=zB/\u.num=0:=by
 unfold vY at h;split at h
 ·rename_i u r hk;obtain⟨h1,_⟩:=zN h;simp only[bE,beq_iff_eq]at h1;exact⟨u,r,hk,h1.1.1,h1.1.2.1⟩
 ·cases h
theorem qPV{t:qQ}{ws:List (List UInt8)}(h:qZ1 t=some ws):t.kids≠[]:=by
 obtain⟨_,h1⟩:=zN h;obtain⟨u,r,hk,_⟩:=qJB h1;rw[hk];simp
theorem lastT_cons(k x:List UInt8)(m ln co:Int)(u:qQ)(ps:List qQ)(b:qQ):yE (.mk k x m ln co (u :: (ps++[b])))=b:=by
 unfold yE;rw[show(qQ.mk k x m ln co (u :: (ps++[b]))).kids=(u :: ps)++[b]from rfl,List.getLastD_eq_getLast?,List.getLast?_concat];rfl
theorem qV3{n:Nat}{t:qQ}{ws:List (List UInt8)}(h:kA (qZB n) t=some ws)(hn:qZl t)(hl:ws.length<=900000):∃ u ps z,t.kids=u :: (ps++[z])/\(∀ a∈ps,a.text.length<=1000000/\a.kids≠[])/\qUz (yE t):=by
 obtain⟨k,x,m,ln,co,ks⟩:=t;have hN:=qQx hn;rcases ks with _ | ⟨u,_ | ⟨v,r⟩⟩
 ·simp[kA,qQ.kids]at h
 ·simp[kA,qQ.kids]at h
 ·have he:v :: r=(v :: r).dropLast++[(v :: r).getLast (List.cons_ne_nil v r)]:=(List.dropLast_concat_getLast _).symm;generalize (v :: r).dropLast=ps at he;generalize (v :: r).getLast (List.cons_ne_nil v r)=b at he;rw[he]at h hN ⊢;rw[fn_mk]at h;obtain⟨_,h1⟩:=zN h;obtain⟨_,y1,_,h2,rfl⟩:=qK h1;obtain⟨_,y2,_,h3,rfl⟩:=qK h2;obtain⟨y3,y4,h4,h5,rfl⟩:=qK h3;obtain⟨_,y5,_,h6,rfl⟩:=qK h5;simp only[lL]at hl;have hNe:=hN.2.2.2.2.2.mem;refine⟨u,ps,b,rfl,fun a ha=>?_,?_⟩
  ·obtain⟨w,hw⟩:=qKC h4 a ha;have hNa:=hNe a (by simp[ha]);refine⟨?_,qPV hw⟩;obtain⟨ak,ax,am,al,ac,aks⟩:=a;exact(qQx hNa).2.1
  ·rw[lastT_cons];exact qYd n b y5 h6 (by omega) (hNe b (by simp))
theorem global_of{t:qQ}{ws:List (List UInt8)}(h:qXa t=some ws)(hn:qZl t):(∃ u r,t.kids=u :: r)/\(((yE t).kind == zD)=false->(yE t).num=0)/\0<=(yE t).num/\(yE t).num < 18446744073709551616:=by
 obtain⟨k,x,m,ln,co,ks⟩:=t;have hN:=qQx hn;have hNe:=hN.2.2.2.2.2.mem;have hb:∀ u∈ks,0<=u.num/\u.num < 18446744073709551616:=fun u hu=>by
  have:=hNe u hu;obtain⟨uk,ux,um,ul,uc,uks⟩:=u;have:=qQx this;exact⟨this.2.2.1,this.2.2.2.1⟩
 rw[qKF]at h;obtain⟨_,h1⟩:=zN h;rcases ks with _ | ⟨u,_ | ⟨m',_ | ⟨z,r⟩⟩⟩
 ·cases h1
 ·obtain⟨y,_,h2,_⟩:=qK h1;obtain⟨u',r,hk',_,h3⟩:=qJB h2;simp only[qQ.kids,List.cons.injEq]at hk';obtain⟨rfl,rfl⟩:=hk';exact⟨⟨u,[],rfl⟩,fun _=>h3,hb u (by simp)⟩
 ·obtain⟨y,_,h2,_⟩:=qK h1;obtain⟨_,y2,_,h3,_⟩:=qK h2;obtain⟨_,y3,_,h4,_⟩:=qK h3;obtain⟨y4,_,h5,_⟩:=qK h4;obtain⟨h6,_⟩:=zN h5;simp only[bE]at h6;refine⟨⟨u,[m'],rfl⟩,fun e=>?_,hb m' (by simp)⟩;rw[show yE (.mk k x m ln co [u,m'])=m' from rfl,h6.1]at e;cases e
 ·cases h1
theorem pg_of{n:Nat}{t:qQ}{ws:List (List UInt8)}(h:qQO n t=some ws)(hn:qZl t)(hl:ws.length<=900000):PgOk t:=by
 obtain⟨k,x,m,ln,co,ks⟩:=t;have hN:=qQx hn;have hNe:=hN.2.2.2.2.2.mem;rw[qV9]at h;obtain⟨_,h1⟩:=zN h;have hk:∀ a∈ks,a.text.length<=1000000/\a.kids.length<=1000000:=fun a ha=>by
  have:=hNe a ha;obtain⟨ak,ax,am,al,ac,aks⟩:=a;have:=qQx this;exact⟨this.2.1,this.2.2.2.2.1⟩
 refine⟨hN.2.2.2.2.1,fun a ha=>?_,fun a ha hf=>?_⟩
 ·obtain⟨w,hw,hwl⟩:=qJM h1 a ha;refine⟨(hk a ha).1,(hk a ha).2,fun hf=>?_,fun hf=>?_⟩
  ·rw[hf]at hw;obtain⟨u,ps,z,e1,e2,_⟩:=qV3 hw (hNe a ha) (by omega);exact⟨u,ps,z,e1,e2⟩
  ·rw[hf]at hw;exact global_of hw (hNe a ha)
 ·obtain⟨w,hw,hwl⟩:=qJM h1 a ha;rw[hf]at hw;obtain⟨u,ps,z,e1,_,e3⟩:=qV3 hw (hNe a ha) (by omega);exact⟨by rw[e1];simp,(hk a ha).2,e3⟩
end Go.Proofs.YtiajhekdhhhghaaGreatDoor
