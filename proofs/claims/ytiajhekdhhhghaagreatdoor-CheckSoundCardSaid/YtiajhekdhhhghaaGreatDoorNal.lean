/- Walks. -/
import Derived.Lib.Join
import Derived.Lib.Builder
import Derived.Lib.AppendStr
import Derived.Laws.Externs
import Derived.Test.YtiajhekdhhhghaaGreatDoorNak
set_option linter.all false
set_option maxHeartbeats 8000000
set_option maxRecDepth 100000
namespace Go.Proofs.YtiajhekdhhhghaaGreatDoor
open Tryz Go.Proofs.Tryz
open Go
def qZ5:List qWi->List UInt8
 | []=>[]
 | t :: r=>(if t.kind=3 then []else 32 :: t.text)++qZ5 r
def qYl:List qWi->List UInt8
 | []=>[]
 | t :: r=>(if t.kind=3 then []else t.text)++qZ5 r
def qPa(y:List UInt8):Prop:=y=[]\/∃ z,y=32 :: z
theorem span_take{p:Int->Bool}(l y:List UInt8)(j:xQ p y=0):xQ p (l.take (xQ p l)++y)=xQ p l:=by
 induction l with
 | nil=>simpa[xQ]using j
 | cons a r ih =>
  rw[xQ];cases h:p (a.toNat:Int)with
  | true=>simp only[if_true];rw[List.take_succ_cons,lC,xQ,h,if_pos rfl,ih]
  | false=>simpa using j
theorem qLN{y:List UInt8}(h:qPa y):xQ qQZ y=0:=by
 rcases h with rfl | ⟨z,rfl⟩
 ·rfl
 ·exact qLS (by decide)
theorem qUV{y:List UInt8}(j:qPa y)(g s:List UInt8)(hg:(32:UInt8)∉g):Lib.hasPrefix (s++y) g=Lib.hasPrefix s g:=by
 rcases j with rfl | ⟨z,rfl⟩
 ·rw[lA]
 ·exact qYK g s hg
theorem qP1{l g:List UInt8}(n:Nat)(h:Lib.hasPrefix (l.take n) g=true):Lib.hasPrefix l g=true:=by
 unfold Lib.hasPrefix at *;rw[List.isPrefixOf_iff_prefix]at *;exact h.trans (List.take_prefix n l)
theorem sign_take{y:List UInt8}(A:qPa y)(l:List UInt8)(gs:List (List UInt8))(hg:∀ g∈gs,(32:UInt8)∉g)(o:vK l gs≠0) :
 vK (l.take (vK l gs)++y) gs=vK l gs:=by
 induction gs with
 | nil=>exact absurd rfl o
 | cons g r ih =>
  rw[vK]at o ⊢;rw[vK,qUV A g _ (hg g (by simp))];cases hp:Lib.hasPrefix l g with
  | true =>
   simp only[if_true];have j:g <+: l:=List.isPrefixOf_iff_prefix.mp hp;have e:l.take g.length=g:=(List.prefix_iff_eq_take.mp j).symm;have:Lib.hasPrefix (l.take g.length) g=true:=by
    rw[e];exact List.isPrefixOf_iff_prefix.mpr (List.prefix_refl g)
   rw[if_pos this]
  | false =>
   have e0:(if false=true then g.length else vK l r)=vK l r:=if_neg (by decide);rw[e0];rw[hp,e0]at o;have s:Lib.hasPrefix (l.take (vK l r)) g=false:=by
    cases z:Lib.hasPrefix (l.take (vK l r)) g with
    | false=>rfl
    | true=>rw[qP1 _ z]at hp;cases hp
   rw[s,if_neg (by decide)];exact ih (fun x hx=>hg x (by simp[hx])) o
theorem qLb(r:List UInt8):qZ6 (47 :: r)=1:=by
 simp[qZ6,qQv,vK,Lib.hasPrefix,List.isPrefixOf]
theorem again{b:UInt8}{l y:List UInt8}(C:qPa y)(hb:yK (b.toNat:Int)=false)(hc:Lib.hasPrefix (b :: l) cmt=false)(I:wK (b :: l)=0) :
 qZp ((b :: l).take (zZ (b :: l))++y)=(qZp y).map (qYO (b :: l) :: ·):=by
 have hp:=qQW I;have V:=wG (b :: l);obtain⟨n,X⟩:∃ n,zZ (b :: l)=n+1:=⟨zZ (b :: l) - 1,by omega⟩;have j:(b :: l).take (zZ (b :: l))++y=b :: (l.take n++y):=by rw[X,List.take_succ_cons,lC]
 have G:vA (b :: (l.take n++y))=vA (b :: l):=rfl;have hN:zZ (b :: (l.take n++y))=zZ (b :: l):=by
  have s:qZx (b.toNat:Int)=true\/qQa (b.toNat:Int) < 10->xQ qQZ (b :: (l.take n++y))=xQ qQZ (b :: l):=fun o=>by
   have e:zZ (b :: l)=xQ qQZ (b :: l):=by
    rw[zZ];by_cases s:qZx (b.toNat:Int)=true
    ·rw[if_pos s]
    ·rw[if_neg s,if_pos (o.resolve_left s)]
   rw[<-j,e];exact span_take _ _ (qLN C)
  have h2:¬(qZx (b.toNat:Int)=true)->¬qQa (b.toNat:Int) < 10->qZ6 (b :: (l.take n++y))=qZ6 (b :: l):=fun g1 g2=>by
   have e:zZ (b :: l)=qZ6 (b :: l):=by rw[zZ,if_neg g1,if_neg g2]
   rw[<-j,e];exact sign_take C _ _ (qLc (by decide)) (by rw[e]at hp;unfold qZ6 at hp;omega)
  rw[zZ,zZ];by_cases g1:qZx (b.toNat:Int)=true
  ·rw[if_pos g1,if_pos g1];exact s (.inl g1)
  ·rw[if_neg g1,if_neg g1];by_cases g2:qQa (b.toNat:Int) < 10
   ·rw[if_pos g2,if_pos g2];exact s (.inr g2)
   ·rw[if_neg g2,if_neg g2];exact h2 g1 g2
 have J:((b :: l).take (zZ (b :: l))).length=zZ (b :: l):=by rw[List.length_take];omega
 have hT:(b :: (l.take n++y)).take (zZ (b :: l))=(b :: l).take (zZ (b :: l)):=by
  rw[<-j,List.take_append_of_le_length (by omega),List.take_of_length_le (by omega)]
 have R:(b :: (l.take n++y)).drop (zZ (b :: l))=y:=by
  rw[<-j,List.drop_append_of_le_length (by omega),List.drop_of_length_le (by omega),lN]
 have U:wK (b :: (l.take n++y))=wK (b :: l):=by unfold wK;rw[G,hN,hT]
 have hB:qYO (b :: (l.take n++y))=qYO (b :: l):=by unfold qYO;rw[G,hN,hT]
 have O:Lib.hasPrefix (b :: (l.take n++y)) cmt=false:=by
  cases o:Lib.hasPrefix (b :: (l.take n++y)) cmt with
  | false=>rfl
  | true =>
   exfalso;have A:b=47:=by
    unfold Lib.hasPrefix cmt at o;simp[List.isPrefixOf]at o;exact o.1.symm
   subst A;have Y:zZ (47 :: l)=1:=by
    rw[zZ,if_neg (by decide),if_neg (by decide)];exact qLb l
   obtain rfl:n=0:=by omega
   rcases C with rfl | ⟨z,rfl⟩
   ·simp[Lib.hasPrefix,cmt,List.isPrefixOf]at o
   ·simp[Lib.hasPrefix,cmt,List.isPrefixOf]at o
 rw[j,bare_tok hb O,U,if_pos I,hN,R,hB]
theorem qVA(l:List UInt8):¬vA l=3:=by have:=qY9 l;omega
theorem strip_gap(n:Nat)(l:List UInt8)(j:l.length<=n):qQC (strip l)=0:=by
 induction n generalizing l with
 | zero =>
  obtain rfl:l=[]:=List.length_eq_zero_iff.mp (by omega);rfl
 | succ n ih =>
  by_cases h:qQC l=0
  ·rw[qYr h];exact h
  ·rw[qYq h];exact ih _ (by rw[List.length_drop];omega)
theorem gap_head{b:UInt8}{l:List UInt8}(h:qQC (b :: l)=0):yK (b.toNat:Int)=false/\Lib.hasPrefix (b :: l) cmt=false:=by
 unfold qQC at h;cases hc:Lib.hasPrefix (b :: l) cmt with
 | true =>
  rw[hc,if_pos rfl,xQ]at h;have j:b=47:=by
   unfold Lib.hasPrefix cmt at hc;cases l with
   | nil=>simp[List.isPrefixOf]at hc
   | cons c r=>simp[List.isPrefixOf]at hc;exact hc.1.symm
  subst j;rw[if_pos (by decide)]at h;omega
 | false =>
  refine⟨?_,rfl⟩;rw[hc,if_neg (by decide),xQ]at h;cases hb:yK (b.toNat:Int)with
  | false=>rfl
  | true=>rw[hb,if_pos rfl]at h;omega
theorem shown(n:Nat)(l:List UInt8)(I:l.length<=n)(ts:List qWi)(h:qZp l=some ts) :
 (qPa (qZ5 ts)/\qZp (qZ5 ts)=some ts/\qZp (qYl ts)=some ts):=by
 induction n generalizing l ts with
 | zero =>
  obtain rfl:l=[]:=List.length_eq_zero_iff.mp (by omega);have e:qZp []=some [⟨3,[],0⟩]:=rfl;rw[e]at h;cases h;exact⟨.inl rfl,rfl,rfl⟩
 | succ n ih =>
  rw[qKW]at h;by_cases s:strip l=[]
  ·rw[if_pos s]at h;cases h;exact⟨.inl rfl,rfl,rfl⟩
  ·rw[if_neg s]at h;have hg:=strip_gap _ l (Nat.le_refl _);have y:(strip l).length<=l.length:=by
    have:=qZT l.length l 1 1;exact this
   cases hs:strip l with
   | nil=>exact absurd hs s
   | cons b r =>
    rw[hs]at h hg y;by_cases o:wK (b :: r)=0
    ·rw[if_pos o]at h;have hp:=qQW o;obtain⟨hb,hc⟩:=gap_head hg;cases hr:qZp ((b :: r).drop (zZ (b :: r)))with
     | none=>rw[hr]at h;cases h
     | some ts' =>
      rw[hr]at h;cases h;obtain⟨C,G,_⟩:=ih _ (by rw[List.length_drop];omega) ts' hr;have A:(qYO (b :: r)).kind=vA (b :: r):=rfl;have ht:(qYO (b :: r)).text=(b :: r).take (zZ (b :: r)):=rfl;have j:=again C hb hc o;rw[G]at j;have z:qZ5 (qYO (b :: r) :: ts')=32 :: ((b :: r).take (zZ (b :: r))++qZ5 ts'):=by
       rw[qZ5,if_neg (by rw[A];exact qVA _),ht,lC]
      have e2:qYl (qYO (b :: r) :: ts')=(b :: r).take (zZ (b :: r))++qZ5 ts':=by
       rw[qYl,if_neg (by rw[A];exact qVA _),ht]
      refine⟨.inr ⟨_,z⟩,?_,?_⟩
      ·rw[z,qLO (by decide),j];rfl
      ·rw[e2,j];rfl
    ·rw[if_neg o]at h;cases h
open Go Go.RowKit
def kN(w:List UInt8):Bool:=match w with
 | []=>false
 | b :: _=>!yK b.toNat && (!Lib.hasPrefix w cmt && (wK w == 0 && zZ w == w.length))
theorem qYm{p:Int->Bool}:∀ (l:List UInt8),(∀ b∈l,p (b.toNat:Int)=true)->xQ p l=l.length
 | [],_=>rfl
 | b :: r,h=>by
  rw[xQ,if_pos (h b (by simp)),qYm r (fun c hc=>h c (by simp[hc]))];rfl
theorem qUt:∀ (i:Nat) (l:List UInt8),qQ0 i l=true->∀ b∈l,qQZ (b.toNat:Int)=true
 | _,[],_,b,hb=>by simp at hb
 | i,c :: r,h,b,hb=>by
  simp only[qQ0,bE,Bool.or_eq_true]at h;rcases List.mem_cons.1 hb with rfl | hb
  ·unfold qQZ;rcases h.1 with j | j
   ·simp[j]
   ·have:=j.1;simp only[qPv,decide_eq_true_eq]at this;have hd:qQa (b.toNat:Int) < 10:=by unfold qQa;rw[if_pos this];omega
    simp[hd]
  ·exact qUt (i+1) r h.2 b hb
theorem qU8{b:UInt8}{r:List UInt8}(hs:qQ0 0 (b :: r)=true):kN (b :: r)=true:=by
 have hl:qZx (b.toNat:Int)=true:=by
  simp only[qQ0,bE,Bool.or_eq_true]at hs;rcases hs.1 with h | h
  ·exact h
  ·simp at h
 have o:zZ (b :: r)=(b :: r).length:=by
  rw[zZ,if_pos hl];exact qYm _ (qUt 0 _ hs)
 have hb:yK (b.toNat:Int)=false:=by
  unfold qZx at hl;unfold yK;simp only[decide_eq_true_eq]at hl;simp only[decide_eq_false_iff_not];omega
 have hc:Lib.hasPrefix (b :: r) cmt=false:=by
  cases j:Lib.hasPrefix (b :: r) cmt with
  | false=>rfl
  | true =>
   exfalso;have:b=47:=by
    unfold Lib.hasPrefix cmt at j;cases r with
    | nil=>simp[List.isPrefixOf]at j
    | cons c r=>simp[List.isPrefixOf]at j;exact j.1.symm
   subst this;revert hl
   decide
 have s:wK (b :: r)=0:=by
  unfold wK;rw[o,if_neg (by simp),show vA (b :: r)=0 by simp[vA,hl],if_neg (by decide)]
 simp only[kN,hb,hc,s,o];simp
theorem qKg{x:List UInt8}(h:jH x=true):kN x=true:=by
 have hs:qQ0 0 x=true:=by
  unfold jH at h;simp only[bE]at h;exact h.1
 obtain⟨b,r,rfl,_,_⟩:=name_parts h;exact qU8 hs
theorem word_dec(u:Nat)(G:u<=18446744073709551615):kN (Lib.decDigits u)=true:=by
 have j:=qUI u;have y:=dec_kind u;have o:=dec_num u G;obtain⟨b,r,e,A,h2⟩:=qPr u;rw[e]at j y o ⊢;have hl:qZx (b.toNat:Int)=false:=by unfold qZx;simp;omega
 have hd:qQa (b.toNat:Int) < 10:=by unfold qQa;rw[if_pos (by omega)];omega
 have z:zZ (b :: r)=(b :: r).length:=by
  rw[zZ,if_neg (by simp[hl]),if_pos hd];refine qYm _ fun c hc=>?_
  have:=j c hc;have hd:qQa (c.toNat:Int) < 10:=by unfold qQa;rw[if_pos (by omega)];omega
  unfold qQZ;simp[hd]
 have hb:yK (b.toNat:Int)=false:=by
  unfold yK;simp only[decide_eq_false_iff_not];omega
 have hc:Lib.hasPrefix (b :: r) cmt=false:=by
  cases s:Lib.hasPrefix (b :: r) cmt with
  | false=>rfl
  | true =>
   exfalso;have:b=47:=by
    unfold Lib.hasPrefix cmt at s;cases r with
    | nil=>simp[List.isPrefixOf]at s
    | cons c r=>simp[List.isPrefixOf]at s;exact s.1.symm
   subst this;revert A
   decide
 have C:wK (b :: r)=0:=by
  unfold wK;rw[z,if_neg (by simp),y,if_pos rfl,List.take_length,o];rfl
 simp only[kN,hb,hc,C,z];simp
def shT(ws:List (List UInt8)):List UInt8:=(ws.map fun w=>32 :: w).flatten
theorem showS_cons(w:List UInt8)(r:List (List UInt8)):Lib.join (w :: r) [32]=w++shT r:=by
 rw[Lib.join_cons];rfl
def yI:List (List UInt8)->Nat
 | []=>0
 | w :: r=>w.length+1+yI r
theorem zH:∀ (a b:List (List UInt8)),yI (a++b)=yI a+yI b
 | [],b=>by simp[yI]
 | w :: r,b=>by rw[lC,yI,yI,zH r b];omega
theorem qPM:∀ (ws:List (List UInt8)),ws.length<=yI ws
 | []=>by simp
 | w :: r=>by have:=qPM r;rw[yI,lO];omega
theorem shT_len:∀ (ws:List (List UInt8)),(shT ws).length=yI ws
 | []=>rfl
 | w :: r=>by
  have e:shT (w :: r)=32 :: (w++shT r):=by simp[shT]
  rw[e,lO,lL,shT_len r,yI];omega
theorem show_len(ws:List (List UInt8)):(Lib.join ws [32]).length<=yI ws:=by
 cases ws with
 | nil=>simp[Lib.join_nil]
 | cons w r=>rw[showS_cons,lL,shT_len,yI];omega
theorem yU{t:qQ}{ks:List qQ}(h:t∈ks)(k x:List UInt8)(n l c:Int):vZ t+1<=vZ (.mk k x n l c ks):=by
 have:=qPu h 0;rw[vZ];omega
section
variable {D:Prop} {m:Nat}
end
structure qWC(t:Tok):Prop where
 name:t.kind=0->qQ0 0 t.text=true
 num:t.kind=1->0<=t.num/\t.num < 18446744073709551616/\(Lib.decDigits t.num.toNat).length<=2 * t.text.length
 len:t.text.length<=65536
 ne:t.kind≠3->t.text≠[]
def ch:List Tok->Nat
 | []=>0
 | t :: r=>t.text.length+ch r
def yT(l:List Tok):Prop:=(∀ t∈l,qWC t)/\ch l<=1000000
def PI{α:Type}(S:α->Nat->Prop)(l:List Tok)(p:PR α):Prop:=∀ a l',p=.ok a l'->yT l'/\∃ k,ch l=ch l'+k/\S a k
section
variable {α β:Type} {S:α->Nat->Prop} {S':β->Nat->Prop} {l:List Tok}
theorem PI.ok{a:α}(hl:yT l)(h:S a 0):PI S l (.ok a l):=fun a' l' e=>by injection e with e1 e2;subst e1 e2;exact⟨hl,0,rfl,h⟩
theorem PI.bad(x y c:Int):PI S l (.bad x y c):=fun _ _ e=>by cases e
theorem PI.o:PI S l .out:=fun _ _ e=>by cases e
theorem PI.bind{p:PR α}{f:α->List Tok->PR β}(h:PI S l p)(hf:∀ a l1 k,yT l1->ch l=ch l1+k->S a k->PI (fun b j=>S' b (k+j)) l1 (f a l1)):PI S' l (p.bind f):=by
 intro b l2 e;cases p with
 | ok a l1 =>
  obtain⟨o,k,h2,h3⟩:=h a l1 rfl;obtain⟨h4,j,z,s⟩:=hf a l1 k o h2 h3 b l2 e;exact⟨h4,k+j,by omega,s⟩
 | bad x y c=>cases e
 | out=>cases e
theorem PI.mono{j:α->Nat->Prop}{p:PR α}(h:PI S l p)(hs:∀ a k,S a k->j a k):PI j l p:=fun a l' e=>by
 obtain⟨o,k,h2,h3⟩:=h a l' e;exact⟨o,k,h2,hs a k h3⟩
end
theorem qQV{j:Bool}{l:List Tok}(hl:yT l):PI (fun t k=>t=hdT l/\j=true/\qWC t/\k=t.text.length) l (jV j l):=by
 cases l with
 | nil=>exact PI.bad _ _ _
 | cons t r =>
  rw[jV];cases j
  ·exact PI.bad _ _ _
  ·intro a l' e;injection e with e1 e2;subst e1 e2;exact⟨⟨fun u hu=>hl.1 u (by simp[hu]),by have:=hl.2;rw[ch]at this;omega⟩,t.text.length,by rw[ch];omega,rfl,rfl,hl.1 t (by simp),rfl⟩
theorem xB(x:List UInt8){l:List Tok}(hl:yT l):PI (fun _ k=>k=x.length) l (jL [x] l):=by
 unfold jL;refine(qQV hl).bind fun t l1 k h1 _ h=>?_
 obtain⟨rfl,hm,_,rfl⟩:=h;have:(hdT l).text=x:=by simpa using hm
 rw[this];exact PI.ok h1 rfl
theorem pi_pass:∀ (xs:List (List UInt8)) {l:List Tok},yT l->PI (fun _ k=>xs.length<=k\/(∃ x∈xs,x=[])) l (jL xs l)
 | [],_,hl=>PI.ok hl (.inl (by simp))
 | x :: xs,l,hl=>by
  unfold jL;refine(qQV hl).bind fun t l1 k h1 _ h=>?_
  obtain⟨rfl,hm,_,rfl⟩:=h;have:(hdT l).text=x:=by simpa using hm
  refine(pi_pass xs h1).mono fun _ k2 h2=>?_
  rw[this];rcases h2 with h2 | ⟨y,j,e⟩
  ·cases x with
   | nil=>exact .inr ⟨[],by simp,rfl⟩
   | cons b r=>exact .inl (by simp;omega)
  ·exact .inr ⟨y,by simp[j],e⟩
theorem qW5(xs:List (List UInt8))(j:∀ x∈xs,x≠[]){l:List Tok}(hl:yT l):PI (fun _ k=>xs.length<=k) l (jL xs l) :=
 (pi_pass xs hl).mono fun _ _ h=>h.resolve_right fun⟨x,h1,h2⟩=>j x h1 h2
theorem qZh{S:qQ->Nat->Prop}{d:Int}{p:Int->List Tok->PR qQ}{l:List Tok}(h:PI S l (p (d+1) l)):PI S l (xX d p l):=by
 unfold xX;split
 ·exact PI.bad _ _ _
 ·exact h
def PL(P:qQ->Nat->Prop):List qQ->Nat->Prop
 | [],_=>True
 | t :: r,k=>∃ k1 k2,P t k1/\PL P r k2/\k1+k2<=k
theorem PL.snoc{P:qQ->Nat->Prop}{t:qQ}{j:Nat}(h2:P t j):∀ {ts:List qQ} {k1:Nat},PL P ts k1->PL P (ts++[t]) (k1+j)
 | [],k1,_=>⟨j,0,h2,trivial,by omega⟩
 | _ :: _,_,⟨a,b,h3,h4,h5⟩=>⟨a,b+j,h3,PL.snoc h2 h4,by omega⟩
theorem PL.len{P:qQ->Nat->Prop}(hp:∀ t k,P t k->1<=k):∀ {ts:List qQ} {k:Nat},PL P ts k->ts.length<=k
 | [],_,_=>by simp
 | t :: r,_,⟨a,b,h1,h2,h3⟩=>by have:=hp t a h1;have:=PL.len hp h2;simp;omega
theorem PL.mem{P:qQ->Nat->Prop}:∀ {ts:List qQ} {k:Nat},PL P ts k->∀ t∈ts,∃ k1,P t k1
 | t :: r,_,⟨a,b,h1,h2,_⟩,u,j=>by
  rcases List.mem_cons.1 j with rfl | j
  ·exact⟨a,h1⟩
  ·exact PL.mem h2 u j
 | [],_,_,u,j=>by simp at j
theorem qWr{P:qQ->Nat->Prop}{stop:Tok->Bool}{p:List Tok->PR qQ}(hp:∀ l,yT l->PI P l (p l)):∀ (n:Nat) (acc:List qQ) (l:List Tok) (j:Nat),yT l->PL P acc j->PI (fun ts k=>PL P ts (j+k)) l (vI stop p n acc l)
 | 0,_,_,_,_,_=>PI.o
 | n+1,acc,l,j,hl,ha=>by
  rw[vI];split
  ·exact PI.ok hl ha
  ·refine(hp l hl).bind fun t l1 k h1 _ h=>?_
   exact(qWr hp n (acc++[t]) l1 (j+k) h1 (ha.snoc h)).mono fun ts k2 h2=>by rw[<-Nat.add_assoc];exact h2
/-! ### What can be shown -/
def PW(f:(WT->qQ->Ws)->qQ->Ws)(add:Nat)(t:qQ)(k:Nat):Prop:=vZ t<=k/\qZl t/\∀ m,vZ t<=m+1->∃ ws,f (qZB m) t=some ws/\(∀ w∈ws,kN w=true)/\yI ws+add<=7 * k
theorem PW.more{f:(WT->qQ->Ws)->qQ->Ws}{add:Nat}{t:qQ}{k j:Nat}(h:PW f add t k)(s:k<=j):PW f add t j :=
 ⟨Nat.le_trans h.1 s,h.2.1,fun m hm=>by obtain⟨ws,o,h2,h3⟩:=h.2.2 m hm;exact⟨ws,o,h2,by omega⟩⟩
abbrev EW:qQ->Nat->Prop:=PW qY7 4
theorem qJD(t:qQ):1<=vZ t:=by cases t;rw[vZ];omega
theorem qY5:∀ (ts:List qQ) (m j:Nat),m<=j->(∀ t∈ts,vZ t<=j)->qKn m ts<=j
 | [],m,j,h,_=>by rw[qKn];exact h
 | t :: r,m,j,h,ht=>by
  rw[qKn];exact qY5 r _ j (Nat.max_le.2 ⟨h,ht t (by simp)⟩) (fun u hu=>ht u (by simp[hu]))
theorem qVZ{k x:List UInt8}{n l c:Int}{ks:List qQ}{j:Nat}(o:1<=j)(h:∀ t∈ks,vZ t+1<=j):vZ (.mk k x n l c ks)<=j:=by
 have:=qY5 ks 0 (j - 1) (by omega) (fun t ht=>by have:=h t ht;omega);rw[vZ];omega
theorem qJC{k x:List UInt8}{n l c:Int}{j:Nat}(h:1<=j):vZ (.mk k x n l c [])<=j:=qVZ h (fun t ht=>by simp at ht)
theorem qK1{k x:List UInt8}{n l c:Int}{a:qQ}{j:Nat}(h:vZ a+1<=j):vZ (.mk k x n l c [a])<=j:=qVZ (by omega) (fun t ht=>by obtain rfl:t=a:=(by simpa using ht);exact h)
theorem qY4{k x:List UInt8}{n l c:Int}{a b:qQ}{j:Nat}(h:vZ a+1<=j)(h2:vZ b+1<=j):vZ (.mk k x n l c [a,b])<=j:=qVZ (by omega) (fun t ht=>by
 simp only[List.mem_cons,List.not_mem_nil,or_false]at ht;rcases ht with rfl | rfl
 ·exact h
 ·exact h2)
theorem deep3{k x:List UInt8}{n l c:Int}{a b d:qQ}{j:Nat}(h:vZ a+1<=j)(h2:vZ b+1<=j)(h3:vZ d+1<=j):vZ (.mk k x n l c [a,b,d])<=j:=qVZ (by omega) (fun t ht=>by
 simp only[List.mem_cons,List.not_mem_nil,or_false]at ht;rcases ht with rfl | rfl | rfl
 ·exact h
 ·exact h2
 ·exact h3)
theorem PL.memle{P:qQ->Nat->Prop}:∀ {ts:List qQ} {k:Nat},PL P ts k->∀ t∈ts,∃ k1,P t k1/\k1<=k
 | t :: r,_,⟨a,b,h1,h2,_⟩,u,j=>by
  rcases List.mem_cons.1 j with rfl | j
  ·exact⟨a,h1,by omega⟩
  ·obtain⟨k1,h3,h4⟩:=PL.memle h2 u j;exact⟨k1,h3,by omega⟩
 | [],_,_,u,j=>by simp at j
theorem EW.rec{t:qQ}{k:Nat}(h:EW t k){m:Nat}(hm:vZ t<=m):∃ ws,qZB m .expr t=some ws/\(∀ w∈ws,kN w=true)/\yI ws+4<=7 * k:=by
 have:=qJD t;obtain⟨j,rfl⟩:∃ j,m=j+1:=⟨m - 1,by omega⟩;exact h.2.2 j hm
theorem EW.operand{t:qQ}{k:Nat}(h:EW t k){m:Nat}(hm:vZ t<=m):∃ ws,wZ (qZB m) t=some ws/\(∀ w∈ws,kN w=true)/\yI ws<=7 * k:=by
 obtain⟨ws,o,h2,h3⟩:=h.rec hm;unfold wZ;split
 ·refine⟨[[40]]++(ws++[[41]]),by rw[o];rfl,fun w j=>?_,by rw[zH,zH];simp[yI];omega⟩;simp only[List.mem_append,List.mem_singleton]at j;rcases j with rfl | j | rfl
  ·decide
  ·exact h2 w j
  ·decide
 ·exact⟨ws,o,h2,by omega⟩
theorem qUR{t:Tok}(ht:qWC t)(h:kR t=true):jH t.text=true/\1<=t.text.length:=by
 simp only[kR,bE,beq_iff_eq,Bool.not_eq_true']at h;have j:=ht.name h.1;have h2:=ht.ne (by rw[h.1];decide);refine⟨?_,by cases o:t.text with | nil=>exact absurd o h2 | cons b r=>simp⟩;unfold jH;rw[j,h.2];simpa using h2
theorem qXh{x:List UInt8}(h:yG x=true):kN x=true/\2<=x.length/\x.length<=4:=by
 have j:∀ y∈qQw,kN y=true/\2<=y.length/\y.length<=4:=by decide
 exact j x (type_in h)
theorem op_word{x:List UInt8}(h:0<=xL x):kN x=true/\1<=x.length/\x.length<=2:=by
 have j:∀ y∈([[124,124],[38,38],[124],[94],[38],[61,61],[33,61],[60],[60,61],[62],[62,61],[60,60],[62,62],[43],[45],[42],[47],[37]]:List (List UInt8)),kN y=true/\1<=y.length/\y.length<=2:=by decide
 exact j x (op_in h)
theorem jP{a b:List (List UInt8)}(j:∀ w∈a,kN w=true)(hb:∀ w∈b,kN w=true):∀ w∈a++b,kN w=true:=fun w hw=>by
 rcases List.mem_append.1 hw with h | h
 ·exact j w h
 ·exact hb w h
theorem xI{a:List (List UInt8)}(h:(a.all fun w=>kN w)=true):∀ w∈a,kN w=true:=fun w hw=>by
 rw[List.all_eq_true]at h;exact h w hw
theorem ew_name{x:List UInt8}(j:jH x=true)(o:1<=x.length)(h2:x.length<=65536)(ln co:Int):PW wU 4 (.mk zM x 0 ln co []) x.length:=by
 refine⟨qJC o,⟨by decide,by omega,by decide,by decide,by simp,trivial⟩,fun m _=>⟨[x],?_,fun w hw=>?_,by simp[yI];omega⟩⟩
 ·rw[qKN,if_neg (by decide)];simp[ifW,j]
 ·obtain rfl:w=x:=by simpa using hw
  exact qKg j
theorem ew_index{x:List UInt8}(o:jH x=true)(y:1<=x.length)(h2:x.length<=65536)(ln co:Int){e:qQ}{k s:Nat}(j:EW e k)(A:x.length+2+k<=s):PW wU 4 (.mk qL x 0 ln co [e]) s:=by
 refine⟨qK1 (by have:=j.1;omega),⟨by decide,by omega,by decide,by decide,by simp,j.2.1,trivial⟩,fun m hm=>?_⟩;have hd:=yU (t:=e) (ks:=[e]) (by simp) qL x 0 ln co;obtain⟨ws,h3,h4,z⟩:=j.rec (m:=m) (by omega);refine⟨[x,[91]]++(ws++[[93]]),?_,jP (fun w hw=>?_) (jP h4 (xI (by decide))),by rw[zH,zH];simp[yI];omega⟩
 ·rw[qKN,if_pos (by decide)];simp[ifW,o,jD,h3]
 ·simp only[List.mem_cons,List.not_mem_nil,or_false]at hw;rcases hw with rfl | rfl
  ·exact qKg o
  ·decide
theorem qLg{t:qQ}{k:Nat}(h:PW wU 4 t k)(o:t.kind=zM\/t.kind=qL):EW t k:=by
 refine⟨h.1,h.2.1,fun m hm=>?_⟩;obtain⟨ws,j,h2,h3⟩:=h.2.2 m hm;refine⟨ws,?_,h2,h3⟩;rw[<-j];cases t with
 | mk k x n l c ks =>
  rw[qX0];rcases o with rfl | rfl <;> (rw[if_neg (by decide),if_neg (by decide),if_neg (by decide),if_neg (by decide),if_neg (by decide)])
theorem ew_num(t:Tok)(ht:qWC t)(y:t.kind=1):EW (.mk zD [] t.num t.line t.col []) t.text.length/\PW (fun _=>qZy) 4 (.mk zD [] t.num t.line t.col []) t.text.length:=by
 obtain⟨z,A,h2⟩:=ht.num y;have s:=ht.ne (by rw[y];decide);have hl:1<=t.text.length:=by cases C:t.text with | nil=>exact absurd C s | cons b r=>simp
 have hN:qZl (.mk zD [] t.num t.line t.col []):=⟨by decide,by simp,z,A,by simp,trivial⟩;have o:∀ w∈[Lib.decDigits t.num.toNat],kN w=true:=fun w o=>by
  obtain rfl:w=_:=by simpa using o
  exact word_dec _ (by omega)
 have j:yI [Lib.decDigits t.num.toNat]+4<=7 * t.text.length:=by simp[yI];omega
 have e:qZy (.mk zD [] t.num t.line t.col [])=some [Lib.decDigits t.num.toNat]:=by rw[qWZ];rfl
 refine⟨⟨qJC hl,hN,fun m _=>⟨_,?_,o,j⟩⟩,⟨qJC hl,hN,fun m _=>⟨_,e,o,j⟩⟩⟩;rw[qX0,if_neg (by decide),if_neg (by decide),if_neg (by decide),if_neg (by decide),if_pos (by decide),e]
theorem ew_true{x:List UInt8}(h:(x == zL || x == qH)=true)(ln co:Int):EW (.mk x [] 0 ln co []) x.length:=by
 simp only[Bool.or_eq_true,beq_iff_eq]at h;rcases h with rfl | rfl
 ·exact⟨qJC (by decide),⟨by decide,by simp,by decide,by decide,by simp,trivial⟩,fun m _=>⟨[zL],rfl,xI (by decide),by decide⟩⟩
 ·exact⟨qJC (by decide),⟨by decide,by simp,by decide,by decide,by simp,trivial⟩,fun m _=>⟨[qH],rfl,xI (by decide),by decide⟩⟩
theorem ew_unary{x:List UInt8}(h:qXD x=true)(ln co:Int){e:qQ}{k o:Nat}(j:EW e k)(z:1+k<=o):EW (.mk qT x 0 ln co [e]) o:=by
 have s:x.length=1/\kN x=true:=by rcases qLj h with rfl | rfl | rfl <;> decide
 refine⟨qK1 (by have:=j.1;omega),⟨by decide,by omega,by decide,by decide,by simp,j.2.1,trivial⟩,fun m hm=>?_⟩;have hd:=yU (t:=e) (ks:=[e]) (by simp) qT x 0 ln co;obtain⟨ws,h3,h4,y⟩:=j.operand (m:=m) (by omega);refine⟨[x]++ws,?_,jP (fun w hw=>by obtain rfl:w=x:=(by simpa using hw);exact s.2) h4,by rw[zH];simp[yI];omega⟩;rw[qX0,if_neg (by decide),if_pos (by decide)];simp[ifW,h,jD,h3]
theorem ew_cast{x:List UInt8}(h:yG x=true)(ln co:Int){e:qQ}{k o:Nat}(j:EW e k)(A:x.length+2+k<=o):EW (.mk zK x 0 ln co [e]) o:=by
 obtain⟨s,y,h2⟩:=qXh h;refine⟨qK1 (by have:=j.1;omega),⟨by decide,by omega,by decide,by decide,by simp,j.2.1,trivial⟩,fun m hm=>?_⟩;have hd:=yU (t:=e) (ks:=[e]) (by simp) zK x 0 ln co;obtain⟨ws,h3,h4,z⟩:=j.operand (m:=m) (by omega);refine⟨[[40],x,[41]]++ws,?_,jP (fun w hw'=>?_) h4,by rw[zH];simp[yI];omega⟩
 ·rw[qX0,if_neg (by decide),if_neg (by decide),if_pos (by decide)];simp[ifW,h,jD,h3]
 ·simp only[List.mem_cons,List.not_mem_nil,or_false]at hw';rcases hw' with rfl | rfl | rfl
  ·decide
  ·exact s
  ·decide
theorem ew_binary{x:List UInt8}(h:0<=xL x)(ln co:Int){a b:qQ}{k1 s o:Nat}(j:EW a k1)(hb:EW b s)(U:k1+x.length+s<=o):EW (.mk qM x 0 ln co [a,b]) o:=by
 obtain⟨C,J,h2⟩:=op_word h;refine⟨qY4 (by have:=j.1;omega) (by have:=hb.1;omega),⟨by decide,by omega,by decide,by decide,by simp,j.2.1,hb.2.1,trivial⟩,fun m hm=>?_⟩;have hd:=yU (t:=a) (ks:=[a,b]) (by simp) qM x 0 ln co;have A:=yU (t:=b) (ks:=[a,b]) (by simp) qM x 0 ln co;obtain⟨G,h3,h4,O⟩:=j.operand (m:=m) (by omega);obtain⟨I,y,z,R⟩:=hb.operand (m:=m) (by omega);refine⟨G++([x]++I),?_,jP h4 (jP (fun w hw'=>by obtain rfl:w=x:=(by simpa using hw');exact C) z),by rw[zH,zH];simp[yI];omega⟩;rw[qX0,if_pos (by decide)];simp[ifW,h,jD,h3,y]
abbrev BW:qQ->Nat->Prop:=PW qVv 0
theorem BW.rec{t:qQ}{k:Nat}(h:BW t k){m:Nat}(hm:vZ t<=m):∃ ws,qZB m .block t=some ws/\(∀ w∈ws,kN w=true)/\yI ws<=7 * k:=by
 have:=qJD t;obtain⟨j,rfl⟩:∃ j,m=j+1:=⟨m - 1,by omega⟩;exact h.2.2 j hm
theorem com_w{P:qQ->Nat->Prop}{g:qQ->Ws}(hp:∀ t k,P t k->∃ ws,g t=some ws/\(∀ w∈ws,kN w=true)/\yI ws+4<=7 * k):∀ {ts:List qQ} {k:Nat},PL P ts k->(∃ ws,qKp g ts=some ws/\(∀ w∈ws,kN w=true)/\yI ws<=7 * k)/\∃ ws,wO g ts=some ws/\(∀ w∈ws,kN w=true)/\yI ws<=7 * k
 | [],_,_=>⟨⟨[],rfl,fun w hw=>by simp at hw,by simp[yI]⟩,⟨[],rfl,fun w hw=>by simp at hw,by simp[yI]⟩⟩
 | t :: r,k,⟨k1,k2,h1,h2,h3⟩=>by
  obtain⟨wt,j,o,a3⟩:=hp t k1 h1;obtain⟨⟨wr,b1,s,y⟩,_⟩:=com_w hp h2;refine⟨⟨[[44]]++(wt++wr),by rw[qKp,j,b1];rfl,jP (xI (by decide)) (jP o s),by rw[zH,zH];simp[yI];omega⟩,⟨wt++wr,by rw[wO,j,b1];rfl,jP o s,by rw[zH];omega⟩⟩
theorem many_w{P:qQ->Nat->Prop}{g:qQ->Ws}:∀ {ts:List qQ} {k:Nat},PL P ts k->(∀ t∈ts,∀ k,P t k->∃ ws,g t=some ws/\(∀ w∈ws,kN w=true)/\yI ws<=7 * k)->∃ ws,qZP g ts=some ws/\(∀ w∈ws,kN w=true)/\yI ws<=7 * k
 | [],_,_,_=>⟨[],rfl,fun w hw=>by simp at hw,by simp[yI]⟩
 | t :: r,k,⟨k1,k2,h1,h2,h3⟩,hp=>by
  obtain⟨wt,j,o,a3⟩:=hp t (by simp) k1 h1;obtain⟨wr,b1,s,y⟩:=many_w h2 (fun u hu=>hp u (by simp[hu]));exact⟨wt++wr,by rw[qZP,j,b1];rfl,jP o s,by rw[zH];omega⟩
theorem PL.strip{P:qQ->Nat->Prop}:∀ {ts:List qQ} {K:Nat},PL (fun t k=>∃ k1,P t k1/\k1+1<=k) ts K->∃ j,PL P ts j/\j+ts.length<=K
 | [],_,_=>⟨0,trivial,by simp⟩
 | t :: r,K,⟨k1,k2,⟨k3,h1,h2⟩,h3,h4⟩=>by
  obtain⟨j,o,s⟩:=PL.strip h3;exact⟨k3+j,⟨k3,j,h1,o,Nat.le_refl _⟩,by simp;omega⟩
theorem PL.neat{P:qQ->Nat->Prop}(hp:∀ t k,P t k->qZl t):∀ {ts:List qQ} {k:Nat},PL P ts k->qZn ts
 | [],_,_=>trivial
 | t :: r,_,⟨k1,k2,h1,h2,_⟩=>⟨hp t k1 h1,PL.neat hp h2⟩
theorem qUn{P:qQ->Nat->Prop}{p:List Tok->PR qQ}(n:Nat)(hp:∀ l,yT l->PI P l (p l)){l:List Tok}(hl:yT l):PI (fun ts k=>∃ j,PL P ts j/\j+ts.length+1<=k) l (xT n p l):=by
 unfold xT;refine(xB [40] hl).bind fun _ l1 k h1 _ h=>?_
 split
 ·exact(xB [41] h1).bind fun _ l2 k2 h2 _ h'=>PI.ok h2 ⟨0,trivial,by simp at h h' ⊢;omega⟩
 ·refine(hp l1 h1).bind fun t l2 k2 h2 _ ht=>?_
  refine(qWr (P:=fun t k=>∃ k1,P t k1/\k1+1<=k) (fun l' hl'=>(xB [44] hl').bind fun _ l3 k3 h3 _ h4=>(hp l3 h3).mono fun u k4 hu=>⟨k4,hu,by simp at h4;omega⟩) n [t] l2 (k2+1) h2 ⟨k2+1,0,⟨k2,ht,Nat.le_refl _⟩,trivial,Nat.le_refl _⟩).bind fun ts l3 k3 h3 _ hts=>?_
  obtain⟨j,o,s⟩:=hts.strip;exact(xB [41] h3).bind fun _ l4 k4 h4 _ h'=>PI.ok h4 ⟨j,o,by simp at h h';omega⟩
theorem qJO(kind:List UInt8)(o:Bool){l:List Tok}(hl:yT l):PI (fun t k=>∃ x ln co ln' co',t=.mk kind x 0 ln co [.mk zB (hdT l).text 0 ln' co' []]/\(o=true\/yG (hdT l).text=true)/\jH x=true/\1<=x.length/\x.length<=65536/\(hdT l).text.length<=65536/\k=(hdT l).text.length+x.length) l (zG kind o l):=by
 unfold zG;refine(qQV hl).bind fun t l1 k h1 _ h=>?_
 obtain⟨rfl,hm,s,rfl⟩:=h;refine(qQV h1).bind fun u l2 k2 h2 _ h'=>?_
 obtain⟨rfl,z,j,rfl⟩:=h';obtain⟨A,y⟩:=qUR j z;exact PI.ok h2 ⟨_,_,_,_,_,rfl,by simpa using hm,A,y,j.len,s.len,by omega⟩
theorem qUo{l:List Tok}(hl:yT l):PI (fun t k=>EW t k/\PW (fun _=>qZy) 4 t k) l (wQ l):=by
 unfold wQ;refine(qQV hl).bind fun t l1 k h1 _ h=>?_
 obtain⟨rfl,hm,j,rfl⟩:=h;exact PI.ok h1 (ew_num _ j (by simpa using hm))
section
variable {rec:NT->Int->List Tok->PR qQ} {n:Nat}
structure qKh(rec:NT->Int->List Tok->PR qQ):Prop where
 binary:∀ k d l,0<=k->yT l->PI EW l (rec (.binary k) d l)
 operand:∀ d l,yT l->PI EW l (rec .operand d l)
 block:∀ d l,yT l->PI BW l (rec .block d l)
theorem qUp(H:qKh rec)(d:Int){l:List Tok}(hl:yT l):PI (fun t k=>PW wU 4 t k/\(t.kind=zM\/t.kind=qL)) l (xF rec d l):=by
 unfold xF;refine(qQV hl).bind fun t l1 k h1 _ h=>?_
 obtain⟨rfl,y,j,rfl⟩:=h;obtain⟨s,o⟩:=qUR j y;split
 ·refine(xB [91] h1).bind fun _ l2 k2 h2 _ h3=>?_
  refine(qZh (H.binary 0 (d+1) l2 (by decide) h2)).bind fun e l3 k3 h4 _ he=>?_
  exact(xB [93] h4).bind fun _ l4 k4 h5 _ h6=>PI.ok h5 ⟨ew_index s o j.len _ _ he (by simp at h3 h6;omega), .inr rfl⟩
 ·exact PI.ok h1 ⟨ew_name s o j.len _ _, .inl rfl⟩
theorem pi_paren (H : qKh rec) (d : Int) {l : List Tok} (hl : yT l) : PI EW l (yJ rec d l) := by
  unfold yJ
  refine (qQV hl).bind fun t l1 k h1 _ h => ?_
  obtain ⟨rfl, hm, hok, rfl⟩ := h
  have hx : (hdT l).text.length = 1 := by have : (hdT l).text = [40] := by simpa using hm
                                          rw [this]; rfl
  split
  · rename_i hty
    refine (qQV h1).bind fun u l2 k2 h2 _ h' => ?_
    obtain ⟨rfl, _, _, rfl⟩ := h'
    refine (xB [41] h2).bind fun _ l3 k3 h3 _ h4 => ?_
    exact (qZh (H.operand (d + 1) l3 h3)).bind fun e l4 k4 h5 _ he => PI.ok h5 (ew_cast hty _ _ he (by simp at h4; omega))
  · refine (qZh (H.binary 0 (d + 1) l1 (by decide) h1)).bind fun e l2 k2 h2 _ he => ?_
    exact (xB [41] h2).bind fun _ l3 k3 h3 _ h4 => PI.ok h3 (he.more (by omega))
theorem pi_operand(H:qKh rec)(d:Int){l:List Tok}(hl:yT l):PI EW l (jU rec d l):=by
 unfold jU;split
 ·exact(qUo hl).mono fun _ _ h=>h.1
 split
 ·rename_i o;refine(qQV hl).bind fun u l1 k h1 _ h=>?_
  obtain⟨rfl,_,_,rfl⟩:=h;exact PI.ok h1 (ew_true o _ _)
 split
 ·rename_i j;refine(qQV hl).bind fun u l1 k h1 _ h=>?_
  obtain⟨rfl,_,_,rfl⟩:=h;have s:(hdT l).text.length=1:=by rcases qLj j with e | e | e <;> rw[e] <;> rfl
  exact(qZh (H.operand (d+1) l1 h1)).bind fun e l2 k2 h2 _ he=>PI.ok h2 (ew_unary j _ _ he (by omega))
 split
 ·exact pi_paren H d hl
 ·exact(qUp H d hl).mono fun _ _ h=>qLg h.1 h.2
theorem qW3(H:qKh rec)(k d:Int)(s:0<=k):∀ (m:Nat) (left:qQ) (l:List Tok) (j:Nat),yT l->EW left j->PI (fun t k1=>EW t (j+k1)) l (kX rec k d m left l)
 | 0,_,_,_,_,_=>PI.o
 | m+1,left,l,j,hl,he=>by
  rw[kX];split
  ·exact PI.ok hl he
  ·rename_i y;refine(qQV hl).bind fun t l1 k1 h1 _ h=>?_
   obtain⟨rfl,_,_,rfl⟩:=h;refine(H.binary _ d l1 (by omega) h1).bind fun r l2 k2 h2 _ hr=>?_
   exact(qW3 H k d s m _ l2 (j+(hdT l).text.length+k2) h2 (ew_binary (by omega) _ _ he hr (by omega))).mono fun t k3 h3=>by
    rw[show j+((hdT l).text.length+(k2+k3))=j+(hdT l).text.length+k2+k3 by omega];exact h3
theorem pi_binary(H:qKh rec)(k d:Int)(j:0<=k){l:List Tok}(hl:yT l):PI EW l (qQy rec n k d l):=by
 unfold qQy;exact(H.operand d l hl).bind fun e l1 k1 h1 _ he=>qW3 H k d j n e l1 k1 h1 he
theorem qWq(H:qKh rec)(d:Int){l:List Tok}(hl:yT l):PI EW l (qQh rec d l):=H.binary 0 d l (by decide) hl
theorem pi_call(H:qKh rec)(d:Int){l:List Tok}(hl:yT l):PI (PW qKY 0) l (qQz rec n d l):=by
 unfold qQz;refine(qQV hl).bind fun t l1 k h1 e1 h=>?_
 obtain⟨rfl,R,s,rfl⟩:=h;obtain⟨A,U⟩:=qUR s R;refine(qUn n (fun l' hl'=>qZh (H.binary 0 (d+1) l' (by decide) hl')) h1).bind fun ts l2 k2 h2 e2 hts=>?_
 obtain⟨C,j,O⟩:=hts;have J:=hl.2;have z:=j.len (fun t k h=>Nat.le_trans (qJD t) h.1);refine PI.ok h2 ⟨qVZ (by omega) (fun t ht=>by obtain⟨k1,h3,h4⟩:=j.memle t ht;have:=h3.1;omega),⟨by decide,by have:=s.len;omega,by decide,by decide,by omega,j.neat fun t k h=>h.2.1⟩,fun m hm=>?_⟩;have y:PL (fun t k=>EW t k/\vZ t<=m) ts C:=by
  have o:∀ t∈ts,vZ t<=m:=fun t ht=>by have:=yU ht zW (hdT l).text 0 (hdT l).line (hdT l).col;omega
  have:∀ (ts:List qQ) (k:Nat),PL EW ts k->(∀ t∈ts,vZ t<=m)->PL (fun t k=>EW t k/\vZ t<=m) ts k:=by
   intro ts;induction ts with
   | nil=>intro k _ _;trivial
   | cons t r ih=>intro k ⟨a,b,h1,h2,h3⟩ hm;exact⟨a,b,⟨h1,hm t (by simp)⟩,ih b h2 (fun u hu=>hm u (by simp[hu])),h3⟩
  exact this ts C j o
 obtain⟨ws,G,I,a3⟩:=(com_w (g:=qZB m .expr) (fun t k h=>h.1.rec h.2) y).2;refine⟨[(hdT l).text,[40]]++(ws++[[41]]),?_,jP (fun w hw=>?_) (jP I (xI (by decide))),by rw[zH,zH];simp[yI];omega⟩
 ·rw[qWJ,G];simp[ifW,A,jD]
 ·simp only[List.mem_cons,List.not_mem_nil,or_false]at hw;rcases hw with rfl | rfl
  ·exact qKg A
  ·decide
end
abbrev SW:qQ->Nat->Prop:=PW qJr 0
section
variable {rec:NT->Int->List Tok->PR qQ} {n:Nat}
def GS(word:List UInt8)(t:qQ)(k:Nat):Prop:=∃ e b k1 k2 ln co,t=.mk word [] 0 ln co [e,b]/\EW e k1/\BW b k2/\k1+k2+3<=k
theorem qW4(H:qKh rec)(word:List UInt8)(j:word≠[])(d:Int){l:List Tok}(hl:yT l):PI (GS word) l (jK rec word d l):=by
 unfold jK;refine(qW5 [word,[40]] (by simp[j]) hl).bind fun _ l1 k h1 _ h=>?_
 refine(qWq H d h1).bind fun e l2 k2 h2 _ he=>?_
 refine(xB [41] h2).bind fun _ l3 k3 h3 _ h4=>?_
 exact(qZh (H.block (d+1) l3 h3)).bind fun b l4 k4 h5 _ hb=>PI.ok h5 ⟨e,b,k2,k4,_,_,rfl,he,hb,by simp at h h4;omega⟩
theorem qWX{word:List UInt8}(G:kN word=true)(hl:word.length<=5){x:List UInt8}{m ln co:Int}{e b:qQ}{r:List qQ}{k1 o:Nat}(C:EW e k1)(hb:BW b o){j:Nat}(R:vZ (.mk word x m ln co (e :: b :: r))<=j+1) :
 ∃ ws,qQi (qZB j) (.mk word x m ln co (e :: b :: r))=some ws/\(∀ w∈ws,kN w=true)/\yI ws<=7 * (k1+o)+6:=by
 have hd:=yU (t:=e) (ks:=e :: b :: r) (by simp) word x m ln co;have A:=yU (t:=b) (ks:=e :: b :: r) (by simp) word x m ln co;obtain⟨J,s,y,a3⟩:=C.rec (m:=j) (by omega);obtain⟨I,b1,z,O⟩:=hb.rec (m:=j) (by omega);refine⟨[word,[40]]++(J++([[41]]++I)),?_,jP (fun w hw'=>?_) (jP y (jP (xI (by decide)) z)),by rw[zH,zH,zH];simp[yI];omega⟩
 ·rw[qJH];simp[s,b1,jD]
 ·simp only[List.mem_cons,List.not_mem_nil,or_false]at hw';rcases hw' with rfl | rfl
  ·exact G
  ·decide
theorem pi_choice(H:qKh rec)(d:Int){l:List Tok}(hl:yT l):PI SW l (vF rec d l):=by
 unfold vF;refine(qW4 H kIf (by decide) d hl).bind fun t l1 k h1 _ h=>?_
 obtain⟨e,b,k1,J,ln,co,rfl,j,hb,I⟩:=h;split
 ·refine(xB zS h1).bind fun _ l2 k3 h2 _ h3=>?_
  refine(qZh (H.block (d+1) l2 h2)).bind fun c l3 k4 h4 _ hc=>PI.ok h4 ⟨(show vZ (.mk kIf [] 0 ln co [e,b,c])<=_ from deep3 (by have:=j.1;omega) (by have:=hb.1;omega) (by have:=hc.1;omega)),⟨by simp[qQ.kind,kIf],by simp[qQ.text],by simp[qQ.num],by simp[qQ.num],by simp[qQ.kids],j.2.1,hb.2.1,hc.2.1,trivial⟩,fun m hm=>?_⟩
  simp only[qQ.kind,qQ.text,qQ.num,qQ.line,qQ.col,qQ.kids,lC,lN]at hm ⊢;have hd:=yU (t:=c) (ks:=[e,b,c]) (by simp) kIf [] 0 ln co;obtain⟨y,o,s,a3⟩:=qWX (word:=kIf) (by decide) (by decide) j hb hm;obtain⟨C,b1,z,G⟩:=hc.rec (m:=m) (by omega);have A:k3=4:=h3;refine⟨y++([zS]++C),?_,jP s (jP (xI (by decide)) z),by rw[zH,zH];simp[yI,zS];omega⟩;rw[wX,if_pos (by decide),qJb];simp[ifW,o,b1,jD]
 ·refine PI.ok h1 ⟨qY4 (by have:=j.1;omega) (by have:=hb.1;omega),⟨by decide,by simp,by decide,by decide,by simp,j.2.1,hb.2.1,trivial⟩,fun m hm=>?_⟩;obtain⟨y,o,s,a3⟩:=qWX (word:=kIf) (by decide) (by decide) j hb hm;refine⟨y,?_,s,by omega⟩;rw[wX,if_pos (by decide),qJb];simp[ifW,o]
theorem pi_while(H:qKh rec)(d:Int){l:List Tok}(hl:yT l):PI SW l (jK rec qA d l):=by
 refine(qW4 H qA (by decide) d hl).mono fun t k h=>?_
 obtain⟨e,b,k1,A,ln,co,rfl,j,hb,z⟩:=h;refine⟨qY4 (by have:=j.1;omega) (by have:=hb.1;omega),⟨by decide,by simp,by decide,by decide,by simp,j.2.1,hb.2.1,trivial⟩,fun m hm=>?_⟩;obtain⟨y,o,s,a3⟩:=qWX (word:=qA) (by decide) (by decide) j hb hm;refine⟨y,?_,s,by omega⟩;rw[wX,if_neg (by decide),if_pos (by decide)];simp[ifW,o]
theorem pi_leave(H:qKh rec)(d:Int){l:List Tok}(hl:yT l):PI SW l (yC rec d l):=by
 unfold yC;refine(xB qV hl).bind fun _ l1 k h1 _ h=>?_
 have y:k=6:=h;split
 ·refine(xB [59] h1).bind fun _ l2 k2 h2 _ h3=>PI.ok h2 ⟨qJC (by omega),⟨by decide,by simp,by decide,by decide,by simp,trivial⟩,fun m hm=>⟨[qV]++[]++[[59]],?_,xI (by decide),by simp[yI,qV];omega⟩⟩
  rw[wX,if_neg (by decide),if_neg (by decide),if_neg (by decide),if_neg (by decide),if_pos (by decide)];rfl
 ·refine(qWq H d h1).bind fun e l2 k2 h2 _ he=>?_
  refine(xB [59] h2).bind fun _ l3 k3 h3 _ h4=>PI.ok h3 ⟨qK1 (by have:=he.1;omega),⟨by decide,by simp,by decide,by decide,by simp,he.2.1,trivial⟩,fun m hm=>?_⟩
  have hd:=yU (t:=e) (ks:=[e]) (by simp) qV [] 0 (hdT l).line (hdT l).col;obtain⟨s,j,o,a3⟩:=he.rec (m:=m) (by omega);refine⟨[qV]++s++[[59]],?_,jP (jP (xI (by decide)) o) (xI (by decide)),by rw[zH,zH];simp[yI,qV];omega⟩;rw[wX,if_neg (by decide),if_neg (by decide),if_neg (by decide),if_neg (by decide),if_pos (by decide)];simp[ifW,qQn,wO,qKp,j,jD]
theorem pi_claim(H:qKh rec)(d:Int){l:List Tok}(hl:yT l)(o:((hdT l).text == qF || (hdT l).text == qD)=true):PI SW l (kL rec d l):=by
 unfold kL;refine(qQV hl).bind fun t l1 k h1 _ h=>?_
 obtain⟨rfl,_,I,rfl⟩:=h;have hf:(hdT l).text.length=6/\kN (hdT l).text=true/\((hdT l).text == kIf)=false/\((hdT l).text == qA)=false/\((hdT l).text == qE)=false/\((hdT l).text == zW)=false/\((hdT l).text == qV)=false:=by
  have j:=o;simp only[Bool.or_eq_true,beq_iff_eq]at j;rcases j with e | e <;> rw[e] <;> decide
 obtain⟨f1,f2,z,f4,A,C,G⟩:=hf;refine(xB [40] h1).bind fun _ l2 k2 h2 _ h3=>?_
 refine(qWq H d h2).bind fun e l3 k3 h4 _ he=>?_
 refine(qW5 [[41],[59]] (by simp) h4).bind fun _ l4 k4 h5 _ h6=>PI.ok h5 ⟨qK1 (by have:=he.1;omega),⟨by omega,by simp,by decide,by decide,by simp,he.2.1,trivial⟩,fun m hm=>?_⟩
 have hd:=yU (t:=e) (ks:=[e]) (by simp) (hdT l).text [] 0 (hdT l).line (hdT l).col;obtain⟨J,s,y,a3⟩:=he.rec (m:=m) (by omega);refine⟨[(hdT l).text,[40]]++(J++[[41]])++[[59]],?_,jP (jP (fun w hw=>?_) (jP y (xI (by decide)))) (xI (by decide)),by rw[zH,zH,zH];simp[yI]at h3 h6 ⊢;omega⟩
 ·rw[wX,z,f4,A,C,G,o,if_neg (by decide),if_neg (by decide),if_neg (by decide),if_neg (by decide),if_neg (by decide),if_pos rfl];simp[ifW,qQn,s,jD]
 ·simp only[List.mem_cons,List.not_mem_nil,or_false]at hw;rcases hw with rfl | rfl
  ·exact f2
  ·decide
theorem qXm{kind j x:List UInt8}(A:jH x=true)(o:Bool)(ht:yG j=true\/o=true/\j=zA)(m ln co y s:Int)(r:List qQ) :
 vY o (.mk kind x m ln co (.mk zB j 0 y s [] :: r))=some [j,x]/\(∀ w∈[j,x],kN w=true)/\2<=j.length/\j.length<=4:=by
 have z:kN j=true/\2<=j.length/\j.length<=4:=by
  rcases ht with h | ⟨_,rfl⟩
  ·exact qXh h
  ·decide
 refine⟨?_,fun w hw'=>?_,z.2⟩
 ·rw[qUJ];rcases ht with h | ⟨rfl,rfl⟩
  ·simp[ifW,qQ.kind,qQ.num,qQ.kids,qQ.text,h]
  ·simp[ifW,qQ.kind,qQ.num,qQ.kids,qQ.text]
 ·simp only[List.mem_cons,List.not_mem_nil,or_false]at hw';rcases hw' with rfl | rfl
  ·exact z.1
  ·exact qKg A
theorem pi_local{l:List Tok}(hl:yT l):PI SW l (qQM l):=by
 unfold qQM;refine(qJO qE false hl).bind fun t l1 k h1 _ h=>?_
 obtain⟨x,ln,co,s,o,rfl,y,A,I,J,O,rfl⟩:=h;have ht:yG (hdT l).text=true:=by rcases y with h | h;cases h;exact h
 refine(xB [59] h1).bind fun _ l2 k2 h2 _ h3=>PI.ok h2 ⟨qK1 (by have z:=(qXh ht).2.1;have:=qJC (k:=zB) (x:=(hdT l).text) (n:=0) (l:=s) (c:=o) (j:=1) (by omega);omega),⟨by decide,by omega,by decide,by decide,by simp,⟨by decide,by omega,by decide,by decide,by simp,trivial⟩,trivial⟩,fun m hm=>?_⟩
 obtain⟨C,G,a3,a4⟩:=qXm (kind:=qE) A false (.inl ht) 0 ln co s o [];refine⟨[(hdT l).text,x]++[[59]],?_,jP G (xI (by decide)),by rw[zH];simp[yI];omega⟩;rw[wX,if_neg (by decide),if_neg (by decide),if_pos (by decide),C];simp[ifW,A,qQn,jD]
theorem pi_action(H:qKh rec)(d:Int){l:List Tok}(hl:yT l):PI SW l (jJ rec n d l):=by
 unfold jJ;split
 ·refine(pi_call H d hl).bind fun t l1 k h1 _ h=>?_
  refine(xB [59] h1).bind fun _ l2 k2 h2 _ h3=>PI.ok h2 ⟨by have:=h.1;omega,h.2.1,fun m hm=>?_⟩
  obtain⟨ws,j,o,a3⟩:=h.2.2 m hm;refine⟨ws++[[59]],?_,jP o (xI (by decide)),by rw[zH];simp[yI]at h3 ⊢;omega⟩;obtain⟨O,x,nm,ln,co,ks⟩:=t;have C:O=zW:=by
   rw[qWJ]at j;have:=(zN j).1;simp only[bE,beq_iff_eq]at this;exact this.1
  subst C;rw[wX,if_neg (by decide),if_neg (by decide),if_neg (by decide),if_pos (by decide),j];rfl
 ·refine(qUp H d hl).bind fun x l1 k h1 _ hx=>?_
  refine(xB [61] h1).bind fun _ l2 k2 h2 _ h3=>?_
  have J:k2=1:=h3;split
  ·refine(qW5 [qW,[40],[41]] (by decide) h2).bind fun _ l3 k3 h4 _ h5=>?_
   refine(xB [59] h4).bind fun _ l4 k4 h6 _ h7=>PI.ok h6 ⟨qK1 (by have:=hx.1.1;omega),⟨by decide,by simp,by decide,by decide,by simp,hx.1.2.1,trivial⟩,fun m hm=>?_⟩
   have hd:=yU (t:=x) (ks:=[x]) (by simp) qW [] 0 (hdT l).line (hdT l).col;obtain⟨s,j,o,a3⟩:=hx.1.2.2 m (by omega);refine⟨s++[[61],qW,[40],[41]]++[[59]],?_,jP (jP o (xI (by decide))) (xI (by decide)),by rw[zH,zH];simp[yI,qW]at h5 ⊢;omega⟩;rw[wX,if_neg (by decide),if_neg (by decide),if_neg (by decide),if_neg (by decide),if_neg (by decide),if_neg (by decide),qK7];simp[ifW,qQn,j,jD]
  split
  ·refine(pi_call H d h2).bind fun y l3 k3 h4 _ hy=>?_
   refine(xB [59] h4).bind fun _ l4 k4 h6 _ h7=>PI.ok h6 ⟨qY4 (by have:=hx.1.1;omega) (by have:=hy.1;omega),⟨by decide,by simp,by decide,by decide,by simp,hx.1.2.1,hy.2.1,trivial⟩,fun m hm=>?_⟩
   have hd:=yU (t:=x) (ks:=[x,y]) (by simp) qN [] 0 (hdT l).line (hdT l).col;have A:=yU (t:=y) (ks:=[x,y]) (by simp) qN [] 0 (hdT l).line (hdT l).col;obtain⟨s,j,o,a3⟩:=hx.1.2.2 m (by omega);obtain⟨G,b1,z,I⟩:=hy.2.2 m (by omega);refine⟨s++([[61]]++G)++[[59]],?_,jP (jP o (jP (xI (by decide)) z)) (xI (by decide)),by rw[zH,zH,zH];simp[yI]at h7 ⊢;omega⟩;rw[wX,if_neg (by decide),if_neg (by decide),if_neg (by decide),if_neg (by decide),if_neg (by decide),if_neg (by decide),qK7];simp[ifW,qQn,j,b1,jD,show(qN == qP)=false by decide]
  ·refine(qWq H d h2).bind fun y l3 k3 h4 _ hy=>?_
   refine(xB [59] h4).bind fun _ l4 k4 h6 _ h7=>PI.ok h6 ⟨qY4 (by have:=hx.1.1;omega) (by have:=hy.1;omega),⟨by decide,by simp,by decide,by decide,by simp,hx.1.2.1,hy.2.1,trivial⟩,fun m hm=>?_⟩
   have hd:=yU (t:=x) (ks:=[x,y]) (by simp) qP [] 0 (hdT l).line (hdT l).col;have A:=yU (t:=y) (ks:=[x,y]) (by simp) qP [] 0 (hdT l).line (hdT l).col;obtain⟨s,j,o,a3⟩:=hx.1.2.2 m (by omega);obtain⟨G,b1,z,I⟩:=hy.rec (m:=m) (by omega);refine⟨s++([[61]]++G)++[[59]],?_,jP (jP o (jP (xI (by decide)) z)) (xI (by decide)),by rw[zH,zH,zH];simp[yI]at h7 ⊢;omega⟩;rw[wX,if_neg (by decide),if_neg (by decide),if_neg (by decide),if_neg (by decide),if_neg (by decide),if_neg (by decide),qK7];simp[ifW,qQn,j,b1,jD]
theorem pi_stmt(H:qKh rec)(d:Int){l:List Tok}(hl:yT l):PI SW l (qQA rec n d l):=by
 unfold qQA;split
 ·exact pi_choice H d hl
 split
 ·exact pi_while H d hl
 split
 ·exact pi_leave H d hl
 split
 ·rename_i j;exact pi_claim H d hl j
 split
 ·exact pi_local hl
 ·exact pi_action H d hl
theorem qUT{P:qQ->Nat->Prop}{j:Nat}:∀ (ts:List qQ) (k:Nat),PL P ts k->(∀ t∈ts,vZ t<=j)->PL (fun t k=>P t k/\vZ t<=j) ts k
 | [],_,_,_=>trivial
 | t :: r,_,⟨a,b,h1,h2,h3⟩,hm=>⟨a,b,⟨h1,hm t (by simp)⟩,qUT r b h2 (fun u hu=>hm u (by simp[hu])),h3⟩
theorem pi_block(H:qKh rec)(d:Int){l:List Tok}(hl:yT l):PI BW l (qQK rec n d l):=by
 unfold qQK;refine(xB [123] hl).bind fun _ l1 k h1 e1 h=>?_
 refine(qWr (fun l' hl'=>pi_stmt H d hl') n [] l1 0 h1 trivial).bind fun ts l2 k2 h2 e2 hts=>?_
 refine(xB [125] h2).bind fun _ l3 k3 h3 _ h4=>?_
 have y:=hl.2;have C:=hts.len (fun t k h=>Nat.le_trans (qJD t) h.1);have A:k=1:=h;have z:k3=1:=h4;refine PI.ok h3 ⟨qVZ (by omega) (fun t ht=>by obtain⟨k1,h3,h4⟩:=hts.memle t ht;have:=h3.1;omega),⟨by decide,by simp,by decide,by decide,by omega,hts.neat fun t k h=>h.2.1⟩,fun m hm=>?_⟩;obtain⟨ws,o,s,a3⟩:=many_w (g:=qJr (qZB m)) (qUT (j:=m) ts _ hts (fun t ht=>by have:=yU ht zX [] 0 (hdT l).line (hdT l).col;omega)) (fun t _ k h=>by
  obtain⟨ws,c1,c2,c3⟩:=h.1.2.2 m (by have:=h.2;omega);exact⟨ws,c1,c2,by omega⟩)
 refine⟨[[123]]++(ws++[[125]]),?_,jP (xI (by decide)) (jP s (xI (by decide))),by rw[zH,zH];simp[yI];omega⟩;rw[qYY,o];rfl
end
theorem qVj:∀ n,qKh (qQd n)
 | 0=>⟨fun _ _ _ _ _=>PI.o,fun _ _ _=>PI.o,fun _ _ _=>PI.o⟩
 | n+1=>⟨fun k d l hk hl=>pi_binary (qVj n) k d hk hl,fun d l hl=>pi_operand (qVj n) d hl,fun d l hl=>pi_block (qVj n) d hl⟩
theorem fn_mk(rec:WT->qQ->Ws)(k x:List UInt8)(m ln co:Int)(u b:qQ)(ps:List qQ):kA rec (.mk k x m ln co (u :: (ps++[b])))=ifW (jH x && m == 0) (jD (vY true (.mk k x m ln co (u :: (ps++[b])))) (jD (some [[40]]) (jD (wO qZ1 ps) (jD (some [[41]]) (rec .block b))))):=by
 cases ps with
 | nil=>rw[lN,qK6];rfl
 | cons p r =>
  rw[lC,qK6];have j:(p :: (r++[b])).dropLast=p :: r:=by rw[<-lC,List.dropLast_concat]
  have h2:(p :: (r++[b])).getLast (List.cons_ne_nil p (r++[b]))=b:=by
   have:=List.getLast_concat (a:=b) (l:=p :: r);exact this
  show ifW (jH x && m == 0) (jD (vY true (.mk k x m ln co (u :: p :: (r++[b])))) (jD (some [[40]]) (jD (wO qZ1 ((p :: (r++[b])).dropLast)) (jD (some [[41]]) (rec .block ((p :: (r++[b])).getLast (List.cons_ne_nil p (r++[b]))))))))=_
  rw[j,h2]
def qPL(rec:WT->qQ->Ws)(t:qQ):Ws:=if t.kind == qC then kA rec t else qXa t
abbrev IW:qQ->Nat->Prop:=PW qPL 0
theorem pi_param{l:List Tok}(hl:yT l):PI (PW (fun _=>qZ1) 4) l (zG qO false l):=by
 refine(qJO qO false hl).mono fun t k h=>?_
 obtain⟨x,ln,co,s,o,rfl,y,A,I,J,O,rfl⟩:=h;have ht:yG (hdT l).text=true:=by rcases y with h | h;cases h;exact h
 obtain⟨C,G,a3,a4⟩:=qXm (kind:=qO) A false (.inl ht) 0 ln co s o [];refine⟨qK1 (by have z:=(qXh ht).2.1;have:=qJC (k:=zB) (x:=(hdT l).text) (n:=0) (l:=s) (c:=o) (j:=1) (by omega);omega),⟨by decide,by omega,by decide,by decide,by simp,⟨by decide,by omega,by decide,by decide,by simp,trivial⟩,trivial⟩,fun m hm=>⟨_,?_,G,by simp[yI];omega⟩⟩;show qZ1 (.mk qO x 0 ln co [.mk zB (hdT l).text 0 s o []])=_
 rw[paramW_mk,C];simp[ifW,A]
theorem pi_item(n:Nat){l:List Tok}(hl:yT l):PI IW l (qZe n l):=by
 unfold qZe;refine(qJO qG _ hl).bind fun t l1 k h1 e1 h=>?_
 obtain⟨x,ln,co,s,o,rfl,A,C,d4,d5,d6,hk⟩:=h;have U:yG (hdT l).text=true\/true=true/\(hdT l).text=zA:=by
  rcases A with h | h
  ·exact .inr ⟨rfl,by simpa using h⟩
  ·exact .inl h
 have d2:=hl.2;split
 ·refine(qUn n (fun l' hl'=>pi_param hl') h1).bind fun ps l2 k2 h2 e2 hps=>?_
  obtain⟨k',z,d3⟩:=hps;refine(qZh ((qVj n).block (0+1) l2 h2)).bind fun b l3 k3 h3 _ hb=>?_
  obtain⟨G,I,a3,a4⟩:=qXm (kind:=qC) C true U 0 ln co s o (ps++[b]);have V:vZ (.mk zB (hdT l).text 0 s o [])<=1:=qJC (by omega);refine PI.ok h3 ⟨(show vZ (.mk qC x 0 ln co ([.mk zB (hdT l).text 0 s o []]++ps++[b]))<=_ from qVZ (by omega) (fun t ht=>by
   simp only[lC,lN,List.mem_cons,List.mem_append,List.not_mem_nil,or_false]at ht;rcases ht with rfl | ht | rfl
   ·omega
   ·obtain⟨j1,X,Y⟩:=z.memle t ht;have:=X.1;omega
   ·have:=hb.1;omega)),⟨by simp[qQ.kind,qC],by simp only[qQ.text];omega,by simp[qQ.num],by simp[qQ.num],by simp[qQ.kids];omega,?_⟩,fun m hm=>?_⟩
  ·simp only[qQ.kids,lC,lN];refine⟨⟨by decide,by omega,by decide,by decide,by simp,trivial⟩,qZn.of fun t ht=>?_⟩;rcases List.mem_append.1 ht with h | h
   ·exact qZn.mem (z.neat fun t k h=>h.2.1) t h
   ·obtain rfl:t=b:=by simpa using h
    exact hb.2.1
  ·simp only[qQ.text,qQ.num,qQ.line,qQ.col,qQ.kids,lC,lN]at hm ⊢;have hd:=yU (t:=b) (ks:=.mk zB (hdT l).text 0 s o [] :: (ps++[b])) (by simp) qC x 0 ln co;obtain⟨wb,b1,R,b3⟩:=hb.rec (m:=m) (by omega);obtain⟨wc,c1,c2,c3⟩:=(com_w (g:=qZ1) (fun t k h=>h.2.2 (vZ t) (by omega)) z).2;refine⟨[(hdT l).text,x]++([[40]]++(wc++([[41]]++wb))),?_,jP I (jP (xI (by decide)) (jP c2 (jP (xI (by decide)) R))),by rw[zH,zH,zH,zH];simp[yI];omega⟩;rw[qPL,if_pos (by rfl),fn_mk,G,b1,c1];simp[ifW,C,jD]
 split
 ·rename_i y _;have ht:yG (hdT l).text=true:=by
   rcases A with h | h
   ·simp only[Bool.or_eq_true,not_or]at y;exact absurd h y.1
   ·exact h
  refine(xB [91] h1).bind fun _ l2 k2 h2 _ h3=>?_
  refine(qUo h2).bind fun m0 l3 k3 h4 _ hm0=>?_
  refine(xB [93] h4).bind fun _ l4 k4 h5 _ h6=>?_
  refine(xB [59] h5).bind fun _ l5 k5 h7 _ h8=>PI.ok h7 ⟨(show vZ (.mk qG x 0 ln co [.mk zB (hdT l).text 0 s o [],m0])<=_ from qY4 (by have J:=(qXh ht).2.1;have:=qJC (k:=zB) (x:=(hdT l).text) (n:=0) (l:=s) (c:=o) (j:=1) (by omega);omega) (by have:=hm0.1.1;omega)),⟨by simp[qQ.kind,qG],by simp only[qQ.text];omega,by simp[qQ.num],by simp[qQ.num],by simp[qQ.kids],⟨by decide,by omega,by decide,by decide,by simp,trivial⟩,hm0.1.2.1,trivial⟩,fun m hm=>?_⟩
  obtain⟨G,I,a3,a4⟩:=qXm (kind:=qG) C false (.inl ht) 0 ln co s o [m0];obtain⟨Z,b1,R,b3⟩:=hm0.2.2.2 (vZ m0) (by omega);have j1:k2=1:=h3;have X:k4=1:=h6;have Y:k5=1:=h8;refine⟨([(hdT l).text,x]++([[91]]++(Z++[[93]])))++[[59]],?_,jP (jP I (jP (xI (by decide)) (jP R (xI (by decide))))) (xI (by decide)),by rw[zH,zH,zH,zH];simp[yI];omega⟩;simp only[qQ.kind,qQ.text,qQ.num,qQ.line,qQ.col,qQ.kids,lC,lN];rw[qPL,if_neg (by simp only[qQ.kind];decide),qKF,G];have O:qZy m0=some Z:=b1;simp[ifW,C,qQn,jD,O]
 ·rename_i y _;have ht:yG (hdT l).text=true:=by
   rcases A with h | h
   ·simp only[Bool.or_eq_true,not_or]at y;exact absurd h y.1
   ·exact h
  refine(xB [59] h1).bind fun _ l5 k5 h7 _ h8=>PI.ok h7 ⟨qK1 (by have J:=(qXh ht).2.1;have:=qJC (k:=zB) (x:=(hdT l).text) (n:=0) (l:=s) (c:=o) (j:=1) (by omega);omega),⟨by decide,by omega,by decide,by decide,by simp,⟨by decide,by omega,by decide,by decide,by simp,trivial⟩,trivial⟩,fun m hm=>?_⟩
  obtain⟨G,I,a3,a4⟩:=qXm (kind:=qG) C false (.inl ht) 0 ln co s o [];have Y:k5=1:=h8;refine⟨[(hdT l).text,x]++[[59]],?_,jP I (xI (by decide)),by rw[zH];simp[yI];omega⟩;rw[qPL,if_neg (by simp only[qQ.kind];decide),qKF,G];simp[ifW,C,qQn,jD]
theorem prog_words(n:Nat)(l:List Tok)(hl:yT l)(t:qQ)(l':List Tok)(h:xW n l=.ok t l') :
 qZl t/\vZ t<=ch l+1/\∃ ws,qQO (vZ t) t=some ws/\(∀ w∈ws,kN w=true)/\yI ws<=7 * ch l:=by
 have o:PI (fun t k=>qZl t/\vZ t<=k+1/\∃ ws,qQO (vZ t) t=some ws/\(∀ w∈ws,kN w=true)/\yI ws<=7 * k) l (xW n l):=by
  unfold xW;refine(qWr (fun l' hl'=>pi_item n hl') n [] l 0 hl trivial).bind fun ts l1 k s e1 hts=>?_
  have A:=hl.2;have G:=hts.len (fun t k h=>Nat.le_trans (qJD t) h.1);refine PI.ok s ⟨⟨by decide,by simp,by decide,by decide,by omega,hts.neat fun t k h=>h.2.1⟩,qVZ (by omega) (fun t ht=>by obtain⟨k1,h3,h4⟩:=hts.memle t ht;have:=h3.1;omega),?_⟩;obtain⟨ws,y,z,a3⟩:=many_w (g:=qPL (qZB (vZ (.mk qY [] 0 (hdT l).line (hdT l).col ts)))) (qUT (j:=vZ (.mk qY [] 0 (hdT l).line (hdT l).col ts)) ts _ hts (fun t ht=>by have:=yU ht qY [] 0 (hdT l).line (hdT l).col;omega)) (fun t _ k h=>by
   obtain⟨ws,c1,c2,c3⟩:=h.1.2.2 (vZ (.mk qY [] 0 (hdT l).line (hdT l).col ts)) (by have:=h.2;omega);exact⟨ws,c1,c2,by omega⟩)
  refine⟨ws,?_,z,by omega⟩;rw[qV9,show(qZP (fun k=>if k.kind == qC then kA (qZB (vZ (.mk qY [] 0 (hdT l).line (hdT l).col ts))) k else qXa k) ts)=some ws from y];rfl
 obtain⟨_,k,s,h2,hd,ws,h3,h4,C⟩:=o t l' h;exact⟨h2,by omega,ws,h3,h4,by omega⟩
theorem qKl(kind:List UInt8)(d9:Bool)(d:Int):∀ (B:Nat) (l:List Tok) (w:World),vP B l d w->(d9=true->(hdT l).text≠[])->(zG kind d9) l≠.out->Calls prog 103 ((fun p=>#[p, .string ⟨kind.toArray⟩, .bool d9]) (.pointer (some ⟨B,0,none⟩))) w (qXV B d w ((zG kind d9) l)):=by
 intro B l w h p7 F5;obtain⟨t,r,rfl⟩:=h.ends.ne;have S0:=St.start h;have M7:=S0.hB;have M6:=hI F5;have S0:=hI S0;have N0:=zT;have M9:=vS;have M8:=yW;have D9:d9=true->t.text≠[]:=p7;clear p7;clear h F5;unfold jY at *;go_enter func103,ntmps103
 cases hv:(d9);case false =>
  clear D9;have H:=hI (kY B t r d _ S0.o.ps);go_wp2_with fail
  refine(H.o).mono ?_;rintro e w1 ⟨rfl,F3⟩;have S1:=hI (S0.o.below F3);clear S0;clear H F3;cases n9:(yG t.text);case false =>
   have hT:qWD w1:=by
    obtain⟨lo,T,o,c,h1⟩:=S1.o.ps;exact h1.tab.types
   have H:=hI (qXC ⟨t.text.toArray⟩ _ hT);have p8:(⟨t.text.toArray⟩:ByteArray).data.toList=t.text:=by simp
   rw[p8,n9]at H;unfold vT xA at *;go_wp2_with fail
   refine(H.o).mono ?_;rintro e M5 ⟨rfl,rfl⟩;clear H hT p8;have H:=hI (qQ8 B t r d _ S1.o.ps);go_wp2_with fail
   refine(H.o).mono ?_;rintro e w3 ⟨rfl,hg3⟩;refine⟨rfl,?_⟩;have n7:(zG kind false) (t :: r)=.bad t.line t.col 30:=by simp only[bF,if_false,if_true,reduceIte,bN,bM,bO,bU,bP,bV,bW,bB,bA,bT,lN,lC,lA,zG,jV,n9,PR.bind,qX,jV]
   rw[n7];exact S1.o.pan ⟨rfl,hg3⟩
  case true =>
   have hT:qWD w1:=by
    obtain⟨lo,T,o,c,h1⟩:=S1.o.ps;exact h1.tab.types
   have H:=hI (qXC ⟨t.text.toArray⟩ _ hT);have p8:(⟨t.text.toArray⟩:ByteArray).data.toList=t.text:=by simp
   rw[p8,n9]at H;unfold vT xA at *;go_wp2_with fail
   refine(H.o).mono ?_;rintro e M5 ⟨rfl,rfl⟩;clear H hT p8;have D8:t.text≠[]:=fun e=>by rw[e]at n9;exact absurd n9 (by decide)
   have H:=hI (vB B t r d _ S1.o.ps D8);go_wp2_with fail
   refine(H.o).mono ?_;rintro e w3 ⟨rfl,hP3,hg3⟩;have S3:=hI (S1.o.call hP3 hg3);clear S1;clear H hP3 hg3;unfold vT xA at *;have F8:w.1.size < w3.1.size:=S3.o.lt;have L4:=hI (wH.newO t w3);have S4:=hI (S3.o.alloc (qXT t));clear S3;unfold qXT at *;obtain⟨u,rr,t8⟩:=S4.o.ps.ends.ne;subst t8;cases hn:(kR u);case false =>
    go_wp2_with fail
    refine wp_pan [{ v:=qXo u.line u.col 30,recovered:=false }] (fun w'=>w.grownBy w' (some B)) ?_ ?_
    ·refine wW (S:=fun w'=>wH w3.1.size t w') (tail:=fun _=>false) (by kernel_rfl) ?_;change vR _ _ _ _ _ _ _ _ _ (World.drew _);have SS:=hI S4.o.drew;have O:=hI (L4.o.below (Below.refl _ _).drew);generalize World.drew _=wd at *;refine wTk 0 18 (.agg #[.int .i64 t.kind, .string ⟨t.text.toArray⟩, .int .u64 t.num, .int .i64 t.line, .int .i64 t.col]) ?_ O.o ?_
     ·intro _ y;have⟨h0,h1,h2,h3,h4,_⟩:=y.a;go_simp
     refine wTk 1 19 (.string ⟨kind.toArray⟩) ?_ O.o ?_
     ·intro _ y;go_simp
     refine wTk 2 20 (.pointer (some ⟨B,0,none⟩)) ?_ O.o ?_
     ·intro _ y;go_simp
     refine wTk 3 21 (.pointer (some ⟨B,0,none⟩)) ?_ O.o ?_
     ·intro _ y;go_simp
     refine jA (i:=4) (j:=8) rfl rfl (by kernel_rfl) (by rfl) (by rfl) (fun K hK=>?_) (fun K hK=>?_)
     ·go_simp;have f5:=kT B u rr d _ SS.o.ps;rw[hn]at f5;refine f5.mono ?_;rintro e v51 ⟨rfl,n5⟩;have d4:=hI (SS.o.below n5);have g6:=hI (O.o.below n5);refine kK hK g6.o ?_;clear hK K;refine jA (i:=5) (j:=8) rfl rfl (by kernel_rfl) (by rfl) (by rfl) (fun K hK=>?_) (fun K hK=>?_)
      ·go_simp;refine(qQ8 B u rr d _ d4.o.ps).mono ?_;rintro e v9 ⟨rfl,hg⟩;exact⟨rfl,rfl,qR d4.o.gr hg⟩
      ·go_simp;have n2:=hI (d4.o.alloc jY);have p4:=hI (g6.o.below ((Below.refl _ _).alloc (Nat.le_refl _) jY));unfold jY at *;refine kK hK p4.o ?_;clear hK K;refine wOn 5 fun K hK=>?_
       go_simp;refine(qQ8 B u rr d _ n2.o.ps).mono ?_;rintro e v9 ⟨rfl,hg⟩;exact⟨rfl,rfl,qR n2.o.gr hg⟩
     ·go_simp;have n3:=hI (SS.o.alloc jY);have g7:=hI (O.o.below ((Below.refl _ _).alloc (Nat.le_refl _) jY));unfold jY at *;refine kK hK g7.o ?_;clear hK K;refine wOn 4 fun K hK=>?_
      go_simp;have f6:=kT B u rr d _ n3.o.ps;rw[hn]at f6;refine f6.mono ?_;rintro e M4 ⟨rfl,n6⟩;have n4:=hI (n3.o.below n6);have p5:=hI (g7.o.below n6);refine kK hK p5.o ?_;clear hK K;refine wOn 5 fun K hK=>?_
      go_simp;refine(qQ8 B u rr d _ n4.o.ps).mono ?_;rintro e v9 ⟨rfl,hg⟩;exact⟨rfl,rfl,qR n4.o.gr hg⟩
    intro a' w' s5 s6;refine⟨s5,?_⟩;have n7:(zG kind false) (t :: u :: rr)=.bad u.line u.col 30:=by simp only[bF,if_false,if_true,reduceIte,bN,bM,bO,bU,bP,bV,bW,bB,bA,bT,lN,lC,lA,zG,jV,n9,hn,PR.bind,qX]
    rw[n7];exact⟨rfl,s6⟩
   case true =>
    have d8:u.text≠[]:=qXe S4.o.ps.ends (by simp[kR]at hn;omega);go_wp2_with fail
    have d7:∀ (W:World),vP B (u :: rr) d W->Calls prog 125 #[.pointer (some ⟨B,0,none⟩)] W fun e w'=>e=.returned (.bool true)/\Below W.1.size W w':=fun W h=>by have:=kT B u rr d W h;rw[hn]at this;exact this
    have p3:=hI d7;clear d7;refine qXG (fun a N=>((((((((a.put (some 18) (.agg #[.int .i64 t.kind, .string ⟨t.text.toArray⟩, .int .u64 t.num, .int .i64 t.line, .int .i64 t.col])).put (some 19) (.string ⟨kind.toArray⟩)).put (some 20) (.pointer (some ⟨B,0,none⟩))).put (some 21) (.pointer (some ⟨B,0,none⟩))).put (some 22) (.bool true)).put (some 23) (.agg #[.int .i64 u.kind, .string ⟨u.text.toArray⟩, .int .u64 u.num, .int .i64 u.line, .int .i64 u.col])).put (some 24) (.string ⟨u.text.toArray⟩)).put (some 25) (.agg #[.string ⟨kind.toArray⟩, .string ⟨u.text.toArray⟩, .int .u64 0, .int .i64 t.line, .int .i64 t.col, .slice none 0 0])).put (some 8) (.pointer (some ⟨N,0,none⟩))) (fun N w'=>St w B rr d w'/\Nd N kind u.text 0 t.line t.col (.slice none 0 0) [] w'/\w.1.size < N/\wH w3.1.size t w') ?_ ?_
    ·refine wW (S:=fun w'=>wH w3.1.size t w') (tail:=fun _=>false) (by kernel_rfl) ?_;change vR _ _ _ _ _ _ _ _ _ (World.drew _);have SS:=hI S4.o.drew;have O:=hI (L4.o.below (Below.refl _ _).drew);generalize World.drew _=wd at *;have F9:=SS.o.lt;have G0:=O.o.lt;refine wTk 0 18 (.agg #[.int .i64 t.kind, .string ⟨t.text.toArray⟩, .int .u64 t.num, .int .i64 t.line, .int .i64 t.col]) ?_ O.o ?_
     ·intro _ y;have⟨h0,h1,h2,h3,h4,_⟩:=y.a;go_simp
     refine wTk 1 19 (.string ⟨kind.toArray⟩) ?_ O.o ?_
     ·intro _ y;go_simp
     refine wTk 2 20 (.pointer (some ⟨B,0,none⟩)) ?_ O.o ?_
     ·intro _ y;go_simp
     refine wTk 3 21 (.pointer (some ⟨B,0,none⟩)) ?_ O.o ?_
     ·intro _ y;go_simp
     refine jA (i:=4) (j:=8) rfl rfl (by kernel_rfl) (by rfl) (by rfl) (fun K hK=>?_) (fun K hK=>?_)
     ·go_simp;refine(p3.o _ SS.o.ps).mono ?_;rintro e v7 ⟨rfl,hb⟩;have d5:=hI (SS.o.below hb);have f3:=hI (O.o.below hb);have F6:=d5.o.lt;have F4:=f3.o.lt;refine kK hK f3.o ?_;clear hK K;refine jA (i:=5) (j:=8) rfl rfl (by kernel_rfl) (by rfl) (by rfl) (fun K hK=>?_) (fun K hK=>?_)
      ·go_simp;refine(vB B u rr d _ d5.o.ps d8).mono ?_;rintro e p1 ⟨rfl,hP,hg⟩;have X:=hI (d5.o.call hP hg);have s:=hI (f3.o.grown hg (by simp;omega));have D0:=X.o.lt;have s7:=s.o.lt;unfold vT xA;refine kK hK s.o ?_;clear hK K;refine wTk 6 24 (.string ⟨u.text.toArray⟩) ?_ s.o ?_
       ·intro _ y;go_simp
       refine jA (i:=7) (j:=8) rfl rfl (by kernel_rfl) (by rfl) (by rfl) (fun K hK=>?_) (fun K hK=>?_)
       ·go_simp;have Y:=jI t ⟨kind.toArray⟩ ⟨(u.text).toArray⟩;unfold vT xA at Y;refine(Y _).mono ?_;rintro e G8 ⟨rfl,hb⟩;have d2:=hI (X.o.below hb);have z:=hI (s.o.below hb);have D1:=d2.o.lt;have s8:=z.o.lt;refine kK hK z.o ?_;clear hK K;refine wOn 8 fun K hK=>?_
        go_simp;refine kK hK (z.o.below ((Below.refl _ _).alloc (Nat.le_refl _) _)) ?_;clear hK K;refine wOn 9 fun K hK=>?_
        go_simp;refine kK hK (z.o.below ((Below.refl _ _).alloc (Nat.le_refl _) _)) ?_;clear hK K;refine wDn ?_ _;exact⟨_,by simp only[Act.put,pZa,pZb,pZc],d2.o.alloc _,Nd.new kind u.text 0 t.line t.col _,d2.o.lt,z.o.below ((Below.refl _ _).alloc (Nat.le_refl _) _)⟩
       ·go_simp;have p6:=hI (X.o.alloc jY);have f7:=hI (s.o.below ((Below.refl _ _).alloc (Nat.le_refl _) jY));have g8:=hI (zI.new [] [] 0 0 0 (.slice none 0 0) p1);have r6:=g8.o.lt;have t5:=X.o.lt;unfold jY at *;refine kK hK f7.o ?_;clear hK K;refine wOn 7 fun K hK=>?_
        go_simp;have Y:=jI t ⟨kind.toArray⟩ ⟨(u.text).toArray⟩;unfold vT xA at Y;refine(Y _).mono ?_;rintro e G9 ⟨rfl,hb⟩;have m4:=hI (p6.o.below hb);have A:=hI (f7.o.below hb);have R:=hI (g8.o.below hb);have r7:=R.o.lt;have D2:=m4.o.lt;have s9:=A.o.lt;refine kK hK A.o ?_;clear hK K;have⟨a0,a1,a2,a3,a4,a5,_⟩:=R.o.a;have⟨b0,b1,b2,b3,b4,b5,_⟩:=R.o.b;refine wOn 9 fun K hK=>?_
        go_simp;refine kK hK (A.o.grown (vQ _ p1.1.size _ _ _ _ _ _) (by simp;omega)) ?_;clear hK K;refine wDn ?_ _;exact⟨_,by simp only[Act.put,pZa,pZb,pZc],m4.o.six (by omega) _ _ _ _ _ _,⟨R.o.six kind u.text 0 t.line t.col (.slice none 0 0),zC.nil _ _⟩,by omega,A.o.grown (vQ _ p1.1.size _ _ _ _ _ _) (by simp;omega)⟩
      ·go_simp;have m5:=hI (d5.o.alloc jY);have f8:=hI (f3.o.below ((Below.refl _ _).alloc (Nat.le_refl _) jY));have g9:=hI (zI.new [] [] 0 0 0 (.slice none 0 0) v7);have r8:=g9.o.lt;have t6:=d5.o.lt;unfold jY at *;refine kK hK f8.o ?_;clear hK K;refine wOn 5 fun K hK=>?_
       go_simp;refine(vB B u rr d _ m5.o.ps d8).mono ?_;rintro e M0 ⟨rfl,hP,hg⟩;have m6:=hI (m5.o.call hP hg);have C:=hI (f8.o.grown hg (by simp;omega));have m0:=hI (g9.o.grown hg (by simp;omega));have r9:=m0.o.lt;have D3:=m6.o.lt;have t0:=C.o.lt;unfold vT xA;refine kK hK C.o ?_;clear hK K;refine wTk 6 24 (.string ⟨u.text.toArray⟩) ?_ C.o ?_
       ·intro _ y;go_simp
       refine wOn 7 fun K hK=>?_
       go_simp;have Y:=jI t ⟨kind.toArray⟩ ⟨(u.text).toArray⟩;unfold vT xA at Y;refine(Y _).mono ?_;rintro e M1 ⟨rfl,hb⟩;have m7:=hI (m6.o.below hb);have G:=hI (C.o.below hb);have U:=hI (m0.o.below hb);have s0:=U.o.lt;have D4:=m7.o.lt;have t1:=G.o.lt;refine kK hK G.o ?_;clear hK K;have⟨a0,a1,a2,a3,a4,a5,_⟩:=U.o.a;have⟨b0,b1,b2,b3,b4,b5,_⟩:=U.o.b;refine wOn 9 fun K hK=>?_
       go_simp;refine kK hK (G.o.grown (vQ _ v7.1.size _ _ _ _ _ _) (by simp;omega)) ?_;clear hK K;refine wDn ?_ _;exact⟨_,by simp only[Act.put,pZa,pZb,pZc],m7.o.six (by omega) _ _ _ _ _ _,⟨U.o.six kind u.text 0 t.line t.col (.slice none 0 0),zC.nil _ _⟩,by omega,G.o.grown (vQ _ v7.1.size _ _ _ _ _ _) (by simp;omega)⟩
     ·go_simp;have m9:=hI (SS.o.alloc jY);have f9:=hI (O.o.below ((Below.refl _ _).alloc (Nat.le_refl _) jY));have m1:=hI (zI.new [] [] 0 0 0 (.slice none 0 0) wd);have s1:=m1.o.lt;have t7:=SS.o.lt;unfold jY at *;refine kK hK f9.o ?_;clear hK K;refine wOn 4 fun K hK=>?_
      go_simp;refine(p3.o _ m9.o.ps).mono ?_;rintro e M2 ⟨rfl,hb⟩;have d3:=hI (m9.o.below hb);have Z:=hI (f9.o.below hb);have m2:=hI (m1.o.below hb);have s2:=m2.o.lt;have D5:=d3.o.lt;have t2:=Z.o.lt;refine kK hK Z.o ?_;clear hK K;refine wOn 5 fun K hK=>?_
      go_simp;refine(vB B u rr d _ d3.o.ps d8).mono ?_;rintro e v31 ⟨rfl,hP,hg⟩;have n0:=hI (d3.o.call hP hg);have I:=hI (Z.o.grown hg (by simp;omega));have m3:=hI (m2.o.grown hg (by simp;omega));have s3:=m3.o.lt;have D6:=n0.o.lt;have t3:=I.o.lt;unfold vT xA;refine kK hK I.o ?_;clear hK K;refine wTk 6 24 (.string ⟨u.text.toArray⟩) ?_ I.o ?_
      ·intro _ y;go_simp
      refine wOn 7 fun K hK=>?_
      go_simp;have Y:=jI t ⟨kind.toArray⟩ ⟨(u.text).toArray⟩;unfold vT xA at Y;refine(Y _).mono ?_;rintro e M3 ⟨rfl,hb⟩;have n1:=hI (n0.o.below hb);have J:=hI (I.o.below hb);have V:=hI (m3.o.below hb);have s4:=V.o.lt;have D7:=n1.o.lt;have t4:=J.o.lt;refine kK hK J.o ?_;clear hK K;have⟨a0,a1,a2,a3,a4,a5,_⟩:=V.o.a;have⟨b0,b1,b2,b3,b4,b5,_⟩:=V.o.b;refine wOn 9 fun K hK=>?_
      go_simp;refine kK hK (J.o.grown (vQ _ wd.1.size _ _ _ _ _ _) (by simp;omega)) ?_;clear hK K;refine wDn ?_ _;exact⟨_,by simp only[Act.put,pZa,pZb,pZc],n1.o.six (by omega) _ _ _ _ _ _,⟨V.o.six kind u.text 0 t.line t.col (.slice none 0 0),zC.nil _ _⟩,by omega,J.o.grown (vQ _ wd.1.size _ _ _ _ _ _) (by simp;omega)⟩
    intro N w5 ⟨hS5,hN5,hwN,hL5⟩;try simp only[Act.put,pZa,pZb,pZc]
    have S5:=hI hS5;have N5:=hI hN5;have l0:=hL5.c0;have l1:=hL5.c1;have F0:=hL5.c2;have F1:=hL5.c3;have F2:=hL5.c4;clear hS5 hN5 hL5 S4 L4;have H:=hI (jI t ⟨zB.toArray⟩ ⟨t.text.toArray⟩);go_wp2_with fail
    refine(H.o _).mono ?_;rintro e r1 ⟨rfl,d6⟩;have n8:=hI (S5.o.below d6);have f4:=hI (N5.o.below d6);clear S5 N5;clear H d6;have p9:=qVb (t:=.mk zB t.text 0 t.line t.col []) n8.o f4.o.nd hwN (zC.nil _ r1.1.size) (Nat.succ_le_of_lt f4.o.lt) (Nat.le_refl _);have p2:=hI p9;have SC:=n8.o;have NC:=f4.o;have t9:=SC.lt;have hs2:=NC.lt;have F7:=NC.nd.f 5 nL;have hr:=SC.res;have⟨r0,G7,r2,r3,r4,r5,_⟩:=hr.a;have⟨g0,g1,g2,g3,g4,g5,_⟩:=hr.b;clear hr;have hq:=NC.nd;have⟨G1,G2,G3,G4,G5,G6,_⟩:=hq.a;clear hq;clear p9 n8 f4 SC NC l0 l1 F0 F1 F2;go_wp2
    refine bodyPost_ret (v:=qZ (.mk kind u.text 0 t.line t.col [.mk zB t.text 0 t.line t.col []]) (.slice (some ⟨r1.1.size,0,none⟩) 1 1)) (by simp[results,results103,go_sem,qZ,qQ.kind,qQ.text,qQ.num,qQ.line,qQ.col,qQ.kids,qY,qG,qC,qO,zB,zD,zX,qE,kIf,zS,qA,qV,qF,qD,qP,qW,qN,zW,zM,qL,qM,qT,zK,zL,qH,zA, *]) rfl ?_;have p0:(zG kind false) (t :: u :: rr)=.ok (.mk kind u.text 0 t.line t.col [.mk zB t.text 0 t.line t.col []]) rr:=by simp only[bF,if_false,if_true,reduceIte,bN,bM,bO,bU,bP,bV,bW,bB,bA,bT,lN,lC,lA,zG,jV,n9,hn,PR.bind,qX]
    rw[p0];exact p2.o.1.finA (by simpa using t9) (p2.o.2.bd.mono (by omega)) _ _ _ _ _ _
 case true =>
  have D8:t.text≠[]:=D9 hv;clear D9;have H:=hI (vB B t r d _ S0.o.ps D8);go_wp2_with fail
  refine(H.o).mono ?_;rintro e w1 ⟨rfl,hP1,hg1⟩;have S1:=hI (S0.o.call hP1 hg1);clear S0;clear H hP1 hg1;unfold vT xA at *;have F8:w.1.size < w1.1.size:=S1.o.lt;have L2:=hI (wH.newO t w1);have S2:=hI (S1.o.alloc (qXT t));clear S1;unfold qXT at *;obtain⟨u,rr,t8⟩:=S2.o.ps.ends.ne;subst t8;cases hn:(kR u);case false =>
   go_wp2_with fail
   refine wp_pan [{ v:=qXo u.line u.col 30,recovered:=false }] (fun w'=>w.grownBy w' (some B)) ?_ ?_
   ·refine wW (S:=fun w'=>wH w1.1.size t w') (tail:=fun _=>false) (by kernel_rfl) ?_;change vR _ _ _ _ _ _ _ _ _ (World.drew _);have SS:=hI S2.o.drew;have O:=hI (L2.o.below (Below.refl _ _).drew);generalize World.drew _=wd at *;refine wTk 0 18 (.agg #[.int .i64 t.kind, .string ⟨t.text.toArray⟩, .int .u64 t.num, .int .i64 t.line, .int .i64 t.col]) ?_ O.o ?_
    ·intro _ y;have⟨h0,h1,h2,h3,h4,_⟩:=y.a;go_simp
    refine wTk 1 19 (.string ⟨kind.toArray⟩) ?_ O.o ?_
    ·intro _ y;go_simp
    refine wTk 2 20 (.pointer (some ⟨B,0,none⟩)) ?_ O.o ?_
    ·intro _ y;go_simp
    refine wTk 3 21 (.pointer (some ⟨B,0,none⟩)) ?_ O.o ?_
    ·intro _ y;go_simp
    refine jA (i:=4) (j:=8) rfl rfl (by kernel_rfl) (by rfl) (by rfl) (fun K hK=>?_) (fun K hK=>?_)
    ·go_simp;have f5:=kT B u rr d _ SS.o.ps;rw[hn]at f5;refine f5.mono ?_;rintro e v51 ⟨rfl,n5⟩;have d4:=hI (SS.o.below n5);have g6:=hI (O.o.below n5);refine kK hK g6.o ?_;clear hK K;refine jA (i:=5) (j:=8) rfl rfl (by kernel_rfl) (by rfl) (by rfl) (fun K hK=>?_) (fun K hK=>?_)
     ·go_simp;refine(qQ8 B u rr d _ d4.o.ps).mono ?_;rintro e v9 ⟨rfl,hg⟩;exact⟨rfl,rfl,qR d4.o.gr hg⟩
     ·go_simp;have n2:=hI (d4.o.alloc jY);have p4:=hI (g6.o.below ((Below.refl _ _).alloc (Nat.le_refl _) jY));unfold jY at *;refine kK hK p4.o ?_;clear hK K;refine wOn 5 fun K hK=>?_
      go_simp;refine(qQ8 B u rr d _ n2.o.ps).mono ?_;rintro e v9 ⟨rfl,hg⟩;exact⟨rfl,rfl,qR n2.o.gr hg⟩
    ·go_simp;have n3:=hI (SS.o.alloc jY);have g7:=hI (O.o.below ((Below.refl _ _).alloc (Nat.le_refl _) jY));unfold jY at *;refine kK hK g7.o ?_;clear hK K;refine wOn 4 fun K hK=>?_
     go_simp;have f6:=kT B u rr d _ n3.o.ps;rw[hn]at f6;refine f6.mono ?_;rintro e M4 ⟨rfl,n6⟩;have n4:=hI (n3.o.below n6);have p5:=hI (g7.o.below n6);refine kK hK p5.o ?_;clear hK K;refine wOn 5 fun K hK=>?_
     go_simp;refine(qQ8 B u rr d _ n4.o.ps).mono ?_;rintro e v9 ⟨rfl,hg⟩;exact⟨rfl,rfl,qR n4.o.gr hg⟩
   intro a' w' s5 s6;refine⟨s5,?_⟩;have n7:(zG kind true) (t :: u :: rr)=.bad u.line u.col 30:=by simp only[bF,if_false,if_true,reduceIte,bN,bM,bO,bU,bP,bV,bW,bB,bA,bT,lN,lC,lA,zG,jV,hn,PR.bind,qX]
   rw[n7];exact⟨rfl,s6⟩
  case true =>
   have d8:u.text≠[]:=qXe S2.o.ps.ends (by simp[kR]at hn;omega);go_wp2_with fail
   have d7:∀ (W:World),vP B (u :: rr) d W->Calls prog 125 #[.pointer (some ⟨B,0,none⟩)] W fun e w'=>e=.returned (.bool true)/\Below W.1.size W w':=fun W h=>by have:=kT B u rr d W h;rw[hn]at this;exact this
   have p3:=hI d7;clear d7;refine qXG (fun a N=>((((((((a.put (some 18) (.agg #[.int .i64 t.kind, .string ⟨t.text.toArray⟩, .int .u64 t.num, .int .i64 t.line, .int .i64 t.col])).put (some 19) (.string ⟨kind.toArray⟩)).put (some 20) (.pointer (some ⟨B,0,none⟩))).put (some 21) (.pointer (some ⟨B,0,none⟩))).put (some 22) (.bool true)).put (some 23) (.agg #[.int .i64 u.kind, .string ⟨u.text.toArray⟩, .int .u64 u.num, .int .i64 u.line, .int .i64 u.col])).put (some 24) (.string ⟨u.text.toArray⟩)).put (some 25) (.agg #[.string ⟨kind.toArray⟩, .string ⟨u.text.toArray⟩, .int .u64 0, .int .i64 t.line, .int .i64 t.col, .slice none 0 0])).put (some 8) (.pointer (some ⟨N,0,none⟩))) (fun N w'=>St w B rr d w'/\Nd N kind u.text 0 t.line t.col (.slice none 0 0) [] w'/\w.1.size < N/\wH w1.1.size t w') ?_ ?_
   ·refine wW (S:=fun w'=>wH w1.1.size t w') (tail:=fun _=>false) (by kernel_rfl) ?_;change vR _ _ _ _ _ _ _ _ _ (World.drew _);have SS:=hI S2.o.drew;have O:=hI (L2.o.below (Below.refl _ _).drew);generalize World.drew _=wd at *;have F9:=SS.o.lt;have G0:=O.o.lt;refine wTk 0 18 (.agg #[.int .i64 t.kind, .string ⟨t.text.toArray⟩, .int .u64 t.num, .int .i64 t.line, .int .i64 t.col]) ?_ O.o ?_
    ·intro _ y;have⟨h0,h1,h2,h3,h4,_⟩:=y.a;go_simp
    refine wTk 1 19 (.string ⟨kind.toArray⟩) ?_ O.o ?_
    ·intro _ y;go_simp
    refine wTk 2 20 (.pointer (some ⟨B,0,none⟩)) ?_ O.o ?_
    ·intro _ y;go_simp
    refine wTk 3 21 (.pointer (some ⟨B,0,none⟩)) ?_ O.o ?_
    ·intro _ y;go_simp
    refine jA (i:=4) (j:=8) rfl rfl (by kernel_rfl) (by rfl) (by rfl) (fun K hK=>?_) (fun K hK=>?_)
    ·go_simp;refine(p3.o _ SS.o.ps).mono ?_;rintro e v7 ⟨rfl,hb⟩;have d5:=hI (SS.o.below hb);have f3:=hI (O.o.below hb);have F6:=d5.o.lt;have F4:=f3.o.lt;refine kK hK f3.o ?_;clear hK K;refine jA (i:=5) (j:=8) rfl rfl (by kernel_rfl) (by rfl) (by rfl) (fun K hK=>?_) (fun K hK=>?_)
     ·go_simp;refine(vB B u rr d _ d5.o.ps d8).mono ?_;rintro e p1 ⟨rfl,hP,hg⟩;have X:=hI (d5.o.call hP hg);have s:=hI (f3.o.grown hg (by simp;omega));have D0:=X.o.lt;have s7:=s.o.lt;unfold vT xA;refine kK hK s.o ?_;clear hK K;refine wTk 6 24 (.string ⟨u.text.toArray⟩) ?_ s.o ?_
      ·intro _ y;go_simp
      refine jA (i:=7) (j:=8) rfl rfl (by kernel_rfl) (by rfl) (by rfl) (fun K hK=>?_) (fun K hK=>?_)
      ·go_simp;have Y:=jI t ⟨kind.toArray⟩ ⟨(u.text).toArray⟩;unfold vT xA at Y;refine(Y _).mono ?_;rintro e G8 ⟨rfl,hb⟩;have d2:=hI (X.o.below hb);have z:=hI (s.o.below hb);have D1:=d2.o.lt;have s8:=z.o.lt;refine kK hK z.o ?_;clear hK K;refine wOn 8 fun K hK=>?_
       go_simp;refine kK hK (z.o.below ((Below.refl _ _).alloc (Nat.le_refl _) _)) ?_;clear hK K;refine wOn 9 fun K hK=>?_
       go_simp;refine kK hK (z.o.below ((Below.refl _ _).alloc (Nat.le_refl _) _)) ?_;clear hK K;refine wDn ?_ _;exact⟨_,by simp only[Act.put,pZa,pZb,pZc],d2.o.alloc _,Nd.new kind u.text 0 t.line t.col _,d2.o.lt,z.o.below ((Below.refl _ _).alloc (Nat.le_refl _) _)⟩
      ·go_simp;have p6:=hI (X.o.alloc jY);have f7:=hI (s.o.below ((Below.refl _ _).alloc (Nat.le_refl _) jY));have g8:=hI (zI.new [] [] 0 0 0 (.slice none 0 0) p1);have r6:=g8.o.lt;have t5:=X.o.lt;unfold jY at *;refine kK hK f7.o ?_;clear hK K;refine wOn 7 fun K hK=>?_
       go_simp;have Y:=jI t ⟨kind.toArray⟩ ⟨(u.text).toArray⟩;unfold vT xA at Y;refine(Y _).mono ?_;rintro e G9 ⟨rfl,hb⟩;have m4:=hI (p6.o.below hb);have A:=hI (f7.o.below hb);have R:=hI (g8.o.below hb);have r7:=R.o.lt;have D2:=m4.o.lt;have s9:=A.o.lt;refine kK hK A.o ?_;clear hK K;have⟨a0,a1,a2,a3,a4,a5,_⟩:=R.o.a;have⟨b0,b1,b2,b3,b4,b5,_⟩:=R.o.b;refine wOn 9 fun K hK=>?_
       go_simp;refine kK hK (A.o.grown (vQ _ p1.1.size _ _ _ _ _ _) (by simp;omega)) ?_;clear hK K;refine wDn ?_ _;exact⟨_,by simp only[Act.put,pZa,pZb,pZc],m4.o.six (by omega) _ _ _ _ _ _,⟨R.o.six kind u.text 0 t.line t.col (.slice none 0 0),zC.nil _ _⟩,by omega,A.o.grown (vQ _ p1.1.size _ _ _ _ _ _) (by simp;omega)⟩
     ·go_simp;have m5:=hI (d5.o.alloc jY);have f8:=hI (f3.o.below ((Below.refl _ _).alloc (Nat.le_refl _) jY));have g9:=hI (zI.new [] [] 0 0 0 (.slice none 0 0) v7);have r8:=g9.o.lt;have t6:=d5.o.lt;unfold jY at *;refine kK hK f8.o ?_;clear hK K;refine wOn 5 fun K hK=>?_
      go_simp;refine(vB B u rr d _ m5.o.ps d8).mono ?_;rintro e M0 ⟨rfl,hP,hg⟩;have m6:=hI (m5.o.call hP hg);have C:=hI (f8.o.grown hg (by simp;omega));have m0:=hI (g9.o.grown hg (by simp;omega));have r9:=m0.o.lt;have D3:=m6.o.lt;have t0:=C.o.lt;unfold vT xA;refine kK hK C.o ?_;clear hK K;refine wTk 6 24 (.string ⟨u.text.toArray⟩) ?_ C.o ?_
      ·intro _ y;go_simp
      refine wOn 7 fun K hK=>?_
      go_simp;have Y:=jI t ⟨kind.toArray⟩ ⟨(u.text).toArray⟩;unfold vT xA at Y;refine(Y _).mono ?_;rintro e M1 ⟨rfl,hb⟩;have m7:=hI (m6.o.below hb);have G:=hI (C.o.below hb);have U:=hI (m0.o.below hb);have s0:=U.o.lt;have D4:=m7.o.lt;have t1:=G.o.lt;refine kK hK G.o ?_;clear hK K;have⟨a0,a1,a2,a3,a4,a5,_⟩:=U.o.a;have⟨b0,b1,b2,b3,b4,b5,_⟩:=U.o.b;refine wOn 9 fun K hK=>?_
      go_simp;refine kK hK (G.o.grown (vQ _ v7.1.size _ _ _ _ _ _) (by simp;omega)) ?_;clear hK K;refine wDn ?_ _;exact⟨_,by simp only[Act.put,pZa,pZb,pZc],m7.o.six (by omega) _ _ _ _ _ _,⟨U.o.six kind u.text 0 t.line t.col (.slice none 0 0),zC.nil _ _⟩,by omega,G.o.grown (vQ _ v7.1.size _ _ _ _ _ _) (by simp;omega)⟩
    ·go_simp;have m9:=hI (SS.o.alloc jY);have f9:=hI (O.o.below ((Below.refl _ _).alloc (Nat.le_refl _) jY));have m1:=hI (zI.new [] [] 0 0 0 (.slice none 0 0) wd);have s1:=m1.o.lt;have t7:=SS.o.lt;unfold jY at *;refine kK hK f9.o ?_;clear hK K;refine wOn 4 fun K hK=>?_
     go_simp;refine(p3.o _ m9.o.ps).mono ?_;rintro e M2 ⟨rfl,hb⟩;have d3:=hI (m9.o.below hb);have Z:=hI (f9.o.below hb);have m2:=hI (m1.o.below hb);have s2:=m2.o.lt;have D5:=d3.o.lt;have t2:=Z.o.lt;refine kK hK Z.o ?_;clear hK K;refine wOn 5 fun K hK=>?_
     go_simp;refine(vB B u rr d _ d3.o.ps d8).mono ?_;rintro e v31 ⟨rfl,hP,hg⟩;have n0:=hI (d3.o.call hP hg);have I:=hI (Z.o.grown hg (by simp;omega));have m3:=hI (m2.o.grown hg (by simp;omega));have s3:=m3.o.lt;have D6:=n0.o.lt;have t3:=I.o.lt;unfold vT xA;refine kK hK I.o ?_;clear hK K;refine wTk 6 24 (.string ⟨u.text.toArray⟩) ?_ I.o ?_
     ·intro _ y;go_simp
     refine wOn 7 fun K hK=>?_
     go_simp;have Y:=jI t ⟨kind.toArray⟩ ⟨(u.text).toArray⟩;unfold vT xA at Y;refine(Y _).mono ?_;rintro e M3 ⟨rfl,hb⟩;have n1:=hI (n0.o.below hb);have J:=hI (I.o.below hb);have V:=hI (m3.o.below hb);have s4:=V.o.lt;have D7:=n1.o.lt;have t4:=J.o.lt;refine kK hK J.o ?_;clear hK K;have⟨a0,a1,a2,a3,a4,a5,_⟩:=V.o.a;have⟨b0,b1,b2,b3,b4,b5,_⟩:=V.o.b;refine wOn 9 fun K hK=>?_
     go_simp;refine kK hK (J.o.grown (vQ _ wd.1.size _ _ _ _ _ _) (by simp;omega)) ?_;clear hK K;refine wDn ?_ _;exact⟨_,by simp only[Act.put,pZa,pZb,pZc],n1.o.six (by omega) _ _ _ _ _ _,⟨V.o.six kind u.text 0 t.line t.col (.slice none 0 0),zC.nil _ _⟩,by omega,J.o.grown (vQ _ wd.1.size _ _ _ _ _ _) (by simp;omega)⟩
   intro N w5 ⟨hS5,hN5,hwN,hL5⟩;try simp only[Act.put,pZa,pZb,pZc]
   have S5:=hI hS5;have N5:=hI hN5;have l0:=hL5.c0;have l1:=hL5.c1;have F0:=hL5.c2;have F1:=hL5.c3;have F2:=hL5.c4;clear hS5 hN5 hL5 S2 L2;have H:=hI (jI t ⟨zB.toArray⟩ ⟨t.text.toArray⟩);go_wp2_with fail
   refine(H.o _).mono ?_;rintro e r1 ⟨rfl,d6⟩;have n8:=hI (S5.o.below d6);have f4:=hI (N5.o.below d6);clear S5 N5;clear H d6;have p9:=qVb (t:=.mk zB t.text 0 t.line t.col []) n8.o f4.o.nd hwN (zC.nil _ r1.1.size) (Nat.succ_le_of_lt f4.o.lt) (Nat.le_refl _);have p2:=hI p9;have SC:=n8.o;have NC:=f4.o;have t9:=SC.lt;have hs2:=NC.lt;have F7:=NC.nd.f 5 nL;have hr:=SC.res;have⟨r0,G7,r2,r3,r4,r5,_⟩:=hr.a;have⟨g0,g1,g2,g3,g4,g5,_⟩:=hr.b;clear hr;have hq:=NC.nd;have⟨G1,G2,G3,G4,G5,G6,_⟩:=hq.a;clear hq;clear p9 n8 f4 SC NC l0 l1 F0 F1 F2;go_wp2
   refine bodyPost_ret (v:=qZ (.mk kind u.text 0 t.line t.col [.mk zB t.text 0 t.line t.col []]) (.slice (some ⟨r1.1.size,0,none⟩) 1 1)) (by simp[results,results103,go_sem,qZ,qQ.kind,qQ.text,qQ.num,qQ.line,qQ.col,qQ.kids,qY,qG,qC,qO,zB,zD,zX,qE,kIf,zS,qA,qV,qF,qD,qP,qW,qN,zW,zM,qL,qM,qT,zK,zL,qH,zA, *]) rfl ?_;have p0:(zG kind true) (t :: u :: rr)=.ok (.mk kind u.text 0 t.line t.col [.mk zB t.text 0 t.line t.col []]) rr:=by simp only[bF,if_false,if_true,reduceIte,bN,bM,bO,bU,bP,bV,bW,bB,bA,bT,lN,lC,lA,zG,jV,hn,PR.bind,qX]
   rw[p0];exact p2.o.1.finA (by simpa using t9) (p2.o.2.bd.mono (by omega)) _ _ _ _ _ _
theorem qK2:yR 107:=fun args w=>by simp[go_sem,func107]
theorem enters94:yR 105:=fun args w=>by simp[go_sem,func105]
theorem qVz:yR 158:=fun args w=>by simp[go_sem,func158]
theorem enters146:yR 173:=fun args w=>by simp[go_sem,func173]
theorem qY6:yR 181:=fun args w=>by simp[go_sem,func181]
theorem enters119:yR 141:=fun args w=>by simp[go_sem,func141]
theorem enters120:yR 142:=fun args w=>by simp[go_sem,func142]
theorem enters121:yR 143:=fun args w=>by simp[go_sem,func143]
theorem enters122:yR 144:=fun args w=>by simp[go_sem,func144]
theorem enters123:yR 145:=fun args w=>by simp[go_sem,func145]
theorem enters124:yR 146:=fun args w=>by simp[go_sem,func146]
theorem qL0(x:List UInt8):yR (qXy x):=by
 unfold qXy;split
 ·exact enters119
 split
 ·exact enters120
 split
 ·exact enters121
 split
 ·exact enters122
 split
 ·exact enters123
 ·exact enters124
theorem qKo(kind:List UInt8)(d:Int):vM 103 (fun p=>#[p, .string ⟨kind.toArray⟩, .bool false]) d (zG kind false):=fun B l w h hno=>qKl kind false d B l w h (fun e=>by cases e) hno
structure AllAt(n:Nat)(d:Int):Prop where
 block:vM 107 (fun p=>#[p]) d (qQd n .block d)
 binary:∀ k,0<=k->k<=10->vM 172 (fun p=>#[p, .int .i64 k]) d (qQd n (.binary k) d)
 operand:vM 181 (fun p=>#[p]) d (qQd n .operand d)
theorem stmt_does(rec:NT->Int->List Tok->PR qQ)(n:Nat)(d:Int)(y:vM 141 (fun p=>#[p]) d (vF rec d))(hlo:vM 142 (fun p=>#[p]) d (jK rec qA d))(C:vM 143 (fun p=>#[p]) d (yC rec d))
 (z:∀ (B:Nat) (l:List Tok) (w:World),vP B l d w->(hdT l).text≠[]->kL rec d l≠.out->Calls prog 144 #[.pointer (some ⟨B,0,none⟩)] w (qXV B d w (kL rec d l))) (A:vM 145 (fun p=>#[p]) d qQM) (s:vM 146 (fun p=>#[p]) d (jJ rec n d)) :
 ∀ (B:Nat) (l:List Tok) (w:World),vP B l d w->qQA rec n d l≠.out->Calls prog (qXy (hdT l).text) #[.pointer (some ⟨B,0,none⟩)] w (qXV B d w (qQA rec n d l)):=by
 intro B l w h j;unfold qQA at *;unfold qXy;cases o:((hdT l).text == kIf);case true=>simp only[o,if_true]at j ⊢;exact y B l w h j
 cases h2:((hdT l).text == qA);case true=>simp only[o,h2,if_true,bF,if_false]at j ⊢;exact hlo B l w h j
 cases h3:((hdT l).text == qV);case true=>simp only[o,h2,h3,if_true,bF,if_false]at j ⊢;exact C B l w h j
 cases h4:((hdT l).text == qF || (hdT l).text == qD);case true =>
  simp only[o,h2,h3,h4,if_true,bF,if_false]at j ⊢;exact z B l w h (fun e=>by rw[e]at h4;exact absurd h4 (by decide)) j
 cases G:yG (hdT l).text;case true=>simp only[o,h2,h3,h4,G,if_true,bF,if_false]at j ⊢;exact A B l w h j
 simp only[o,h2,h3,h4,G,bF,if_false]at j ⊢;exact s B l w h j
theorem all_at(n:Nat)(C:n<=900000):∀ d:Int,AllAt n d:=by
 induction n with
 | zero=>exact fun d=>⟨fun B l w h hno=>absurd rfl hno,fun k _ _ B l w h hno=>absurd rfl hno,fun B l w h hno=>absurd rfl hno⟩
 | succ n ih =>
  intro d;have H:=ih (by omega);have j:∀ d,vM 158 (fun p=>#[p]) d (qQh (qQd n) d):=fun d=>qWk (qQd n) d ((H d).binary 0 (by omega) (by omega))
  have o:∀ d,vM 161 (fun p=>#[p]) d (xF (qQd n) d):=fun d=>qLf (qQd n) d qVz (j (d+1))
  have s:∀ d,vM 173 (fun p=>#[p]) d (qPf (qQd n) d):=fun d=>qYD (qQd n) d qVz (j (d+1))
  have y:∀ d,vM 160 (fun p=>#[p]) d (qQz (qQd n) n d):=fun d=>call_does (qQd n) n d (by omega) enters146 (s d)
  have A:vM 157 (fun p=>#[p, .string ⟨qA.toArray⟩]) d (jK (qQd n) qA d):=qK9 (qQd n) qA d (by decide) qK2 (j d) (H (d+1)).block;have z:vM 157 (fun p=>#[p, .string ⟨kIf.toArray⟩]) d (jK (qQd n) kIf d):=qK9 (qQd n) kIf d (by decide) qK2 (j d) (H (d+1)).block;refine⟨?_,?_,?_⟩
  ·exact qLT (qQd n) n d (by omega) qL0 (stmt_does (qQd n) n d (qPp (qQd n) d qK2 z (H (d+1)).block) (loop_does (qQd n) d A) (leave_does (qQd n) d (j d)) (qLZ (qQd n) d (j d)) (local_does d (qKo qE d)) (qPd (qQd n) n d (y d) (o d) (j d)))
  ·exact fun k h0 h1=>qPi (qQd n) n k d h0 h1 (H d).operand (H d).binary
  ·exact qUS (qQd n) d qY6 (H (d+1)).operand (paren_does (qQd n) d qY6 qVz (H (d+1)).operand (j (d+1))) (o d)
theorem qP2(n:Nat)(j:n<=900000):vM 74 (fun p=>#[p]) 0 (xW n) :=
 qUW n j (item_does n 0 j qK2 enters94 (fun void B l w h hc hno=>qKl qG void 0 B l w h hc hno) (param_does 0 (qKo qO 0)) ((all_at n j 1).block))
def xP{α:Type}(m:Nat)(p:PR α):Prop:=p≠.out/\∀ a l,p=.ok a l->l.length < m
theorem xP.ok{α:Type}{m:Nat}(a:α){l:List Tok}(h:l.length < m):xP m (.ok a l):=⟨by simp,fun a' l' e=>by injection e with _ e;subst e;exact h⟩
theorem xP.bad{α:Type}(m:Nat)(ln c code:Int):xP m (.bad ln c code:PR α):=⟨by simp,fun a' l' e=>by cases e⟩
theorem xP.bind{α β:Type}{m m':Nat}{p:PR α}{f:α->List Tok->PR β}(h:xP m p)(hf:∀ a l,l.length < m->xP m' (f a l)):xP m' (p.bind f):=by
 cases p with
 | ok a l=>exact hf a l (h.2 a l rfl)
 | bad ln c code=>exact xP.bad _ _ _ _
 | out=>exact absurd rfl h.1
theorem xP.mono{α:Type}{m m':Nat}{p:PR α}(h:xP m p)(hm:m<=m'):xP m' p:=⟨h.1,fun a l e=>Nat.lt_of_lt_of_le (h.2 a l e) hm⟩
theorem kS(j:Bool)(l:List Tok):xP l.length (jV j l):=by
 cases l with
 | nil=>exact xP.bad _ _ _ _
 | cons t r =>
  rw[jV];split
  ·exact xP.ok _ (by simp)
  ·exact xP.bad _ _ _ _
theorem qWU:∀ (xs:List (List UInt8)) (l:List Tok),xP (l.length+1) (jL xs l)
 | [],l=>xP.ok _ (by simp)
 | x :: xs,l=>(kS _ l).bind fun _ l' h=>(qWU xs l').mono (by omega)
theorem jB(x:List UInt8)(xs:List (List UInt8))(l:List Tok):xP l.length (jL (x :: xs) l):=(kS _ l).bind fun _ l' h=>(qWU xs l').mono (by omega)
theorem fine_fail(m:Nat)(code:Int)(l:List Tok):xP m (qWQ code l:PR qQ):=xP.bad _ _ _ _
theorem wR{m:Nat}{d:Int}{p:Int->List Tok->PR qQ}{l:List Tok}(h:xP m (p (d+1) l)):xP m (xX d p l):=by
 unfold xX;split
 ·exact fine_fail _ _ _
 ·exact h
theorem qJ6{stop:Tok->Bool}{p:List Tok->PR qQ}:∀ (n:Nat) (acc:List qQ) (l:List Tok),l.length < n->(∀ l',l'.length<=l.length->xP l'.length (p l'))->xP (l.length+1) (vI stop p n acc l)
 | 0,_,_,h,_=>by omega
 | n+1,acc,l,h,hp=>by
  rw[vI];split
  ·exact xP.ok _ (by omega)
  ·exact(hp l (Nat.le_refl _)).bind fun t l' hl=>(qJ6 n (acc++[t]) l' (by omega) (fun l'' h''=>hp l'' (by omega))).mono (by omega)
theorem qXS(kind:List UInt8)(j:Bool)(l:List Tok):xP l.length (zG kind j l) :=
 (kS _ l).bind fun t l' h=>(kS _ l').bind fun u l'' h'=>xP.ok _ (by omega)
theorem qV1(l:List Tok):xP l.length (wQ l):=(kS _ l).bind fun t l' h=>xP.ok _ h
theorem qV0{n:Nat}{p:List Tok->PR qQ}{l:List Tok}(j:l.length<=n)(hp:∀ l',l'.length < l.length->xP l'.length (p l')):xP l.length (xT n p l):=by
 unfold xT;refine(jB [40] [] l).bind fun _ l1 h1=>?_
 split
 ·exact(jB [41] [] l1).bind fun _ l2 h2=>xP.ok _ (by omega)
 ·refine(hp l1 h1).bind fun t l2 h2=>?_
  refine(qJ6 n [t] l2 (by omega) (fun l' h'=>(jB [44] [] l').bind fun _ l3 h3=>(hp l3 (by omega)).mono (by omega))).bind fun ts l3 h3=>?_
  exact(jB [41] [] l3).bind fun _ l4 h4=>xP.ok _ (by omega)
section
variable {rec:NT->Int->List Tok->PR qQ} {n L:Nat}
structure qXj(rec:NT->Int->List Tok->PR qQ)(L:Nat):Prop where
 block:∀ d l,l.length < L->xP l.length (rec .block d l)
 binary:∀ k d l,l.length < L->xP l.length (rec (.binary k) d l)
 operand:∀ d l,l.length < L->xP l.length (rec .operand d l)
theorem qV2(H:qXj rec L)(d:Int)(l:List Tok)(hl:l.length<=L):xP l.length (xF rec d l):=by
 unfold xF;refine(kS _ l).bind fun t l1 h1=>?_
 split
 ·refine(jB [91] [] l1).bind fun _ l2 h2=>?_
  refine(wR (H.binary 0 (d+1) l2 (by omega))).bind fun e l3 h3=>?_
  exact(jB [93] [] l3).bind fun _ l4 h4=>xP.ok _ (by omega)
 ·exact xP.ok _ h1
theorem qL6(H:qXj rec L)(d:Int)(l:List Tok)(hl:l.length<=L):xP l.length (yJ rec d l):=by
 unfold yJ;refine(kS _ l).bind fun t l1 h1=>?_
 split
 ·refine(kS _ l1).bind fun u l2 h2=>?_
  refine(jB [41] [] l2).bind fun _ l3 h3=>?_
  exact(wR (H.operand (d+1) l3 (by omega))).bind fun e l4 h4=>xP.ok _ (by omega)
 ·refine(wR (H.binary 0 (d+1) l1 (by omega))).bind fun e l3 h3=>?_
  exact(jB [41] [] l3).bind fun _ l4 h4=>xP.ok _ (by omega)
theorem qUL(H:qXj rec L)(d:Int)(l:List Tok)(hl:l.length<=L):xP l.length (jU rec d l):=by
 unfold jU;split
 ·exact qV1 l
 split
 ·exact(kS _ l).bind fun u l1 h1=>xP.ok _ h1
 split
 ·refine(kS _ l).bind fun u l1 h1=>?_
  exact(wR (H.operand (d+1) l1 (by omega))).bind fun e l2 h2=>xP.ok _ (by omega)
 split
 ·exact qL6 H d l hl
 ·exact qV2 H d l hl
theorem qK4(H:qXj rec L)(k d:Int):∀ (m:Nat) (left:qQ) (l:List Tok),l.length < m->l.length<=L->xP (l.length+1) (kX rec k d m left l)
 | 0,_,_,h,_=>by omega
 | m+1,left,l,h,hl=>by
  rw[kX];split
  ·exact xP.ok _ (by omega)
  ·refine(kS _ l).bind fun t l1 h1=>?_
   refine(H.binary _ d l1 (by omega)).bind fun r l2 h2=>?_
   exact(qK4 H k d m _ l2 (by omega) (by omega)).mono (by omega)
theorem qPB(H:qXj rec L)(k d:Int)(l:List Tok)(hl:l.length<=L)(j:l.length<=n)(ho:xP l.length (rec .operand d l)):xP l.length (qQy rec n k d l):=by
 unfold qQy;exact ho.bind fun e l1 h1=>(qK4 H k d n e l1 (by omega) (by omega)).mono (by omega)
theorem qJ5(H:qXj rec L)(d:Int)(l:List Tok)(hl:l.length < L):xP l.length (qQh rec d l):=H.binary 0 d l hl
theorem qY8(H:qXj rec L)(d:Int)(l:List Tok)(hl:l.length<=L)(j:l.length<=n):xP l.length (qQz rec n d l):=by
 unfold qQz;refine(kS _ l).bind fun t l1 h1=>?_
 exact(qV0 (by omega) (fun l' h'=>wR (H.binary 0 (d+1) l' (by omega)))).bind fun ts l2 h2=>xP.ok _ (by omega)
theorem qPA(H:qXj rec L)(d:Int)(l:List Tok)(hl:l.length<=L)(j:l.length<=n):xP l.length (jJ rec n d l):=by
 unfold jJ;split
 ·exact(qY8 H d l hl j).bind fun t l1 h1=>(jB [59] [] l1).bind fun _ l2 h2=>xP.ok _ (by omega)
 ·refine(qV2 H d l hl).bind fun x l1 h1=>(jB [61] [] l1).bind fun _ l2 h2=>?_
  split
  ·exact(jB qW [[40],[41]] l2).bind fun _ l3 h3=>(jB [59] [] l3).bind fun _ l4 h4=>xP.ok _ (by omega)
  split
  ·exact(qY8 H d l2 (by omega) (by omega)).bind fun y l3 h3=>(jB [59] [] l3).bind fun _ l4 h4=>xP.ok _ (by omega)
  ·exact(qJ5 H d l2 (by omega)).bind fun y l3 h3=>(jB [59] [] l3).bind fun _ l4 h4=>xP.ok _ (by omega)
theorem qL3(H:qXj rec L)(d:Int)(l:List Tok)(hl:l.length<=L):xP l.length (kL rec d l):=by
 unfold kL;exact(kS _ l).bind fun t l1 h1=>(jB [40] [] l1).bind fun _ l2 h2=>(qJ5 H d l2 (by omega)).bind fun e l3 h3=>(jB [41] [[59]] l3).bind fun _ l4 h4=>xP.ok _ (by omega)
theorem qL4(H:qXj rec L)(d:Int)(l:List Tok)(hl:l.length<=L):xP l.length (yC rec d l):=by
 unfold yC;refine(jB qV [] l).bind fun _ l1 h1=>?_
 split
 ·exact(jB [59] [] l1).bind fun _ l2 h2=>xP.ok _ (by omega)
 ·exact(qJ5 H d l1 (by omega)).bind fun e l2 h2=>(jB [59] [] l2).bind fun _ l3 h3=>xP.ok _ (by omega)
theorem qK5(H:qXj rec L)(word:List UInt8)(d:Int)(l:List Tok)(hl:l.length<=L):xP l.length (jK rec word d l):=by
 unfold jK;exact(jB word [[40]] l).bind fun _ l1 h1=>(qJ5 H d l1 (by omega)).bind fun e l2 h2=>(jB [41] [] l2).bind fun _ l3 h3=>(wR (H.block (d+1) l3 (by omega))).bind fun b l4 h4=>xP.ok _ (by omega)
theorem qPC(H:qXj rec L)(d:Int)(l:List Tok)(hl:l.length<=L):xP l.length (vF rec d l):=by
 unfold vF;refine(qK5 H kIf d l hl).bind fun t l1 h1=>?_
 split
 ·exact(jB zS [] l1).bind fun _ l2 h2=>(wR (H.block (d+1) l2 (by omega))).bind fun b l3 h3=>xP.ok _ (by omega)
 ·exact xP.ok _ h1
theorem qL5(l:List Tok):xP l.length (qQM l):=(qXS _ _ l).bind fun t l1 h1=>(jB [59] [] l1).bind fun _ l2 h2=>xP.ok _ (by omega)
theorem fine_stmt(H:qXj rec L)(d:Int)(l:List Tok)(hl:l.length<=L)(j:l.length<=n):xP l.length (qQA rec n d l):=by
 unfold qQA;split
 ·exact qPC H d l hl
 split
 ·exact qK5 H _ d l hl
 split
 ·exact qL4 H d l hl
 split
 ·exact qL3 H d l hl
 split
 ·exact qL5 l
 ·exact qPA H d l hl j
theorem qL2(H:qXj rec L)(d:Int)(l:List Tok)(hl:l.length<=L)(j:l.length<=n):xP l.length (qQK rec n d l):=by
 unfold qQK;refine(jB [123] [] l).bind fun _ l1 h1=>?_
 exact(qJ6 n [] l1 (by omega) (fun l' h'=>fine_stmt H d l' (by omega) (by omega))).bind fun ts l2 h2=>(jB [125] [] l2).bind fun _ l3 h3=>xP.ok _ (by omega)
end
theorem fine_run:∀ (n:Nat),(∀ d l,2 * l.length+2<=n->xP l.length (qQd n .block d l))/\(∀ k d l,2 * l.length+2<=n->xP l.length (qQd n (.binary k) d l))/\∀ d l,2 * l.length+1<=n->xP l.length (qQd n .operand d l):=by
 intro n;induction n with
 | zero=>exact⟨fun d l h=>by omega,fun k d l h=>by omega,fun d l h=>by omega⟩
 | succ n ih =>
  have j:∀ L,2 * L<=n->qXj (qQd n) L:=fun L hL=>⟨fun d l hl=>ih.1 d l (by omega),fun k d l hl=>ih.2.1 k d l (by omega),fun d l hl=>ih.2.2 d l (by omega)⟩
  refine⟨fun d l h=>?_,fun k d l h=>?_,fun d l h=>?_⟩
  ·exact qL2 (j l.length (by omega)) d l (Nat.le_refl _) (by omega)
  ·exact qPB (j l.length (by omega)) k d l (Nat.le_refl _) (by omega) (ih.2.2 d l (by omega))
  ·exact qUL (j l.length (by omega)) d l (Nat.le_refl _)
theorem fine_item(n:Nat)(l:List Tok)(h:2 * l.length+2<=n):xP l.length (qZe n l):=by
 unfold qZe;refine(qXS _ _ l).bind fun t l1 h1=>?_
 split
 ·refine(qV0 (by omega) (fun l' h'=>qXS _ _ l')).bind fun ps l2 h2=>?_
  exact(wR ((fine_run n).1 (0+1) l2 (by omega))).bind fun b l3 h3=>xP.ok _ (by omega)
 split
 ·exact(jB [91] [] l1).bind fun _ l2 h2=>(qV1 l2).bind fun m l3 h3=>(jB [93] [] l3).bind fun _ l4 h4=>(jB [59] [] l4).bind fun _ l5 h5=>xP.ok _ (by omega)
 ·exact(jB [59] [] l1).bind fun _ l2 h2=>xP.ok _ (by omega)
theorem qP3(n:Nat)(l:List Tok)(h:2 * l.length+2<=n):xW n l≠.out:=by
 have:=(qJ6 (stop:=fun u=>u.kind == 3) n [] l (by omega) (fun l' h'=>fine_item n l' (by omega))).bind (m':=l.length+1) (f:=fun ts l'=>PR.ok (qQ.mk qY [] 0 (hdT l).line (hdT l).col ts) l') fun ts l' h'=>xP.ok _ h'
 exact this.1
theorem lex_long(s:ByteArray)(w:World)(hs:65536 < s.size) :
 Calls prog 8 #[.string s] w fun e w'=>e=.returned (.tuple #[.slice none 0 0, .int .i64 0, .int .i64 0, .int .i64 22])/\Below w.1.size w w':=by
 have j:(65536:Int) < (s.size:Int):=by omega
 go_enter func8,ntmps8
 go_wp2
 exact bodyPost_ret (v:=.tuple #[.slice none 0 0, .int .i64 0, .int .i64 0, .int .i64 22]) (by simp[results,results8,go_sem]) rfl ⟨rfl,Below.refl _ _⟩
def qZ4(s:List UInt8):PR qQ:=if s.length<=65536 then qJq 200000 s else .bad 0 0 22
theorem qP5(s:List UInt8)(h:s.length<=65536):qJq 200000 s≠.out:=by
 unfold qJq;cases hr:qQD s 1 1 with
 | bad a b c=>simp
 | ok l =>
  have:=(qUh hr).2.1;exact qP3 _ _ (by omega)
theorem read_long(s:ByteArray)(w:World)(hs:65536 < s.size):Calls prog 21 #[.string s] w (qJ1 w (.bad 0 0 22)):=by
 have A:=(Below.refl w.1.size w).alloc (Nat.le_refl _) jY;have H:=hI (lex_long s (w.alloc jY) hs);have y:=hI A;have z:=hI (zI.new [] [] 0 0 0 (.slice none 0 0) w);clear A;unfold jY at *;go_enter func21,ntmps21
 go_wp2_with fail
 refine(H.o).mono ?_;rintro e Z ⟨rfl,hB⟩;have j:=z.o.below hB;have C:=hI hB;have⟨O,R,U,V,X,Y,_⟩:=j.a;have⟨I,g1,g2,g3,g4,J,_⟩:=j.b;have G:=j.lt;clear j hB H z;go_wp2
 refine bodyPost_ret (v:=.tuple #[qXH, .int .i64 0, .int .i64 0, .int .i64 22]) (by simp[results,results21,go_sem,qXH, *]) rfl ?_;exact⟨rfl,qQb (qQU (zV (y.o.trans (C.o.mono y.o.size)) none) (Nat.le_refl _) _ _ _ _ _ _)⟩
theorem read_all(s:ByteArray)(w:World)(ht:Tab3 w):Calls prog 21 #[.string s] w (qJ1 w (qZ4 s.data.toList)):=by
 have hl:s.data.toList.length=s.size:=(qQQ s).symm;unfold qZ4;by_cases h:s.data.toList.length<=65536
 ·rw[if_pos h];exact read_any 200000 (qP2 200000 (by omega)) s w (by omega) ht (qP5 _ h)
 ·rw[if_neg h];exact read_long s w (by omega)
theorem qVG(s:List UInt8):qZ4 s≠.out:=by
 unfold qZ4;split
 ·rename_i h;exact qP5 s h
 ·simp
theorem lex_len(n:Nat)(l:List UInt8)(ln c:Int)(ts:List Tok)(I:l.length<=n)(h:qQD l ln c=.ok ts):0 < ts.length/\ts.length<=l.length+1/\(qZ5 (ts.map Tok.bare)).length<=2 * l.length:=by
 induction n generalizing l ln c ts with
 | zero =>
  obtain rfl:l=[]:=List.length_eq_zero_iff.mp (by omega);have e:qQD [] ln c=.ok [⟨3,[],0,ln,c⟩]:=rfl;rw[e]at h;cases h;exact⟨by simp,by simp,by simp[qZ5,Tok.bare]⟩
 | succ n ih =>
  rw[qJe]at h;have A:(vO l ln c).1.length<=l.length:=qZT l.length l ln c;generalize vO l ln c=s at *;by_cases o:s.1=[]
  ·rw[if_pos o]at h;cases h;exact⟨by simp,by simp,by simp[qZ5,Tok.bare]⟩
  ·rw[if_neg o]at h;by_cases j:wK s.1=0
   ·rw[if_pos j]at h;have hp:=qQW j;have z:=wG s.1;cases hr:qQD (s.1.drop (zZ s.1)) (kU (s.1.take (zZ s.1)) s.2.1 s.2.2).1 (kU (s.1.take (zZ s.1)) s.2.1 s.2.2).2 with
    | bad a b c=>rw[hr]at h;cases h
    | ok ts' =>
     rw[hr]at h;cases h;have hd:(s.1.drop (zZ s.1)).length=s.1.length - zZ s.1:=List.length_drop;obtain⟨C,G,a3⟩:=ih _ _ _ ts' (by omega) hr;refine⟨by simp,by simp;omega,?_⟩;have y:(qJX s.1 s.2.1 s.2.2).bare.kind=vA s.1:=rfl;have ht:(qJX s.1 s.2.1 s.2.2).bare.text=s.1.take (zZ s.1):=rfl;rw[List.map_cons,qZ5,if_neg (by rw[y];exact qVA _),ht,lL,lO,List.length_take];omega
   ·rw[if_neg j]at h;cases h
theorem qPN(n:Nat)(l:List UInt8)(ln c:Int){a b code:Int}(A:l.length<=n)(h:qQD l ln c=.bad a b code):code=20\/code=21:=by
 induction n generalizing l ln c with
 | zero =>
  obtain rfl:l=[]:=List.length_eq_zero_iff.mp (by omega);have e:qQD [] ln c=.ok [⟨3,[],0,ln,c⟩]:=rfl;rw[e]at h;cases h
 | succ n ih =>
  rw[qJe]at h;have z:(vO l ln c).1.length<=l.length:=qZT l.length l ln c;generalize vO l ln c=s at *;by_cases o:s.1=[]
  ·rw[if_pos o]at h;cases h
  ·rw[if_neg o]at h;by_cases j:wK s.1=0
   ·rw[if_pos j]at h;have hp:=qQW j;have y:=wG s.1;have hd:(s.1.drop (zZ s.1)).length=s.1.length - zZ s.1:=List.length_drop;cases hr:qQD (s.1.drop (zZ s.1)) (kU (s.1.take (zZ s.1)) s.2.1 s.2.2).1 (kU (s.1.take (zZ s.1)) s.2.1 s.2.2).2 with
    | ok ts'=>rw[hr]at h;cases h
    | bad a' b' c' =>
     rw[hr]at h;cases h;exact ih _ _ _ (by omega) hr
   ·rw[if_neg j]at h;cases h;exact qU7 j
section
variable {D:Prop} {m:Nat}
end
section
variable {D:Prop}
end
theorem qUu:∀ (i:Nat) (l:List UInt8),0 < i->qQ0 i (l.take (xQ qQZ l))=true
 | _,[],_=>rfl
 | i,b :: r,hi=>by
  rw[xQ];by_cases h:qQZ (b.toNat:Int)=true
  ·rw[if_pos h,List.take_succ_cons,qQ0,qUu (i+1) r (by omega),bW];unfold qQZ at h;simp only[Bool.or_eq_true,decide_eq_true_eq]at h;rcases h with h | h
   ·rw[h];rfl
   ·have:qPv (b.toNat:Int)=true:=by
     unfold qQa at h;unfold qPv;simp only[decide_eq_true_eq];by_cases j:(48:Int)<=b.toNat/\(b.toNat:Int)<=57
     ·exact j
     ·rw[if_neg j]at h;by_cases h2:(97:Int)<=b.toNat/\(b.toNat:Int)<=102
      ·rw[if_pos h2]at h;omega
      ·rw[if_neg h2]at h;by_cases h3:(65:Int)<=b.toNat/\(b.toNat:Int)<=70
       ·rw[if_pos h3]at h;omega
       ·rw[if_neg h3]at h;omega
    rw[this,show(i == 0)=false by simp;omega];simp
  ·rw[if_neg h];rfl
theorem qUm{base:Int}(hb:base=10\/base=16):∀ (l:List UInt8) (acc v:Int),xJ base acc l=some v->0<=acc->acc<=18446744073709551615 ->
 0<=v/\v<=18446744073709551615/\v < (acc+1) * ((16 ^ l.length:Nat):Int)
 | [],acc,v,h,h0,h1=>by
  rw[xJ]at h;cases h;refine⟨h0,h1,?_⟩;show acc < (acc+1) * ((16 ^ 0:Nat):Int)
  simp;omega
 | b :: r,acc,v,h,h0,h1=>by
  rw[xJ]at h;by_cases hc:base<=qQa (b.toNat:Int)\/(18446744073709551615 - qQa (b.toNat:Int)) / base < acc
  ·rw[if_pos hc]at h;cases h
  ·rw[if_neg hc]at h;rw[not_or]at hc;have hd:=qWP (b.toNat:Int);generalize qQa (b.toNat:Int)=d at *;have hm:0<=acc * base+d/\acc * base+d<=18446744073709551615/\acc * base+d+1<=(acc+1) * 16:=by
    rcases hb with rfl | rfl <;> omega
   obtain⟨j,o,a3⟩:=qUm hb r _ v h hm.1 hm.2.1;refine⟨j,o,Int.lt_of_lt_of_le a3 ?_⟩;rw[lO,Nat.pow_succ,Nat.mul_comm,Int.natCast_mul,<-Int.mul_assoc];exact Int.mul_le_mul_of_nonneg_right hm.2.2 (Int.natCast_nonneg _)
theorem qY3:∀ (k u:Nat),u < 10 ^ k->Lib.nDigits u<=k+1 - (if u=0 then 0 else 1)
 | 0,u,h=>by
  have:u=0:=by simpa using h
  subst this;rw[Lib.nDigits_small (by omega)];simp
 | k+1,u,h=>by
  by_cases j:u < 10
  ·rw[Lib.nDigits_small j];split <;> omega
  ·rw[Lib.nDigits_big j];have:=qY3 k (u / 10) (by rw[Nat.pow_succ]at h;omega);rw[if_neg (by omega)]at this;rw[if_neg (by omega)];omega
theorem dec_len{u k:Nat}(h:u < 10 ^ k)(o:1<=k):(Lib.decDigits u).length<=k:=by
 rw[Lib.decDigits_length];have:=qY3 k u h;by_cases j:u=0
 ·subst j;rw[Lib.nDigits_small (by omega)];exact o
 ·rw[if_neg j]at this;omega
theorem pow_16_10(k:Nat):16 ^ k<=10 ^ (2 * k):=by
 rw[Nat.pow_mul];exact Nat.pow_le_pow_left (by omega) k
theorem numL_ok{l:List UInt8}{v:Int}(h:qJg l=some v):0<=v/\v < 18446744073709551616/\(Lib.decDigits v.toNat).length<=2 * l.length:=by
 have o:∀ (base:Int) (x:List UInt8),(base=10\/base=16)->xJ base 0 x=some v->x≠[]->x.length<=l.length->0<=v/\v < 18446744073709551616/\(Lib.decDigits v.toNat).length<=2 * l.length:=by
  intro base x hb C s A;obtain⟨z,G,a3⟩:=qUm hb x 0 v C (by omega) (by omega);have h4:v.toNat < 16 ^ x.length:=by omega
  have I:=pow_16_10 x.length;have hp:0 < x.length:=List.length_pos_iff.2 s;have J:=dec_len (u:=v.toNat) (k:=2 * x.length) (by omega) (by omega);exact⟨z,by omega,by omega⟩
 unfold qJg at h;by_cases y:Lib.hasPrefix l qWl=true
 ·rw[if_pos y]at h;by_cases j:l.drop 2=[]
  ·rw[if_pos j]at h;cases h
  ·rw[if_neg j]at h;exact o 16 _ (.inr rfl) h j (by rw[List.length_drop];omega)
 ·rw[if_neg y]at h;by_cases j:l=[]
  ·rw[if_pos j]at h;cases h
  ·rw[if_neg j]at h;exact o 10 _ (.inl rfl) h j (Nat.le_refl _)
theorem tok_ok{l:List UInt8}(ln c:Int)(h:wK l=0)(hl:l.length<=65536):qWC (qJX l ln c):=by
 have hp:=qQW h;have y:=wG l;have o:(l.take (zZ l)).length=zZ l:=by rw[List.length_take];omega
 refine⟨fun hk=>?_,fun hk=>?_,?_,fun _=>?_⟩
 ·show qQ0 0 (l.take (zZ l))=true
  cases l with
  | nil=>rfl
  | cons b r =>
   have j:vA (b :: r)=0:=hk;have hb:qZx (b.toNat:Int)=true:=by
    cases hb:qZx (b.toNat:Int)with
    | true=>rfl
    | false =>
     rw[vA,hb]at j;by_cases hd:qQa (b.toNat:Int) < 10 <;> simp[hd]at j
   rw[zZ,if_pos hb,xQ,if_pos (by unfold qQZ;rw[hb];rfl),List.take_succ_cons,qQ0,hb,qUu 1 r (by omega)];rfl
 ·have j:vA l=1:=hk;unfold wK at h;rw[if_neg (by omega),if_pos j]at h;cases s:qJg (l.take (zZ l))with
  | none=>rw[s]at h;simp at h
  | some v =>
   have e:(qJX l ln c).num=v:=by show(if vA l=1 then(qJg (l.take (zZ l))).getD 0 else 0)=v;rw[if_pos j,s];rfl
   rw[e];exact numL_ok s
 ·show(l.take (zZ l)).length<=65536
  omega
 ·show l.take (zZ l)≠[]
  intro e;rw[e]at o;simp at o;omega
theorem lex_toks(n:Nat)(l:List UInt8)(ln c:Int)(ts:List Tok)(I:l.length<=n)(hs:l.length<=65536)(h:qQD l ln c=.ok ts):(∀ t∈ts,qWC t)/\ch ts<=l.length:=by
 have j:∀ (ln c:Int) (t:Tok),t∈[(⟨3,[],0,ln,c⟩:Tok)]->qWC t:=fun ln c t ht=>by
  obtain rfl:t=⟨3,[],0,ln,c⟩:=by simpa using ht
  exact⟨fun h=>absurd (show(3:Int)=0 from h) (by decide),fun h=>absurd (show(3:Int)=1 from h) (by decide),by simp,fun h=>absurd rfl h⟩
 induction n generalizing l ln c ts with
 | zero =>
  obtain rfl:l=[]:=List.length_eq_zero_iff.mp (by omega);have e:qQD [] ln c=.ok [⟨3,[],0,ln,c⟩]:=rfl;rw[e]at h;cases h;exact⟨j _ _,by simp[ch]⟩
 | succ n ih =>
  rw[qJe]at h;have C:(vO l ln c).1.length<=l.length:=qZT l.length l ln c;generalize vO l ln c=s at *;by_cases y:s.1=[]
  ·rw[if_pos y]at h;cases h;exact⟨j _ _,by simp[ch]⟩
  ·rw[if_neg y]at h;by_cases o:wK s.1=0
   ·rw[if_pos o]at h;have hp:=qQW o;have A:=wG s.1;cases hr:qQD (s.1.drop (zZ s.1)) (kU (s.1.take (zZ s.1)) s.2.1 s.2.2).1 (kU (s.1.take (zZ s.1)) s.2.1 s.2.2).2 with
    | bad a b c=>rw[hr]at h;cases h
    | ok ts' =>
     rw[hr]at h;cases h;have hd:(s.1.drop (zZ s.1)).length=s.1.length - zZ s.1:=List.length_drop;obtain⟨z,G⟩:=ih _ _ _ ts' (by omega) (by omega) hr;refine⟨fun t ht=>?_,?_⟩
     ·rcases List.mem_cons.1 ht with rfl | ht
      ·exact tok_ok _ _ o (by omega)
      ·exact z t ht
     ·have ht:(qJX s.1 s.2.1 s.2.2).text=s.1.take (zZ s.1):=rfl;rw[ch,ht,List.length_take];omega
   ·rw[if_neg o]at h;cases h
theorem qJB{j:Bool}{t:qQ}{ws:List (List UInt8)}(h:vY j t=some ws):∃ u r,t.kids=u :: r/\u.kind=zB/\u.num=0:=by
 unfold vY at h;split at h
 ·rename_i u r s;obtain⟨o,_⟩:=zN h;simp only[bE,beq_iff_eq]at o;exact⟨u,r,s,o.1.1,o.1.2.1⟩
 ·cases h
theorem qPV{t:qQ}{ws:List (List UInt8)}(h:qZ1 t=some ws):t.kids≠[]:=by
 obtain⟨_,j⟩:=zN h;obtain⟨u,r,o,_⟩:=qJB j;rw[o];simp
theorem lastT_cons(k x:List UInt8)(m ln co:Int)(u:qQ)(ps:List qQ)(b:qQ):yE (.mk k x m ln co (u :: (ps++[b])))=b:=by
 unfold yE;rw[show(qQ.mk k x m ln co (u :: (ps++[b]))).kids=(u :: ps)++[b]from rfl,List.getLastD_eq_getLast?,List.getLast?_concat];rfl
theorem qV3{n:Nat}{t:qQ}{ws:List (List UInt8)}(h:kA (qZB n) t=some ws)(I:qZl t)(hl:ws.length<=900000):∃ u ps z,t.kids=u :: (ps++[z])/\(∀ a∈ps,a.text.length<=1000000/\a.kids≠[])/\qUz (yE t):=by
 obtain⟨k,x,m,ln,co,ks⟩:=t;have hN:=qQx I;rcases ks with _ | ⟨u,_ | ⟨v,r⟩⟩
 ·simp[kA,qQ.kids]at h
 ·simp[kA,qQ.kids]at h
 ·have s:v :: r=(v :: r).dropLast++[(v :: r).getLast (List.cons_ne_nil v r)]:=(List.dropLast_concat_getLast _).symm;generalize (v :: r).dropLast=ps at s;generalize (v :: r).getLast (List.cons_ne_nil v r)=b at s;rw[s]at h hN ⊢;rw[fn_mk]at h;obtain⟨_,A⟩:=zN h;obtain⟨_,Z,_,h2,rfl⟩:=qK A;obtain⟨_,y2,_,h3,rfl⟩:=qK h2;obtain⟨y3,y4,h4,C,rfl⟩:=qK h3;obtain⟨_,O,_,G,rfl⟩:=qK C;simp only[lL]at hl;have j:=hN.2.2.2.2.2.mem;refine⟨u,ps,b,rfl,fun a ha=>?_,?_⟩
  ·obtain⟨w,J⟩:=qKC h4 a ha;have o:=j a (by simp[ha]);refine⟨?_,qPV J⟩;obtain⟨U,Y,X,V,R,y⟩:=a;exact(qQx o).2.1
  ·rw[lastT_cons];exact qYd n b O G (by omega) (j b (by simp))
theorem global_of{t:qQ}{ws:List (List UInt8)}(h:qXa t=some ws)(G:qZl t):(∃ u r,t.kids=u :: r)/\(((yE t).kind == zD)=false->(yE t).num=0)/\0<=(yE t).num/\(yE t).num < 18446744073709551616:=by
 obtain⟨k,x,m,ln,co,ks⟩:=t;have hN:=qQx G;have s:=hN.2.2.2.2.2.mem;have hb:∀ u∈ks,0<=u.num/\u.num < 18446744073709551616:=fun u hu=>by
  have:=s u hu;obtain⟨R,X,V,U,O,I⟩:=u;have:=qQx this;exact⟨this.2.2.1,this.2.2.2.1⟩
 rw[qKF]at h;obtain⟨_,o⟩:=zN h;rcases ks with _ | ⟨u,_ | ⟨m',_ | ⟨z,r⟩⟩⟩
 ·cases o
 ·obtain⟨y,_,h2,_⟩:=qK o;obtain⟨J,r,j,_,h3⟩:=qJB h2;simp only[qQ.kids,List.cons.injEq]at j;obtain⟨rfl,rfl⟩:=j;exact⟨⟨u,[],rfl⟩,fun _=>h3,hb u (by simp)⟩
 ·obtain⟨y,_,h2,_⟩:=qK o;obtain⟨_,Y,_,h3,_⟩:=qK h2;obtain⟨_,Z,_,h4,_⟩:=qK h3;obtain⟨y4,_,C,_⟩:=qK h4;obtain⟨A,_⟩:=zN C;simp only[bE]at A;refine⟨⟨u,[m'],rfl⟩,fun e=>?_,hb m' (by simp)⟩;rw[show yE (.mk k x m ln co [u,m'])=m' from rfl,A.1]at e;cases e
 ·cases o
theorem pg_of{n:Nat}{t:qQ}{ws:List (List UInt8)}(h:qQO n t=some ws)(I:qZl t)(hl:ws.length<=900000):PgOk t:=by
 obtain⟨k,x,m,ln,co,ks⟩:=t;have hN:=qQx I;have j:=hN.2.2.2.2.2.mem;rw[qV9]at h;obtain⟨_,C⟩:=zN h;have y:∀ a∈ks,a.text.length<=1000000/\a.kids.length<=1000000:=fun a ha=>by
  have:=j a ha;obtain⟨O,V,U,R,J,G⟩:=a;have:=qQx this;exact⟨this.2.1,this.2.2.2.2.1⟩
 refine⟨hN.2.2.2.2.1,fun a ha=>?_,fun a ha hf=>?_⟩
 ·obtain⟨w,o,A⟩:=qJM C a ha;refine⟨(y a ha).1,(y a ha).2,fun hf=>?_,fun hf=>?_⟩
  ·rw[hf]at o;obtain⟨u,ps,z,s,e2,_⟩:=qV3 o (j a ha) (by omega);exact⟨u,ps,z,s,e2⟩
  ·rw[hf]at o;exact global_of o (j a ha)
 ·obtain⟨w,o,A⟩:=qJM C a ha;rw[hf]at o;obtain⟨u,ps,z,s,_,e3⟩:=qV3 o (j a ha) (by omega);exact⟨by rw[s];simp,(y a ha).2,e3⟩
end Go.Proofs.YtiajhekdhhhghaaGreatDoor
namespace Go.Proofs.YtiajhekdhhhghaaGreatDoor.NZ
open Go Go.RowKit
def zJ{α:Type}(S:α->α->Prop):PR α->PR α->Prop
 | .ok a l, .ok b l'=>S a b/\Al l l'
 | .bad _ _ c, .bad _ _ c'=>c=c'/\c≠0
 | .out, .out=>True
 | _,_=>False
section
variable {α β:Type} {S:α->α->Prop} {T:β->β->Prop}
theorem zJ.ok{a b:α}{l l':List Tok}(h:S a b)(j:Al l l'):zJ S (.ok a l) (.ok b l'):=⟨h,j⟩
theorem zJ.bind{p j:PR α}{f o:α->List Tok->PR β}(h:zJ S p j)(hf:∀ a b l l',S a b->Al l l'->zJ T (f a l) (o b l')):zJ T (p.bind f) (j.bind o):=by
 cases p with
 | ok a l =>
  cases j with
  | ok b l'=>exact hf a b l l' h.1 h.2
  | bad _ _ _=>exact h.elim
  | out=>exact h.elim
 | bad x y c =>
  cases j with
  | ok b l'=>exact h.elim
  | bad _ _ _=>exact h
  | out=>exact h.elim
 | out =>
  cases j with
  | ok b l'=>exact h.elim
  | bad _ _ _=>exact h.elim
  | out=>trivial
theorem zJ.ite{b b':Bool}{p q j o:PR α}(hb:b=b')(s:zJ S p j)(h2:zJ S q o):zJ S (if b=true then p else q) (if b'=true then j else o):=by
 subst hb;cases b
 ·exact h2
 ·exact s
end
theorem qW6(code:Int)(l l':List Tok)(hc:code≠0:=by decide):zJ xN (qWQ code l) (qWQ code l'):=⟨rfl,hc⟩
theorem xS{o j:Bool}{l l':List Tok}(hm:o=j)(h:Al l l'):zJ qKy (jV o l) (jV j l'):=by
 subst hm;unfold Al at h;cases l with
 | nil =>
  cases l' with
  | nil=>exact⟨rfl,by decide⟩
  | cons t r=>simp at h
 | cons t r =>
  cases l' with
  | nil=>simp at h
  | cons t' r' =>
   simp only[List.map_cons,List.cons.injEq]at h;cases o
   ·exact⟨rfl,by decide⟩
   ·exact⟨h.1,h.2⟩
def UnitE(_ _:Unit):Prop:=True
theorem Al.text{l l':List Tok}(h:Al l l')(x:List UInt8):((hdT l).text == x)=((hdT l').text == x):=by rw[h.hd.text]
theorem Al.kind{l l':List Tok}(h:Al l l')(x:Int):((hdT l).kind == x)=((hdT l').kind == x):=by rw[h.hd.kind]
theorem Al.name{l l':List Tok}(h:Al l l'):kR (hdT l)=kR (hdT l'):=by unfold kR;rw[h.hd.kind,h.hd.text]
theorem Al.type{l l':List Tok}(h:Al l l'):yG (hdT l).text=yG (hdT l').text:=by rw[h.hd.text]
theorem zQ:∀ (xs:List (List UInt8)) {l l':List Tok},Al l l'->zJ UnitE (jL xs l) (jL xs l')
 | [],_,_,h=>⟨trivial,h⟩
 | x :: xs,_,_,h=>(xS (h.text x) h).bind fun _ _ _ _ _ h'=>zQ xs h'
theorem vJ{d:Int}{p j:Int->List Tok->PR qQ}{l l':List Tok}(h:zJ xN (p (d+1) l) (j (d+1) l')):zJ xN (xX d p l) (xX d j l'):=by
 unfold xX;by_cases hd:d=60
 ·rw[if_pos hd,if_pos hd];exact qW6 _ _ _
 ·rw[if_neg hd,if_neg hd];exact h
theorem qZA{stop:Tok->Bool}{p o:List Tok->PR qQ}(hs:∀ {t t'},qKy t t'->stop t=stop t')(hp:∀ {l l'},Al l l'->zJ xN (p l) (o l')):∀ (n:Nat) {acc j:List qQ} {l l':List Tok},qYQ acc j->Al l l'->zJ qYQ (vI stop p n acc l) (vI stop o n j l')
 | 0,_,_,_,_,_,_=>trivial
 | n+1,acc,j,l,l',ha,h=>by
  rw[vI,vI];exact zJ.ite (hs h.hd) (zJ.ok ha h) ((hp h).bind fun _ _ _ _ ht h'=>qZA hs hp n (wA ha (jC ht)) h')
theorem qQc{kind:List UInt8}{o j:Bool}(hv:o=j){l l':List Tok}(h:Al l l'):zJ xN (zG kind o l) (zG kind j l') :=
 (xS (by rw[hv,h.type]) h).bind fun _ _ _ _ ht h1=>(xS h1.name h1).bind fun _ _ _ _ hu h2=>zJ.ok (zR rfl hu.text rfl (jC (zR rfl ht.text rfl yL))) h2
theorem qXv{l l':List Tok}(h:Al l l'):zJ xN (wQ l) (wQ l'):=(xS (h.kind 1) h).bind fun _ _ _ _ ht h1=>zJ.ok (zR rfl rfl ht.num yL) h1
theorem qXu{n:Nat}{p j:List Tok->PR qQ}(hp:∀ {l l'},Al l l'->zJ xN (p l) (j l')){l l':List Tok}(h:Al l l'):zJ qYQ (xT n p l) (xT n j l'):=by
 unfold xT;refine(zQ [[40]] h).bind fun _ _ l1 l1' _ h1=>?_
 refine zJ.ite (h1.text [41]) ((zQ [[41]] h1).bind fun _ _ _ _ _ h2=>zJ.ok yL h2) ?_;refine(hp h1).bind fun _ _ _ _ ht h2=>?_
 refine(qZA (fun ht=>by rw[ht.text]) (fun hl=>(zQ [[44]] hl).bind fun _ _ _ _ _ h3=>hp h3) n (jC ht) h2).bind fun _ _ _ _ hts h3=>?_
 exact(zQ [[41]] h3).bind fun _ _ _ _ _ h4=>zJ.ok hts h4
section
variable {rec:NT->Int->List Tok->PR qQ} {n:Nat}
def qZa(rec:NT->Int->List Tok->PR qQ):Prop:=∀ x d {l l':List Tok},Al l l'->zJ xN (rec x d l) (rec x d l')
theorem qXw(H:qZa rec)(d:Int){l l':List Tok}(h:Al l l'):zJ xN (xF rec d l) (xF rec d l'):=by
 unfold xF;refine(xS h.name h).bind fun _ _ _ _ ht h1=>?_
 refine zJ.ite (h1.text [91]) ((zQ [[91]] h1).bind fun _ _ _ _ _ h2=>(vJ (H (.binary 0) (d+1) h2)).bind fun _ _ _ _ he h3=>(zQ [[93]] h3).bind fun _ _ _ _ _ h4=>zJ.ok (zR rfl ht.text rfl (jC he)) h4) ?_;exact zJ.ok (zR rfl ht.text rfl yL) h1
theorem qVL(H:qZa rec)(d:Int){l l':List Tok}(h:Al l l'):zJ xN (yJ rec d l) (yJ rec d l'):=by
 unfold yJ;refine(xS (h.text [40]) h).bind fun _ _ _ _ ht h1=>?_
 refine zJ.ite h1.type ((xS rfl h1).bind fun _ _ _ _ hu h2=>(zQ [[41]] h2).bind fun _ _ _ _ _ h3=>(vJ (H .operand (d+1) h3)).bind fun _ _ _ _ he h4=>zJ.ok (zR rfl hu.text rfl (jC he)) h4) ?_;exact(vJ (H (.binary 0) (d+1) h1)).bind fun _ _ _ _ he h2=>(zQ [[41]] h2).bind fun _ _ _ _ _ h3=>zJ.ok he h3
theorem qJR(H:qZa rec)(d:Int){l l':List Tok}(h:Al l l'):zJ xN (jU rec d l) (jU rec d l'):=by
 unfold jU;refine zJ.ite (h.kind 1) (qXv h) ?_;refine zJ.ite (by rw[h.hd.text]) ((xS rfl h).bind fun _ _ _ _ hu h1=>zJ.ok (zR hu.text rfl rfl yL) h1) ?_;refine zJ.ite (by rw[h.hd.text]) ((xS rfl h).bind fun _ _ _ _ hu h1=>(vJ (H .operand (d+1) h1)).bind fun _ _ _ _ he h2=>zJ.ok (zR rfl hu.text rfl (jC he)) h2) ?_;exact zJ.ite (h.text [40]) (qVL H d h) (qXw H d h)
theorem qZR(H:qZa rec)(k d:Int):∀ (m:Nat) {left j:qQ} {l l':List Tok},xN left j->Al l l'->zJ xN (kX rec k d m left l) (kX rec k d m j l')
 | 0,_,_,_,_,_,_=>trivial
 | m+1,left,j,l,l',hl,h=>by
  rw[kX,kX,h.hd.text];by_cases o:xL (hdT l').text < k
  ·rw[if_pos o,if_pos o];exact zJ.ok hl h
  ·rw[if_neg o,if_neg o];exact(xS rfl h).bind fun _ _ _ _ ht h1=>(H _ d h1).bind fun _ _ _ _ hr h2=>qZR H k d m (zR rfl ht.text rfl (qZi hl hr)) h2
theorem qKL(H:qZa rec)(k d:Int){l l':List Tok}(h:Al l l'):zJ xN (qQy rec n k d l) (qQy rec n k d l'):=by
 unfold qQy;exact(H .operand d h).bind fun _ _ _ _ he h1=>qZR H k d n he h1
theorem qZz(H:qZa rec)(d:Int){l l':List Tok}(h:Al l l'):zJ xN (qQh rec d l) (qQh rec d l'):=H (.binary 0) d h
theorem qJQ(H:qZa rec)(d:Int){l l':List Tok}(h:Al l l'):zJ xN (qQz rec n d l) (qQz rec n d l'):=by
 unfold qQz;exact(xS h.name h).bind fun _ _ _ _ ht h1=>(qXu (fun hl=>vJ (H (.binary 0) (d+1) hl)) h1).bind fun _ _ _ _ hts h2=>zJ.ok (zR rfl ht.text rfl hts) h2
theorem Al.call{l l':List Tok}(h:Al l l'):qQR l=qQR l':=by
 unfold Al at h;match l,l',h with
 | [],[],_=>rfl
 | [],_ :: _,h=>simp at h
 | _ :: _,[],h=>simp at h
 | [t],[t'],_=>rfl
 | [t],_ :: _ :: _,h=>simp at h
 | _ :: _ :: _,[t],h=>simp at h
 | t :: u :: r,t' :: u' :: r',h =>
  simp only[List.map_cons,List.cons.injEq]at h;have j:qKy t t':=h.1;have h2:qKy u u':=h.2.1;show(kR t && u.text == [40])=(kR t' && u'.text == [40])
  unfold kR;rw[j.kind,j.text,h2.text]
theorem qKK(H:qZa rec)(d:Int){l l':List Tok}(h:Al l l'):zJ xN (jJ rec n d l) (jJ rec n d l'):=by
 unfold jJ;refine zJ.ite h.call ((qJQ H d h).bind fun _ _ _ _ ht h1=>(zQ [[59]] h1).bind fun _ _ _ _ _ h2=>zJ.ok ht h2) ?_;refine(qXw H d h).bind fun _ _ _ _ hx h1=>(zQ [[61]] h1).bind fun _ _ _ _ _ h2=>?_
 refine zJ.ite (h2.text qW) ((zQ [qW,[40],[41]] h2).bind fun _ _ _ _ _ h3=>(zQ [[59]] h3).bind fun _ _ _ _ _ h4=>zJ.ok (zR rfl rfl rfl (jC hx)) h4) ?_;refine zJ.ite h2.call ((qJQ H d h2).bind fun _ _ _ _ hy h3=>(zQ [[59]] h3).bind fun _ _ _ _ _ h4=>zJ.ok (zR rfl rfl rfl (qZi hx hy)) h4) ?_;exact(qZz H d h2).bind fun _ _ _ _ hy h3=>(zQ [[59]] h3).bind fun _ _ _ _ _ h4=>zJ.ok (zR rfl rfl rfl (qZi hx hy)) h4
theorem qVI(H:qZa rec)(d:Int){l l':List Tok}(h:Al l l'):zJ xN (kL rec d l) (kL rec d l'):=by
 unfold kL;exact(xS rfl h).bind fun _ _ _ _ ht h1=>(zQ [[40]] h1).bind fun _ _ _ _ _ h2=>(qZz H d h2).bind fun _ _ _ _ he h3=>(zQ [[41],[59]] h3).bind fun _ _ _ _ _ h4=>zJ.ok (zR ht.text rfl rfl (jC he)) h4
theorem qVJ(H:qZa rec)(d:Int){l l':List Tok}(h:Al l l'):zJ xN (yC rec d l) (yC rec d l'):=by
 unfold yC;refine(zQ [qV] h).bind fun _ _ _ _ _ h1=>?_
 refine zJ.ite (h1.text [59]) ((zQ [[59]] h1).bind fun _ _ _ _ _ h2=>zJ.ok (zR rfl rfl rfl yL) h2) ?_;exact(qZz H d h1).bind fun _ _ _ _ he h2=>(zQ [[59]] h2).bind fun _ _ _ _ _ h3=>zJ.ok (zR rfl rfl rfl (jC he)) h3
theorem qZS(H:qZa rec)(word:List UInt8)(d:Int){l l':List Tok}(h:Al l l'):zJ xN (jK rec word d l) (jK rec word d l'):=by
 unfold jK;exact(zQ [word,[40]] h).bind fun _ _ _ _ _ h1=>(qZz H d h1).bind fun _ _ _ _ he h2=>(zQ [[41]] h2).bind fun _ _ _ _ _ h3=>(vJ (H .block (d+1) h3)).bind fun _ _ _ _ hb h4=>zJ.ok (zR rfl rfl rfl (qZi he hb)) h4
theorem qKM(H:qZa rec)(d:Int){l l':List Tok}(h:Al l l'):zJ xN (vF rec d l) (vF rec d l'):=by
 unfold vF;refine(qZS H kIf d h).bind fun t t' _ _ ht h1=>?_
 refine zJ.ite (h1.text zS) ((zQ [zS] h1).bind fun _ _ _ _ _ h2=>(vJ (H .block (d+1) h2)).bind fun _ _ _ _ hb h3=>zJ.ok ?_ h3) (zJ.ok ht h1);obtain⟨j,e2,e3,o⟩:=jN ht;exact zR j e2 e3 (wA o (jC hb))
theorem qVK{l l':List Tok}(h:Al l l'):zJ xN (qQM l) (qQM l'):=(qQc rfl h).bind fun _ _ _ _ ht h1=>(zQ [[59]] h1).bind fun _ _ _ _ _ h2=>zJ.ok ht h2
theorem qW8(H:qZa rec)(d:Int){l l':List Tok}(h:Al l l'):zJ xN (qQA rec n d l) (qQA rec n d l'):=by
 unfold qQA;refine zJ.ite (h.text kIf) (qKM H d h) ?_;refine zJ.ite (h.text qA) (qZS H qA d h) ?_;refine zJ.ite (h.text qV) (qVJ H d h) ?_;refine zJ.ite (by rw[h.hd.text]) (qVI H d h) ?_;exact zJ.ite h.type (qVK h) (qKK H d h)
theorem qVH(H:qZa rec)(d:Int){l l':List Tok}(h:Al l l'):zJ xN (qQK rec n d l) (qQK rec n d l'):=by
 unfold qQK;refine(zQ [[123]] h).bind fun _ _ _ _ _ h1=>?_
 exact(qZA (fun ht=>by rw[ht.text]) (fun hl=>qW8 H d hl) n yL h1).bind fun _ _ _ _ hts h2=>(zQ [[125]] h2).bind fun _ _ _ _ _ h3=>zJ.ok (zR rfl rfl rfl hts) h3
end
theorem qXb:∀ n,qZa (qQd n)
 | 0=>fun _ _ _ _ _=>trivial
 | n+1=>fun x d l l' h=>by
  cases x with
  | block=>exact qVH (qXb n) d h
  | binary k=>exact qKL (qXb n) k d h
  | operand=>exact qJR (qXb n) d h
theorem qW7(n:Nat){l l':List Tok}(h:Al l l'):zJ xN (qZe n l) (qZe n l'):=by
 unfold qZe;refine(qQc (h.text zA) h).bind fun t t' l1 l1' ht h1=>?_
 obtain⟨o,e2,e3,j⟩:=jN ht;refine zJ.ite (by rw[h.hd.text,h1.hd.text]) ((qXu (fun hl=>qQc rfl hl) h1).bind fun _ _ _ _ hps h2=>(vJ (qXb n .block (0+1) h2)).bind fun _ _ _ _ hb h3=>zJ.ok (zR rfl e2 e3 (wA (wA j hps) (jC hb))) h3) ?_;refine zJ.ite (h1.text [91]) ((zQ [[91]] h1).bind fun _ _ _ _ _ h2=>(qXv h2).bind fun _ _ _ _ hm h3=>(zQ [[93]] h3).bind fun _ _ _ _ _ h4=>(zQ [[59]] h4).bind fun _ _ _ _ _ h5=>zJ.ok (zR o e2 e3 (wA j (jC hm))) h5) ?_;exact(zQ [[59]] h1).bind fun _ _ _ _ _ h2=>zJ.ok ht h2
theorem rel_program(n:Nat){l l':List Tok}(h:Al l l'):zJ xN (xW n l) (xW n l'):=by
 unfold xW;exact(qZA (fun ht=>by rw[ht.kind]) (fun hl=>qW7 n hl) n yL h).bind fun _ _ _ _ hts h1=>zJ.ok (zR rfl rfl rfl hts) h1
end Go.Proofs.YtiajhekdhhhghaaGreatDoor.NZ
