/- Walks. -/
import Derived.Maps.OwnSet
import Derived.Maps.Views
import Derived.BigQuiet
import Derived.Test.YtiajhekdhhhghaaGreatDoorNae
set_option linter.all false
set_option maxHeartbeats 8000000
set_option maxRecDepth 100000
namespace Go.Proofs.YtiajhekdhhhghaaGreatDoor
open Tryz
open Go Go.RowKit
abbrev Ty:=Int×Bool
structure qI where
 name:List UInt8
 t:Ty
 size:Int
inductive Ex where
 | mk (op:List UInt8) (t:Ty) (num var:Int) (glob:Bool) (line col:Int) (kids:List Ex)
inductive Sx where
 | mk (op:List UInt8) (line col:Int) (target exprs:List Ex) (fn:Int) (thn els:List Sx)
structure qQ2 where
 name:List UInt8
 t:Ty
 params:Int
 vars:List qI
 body:List Sx
structure PrD where
 globals:List qI
 funcs:List qQ2
 main:Int
def Ex.ty:Ex->Ty | .mk _ t _ _ _ _ _ _=>t
inductive CR(α:Type) where
 | ok (a:α)
 | bad (ln co code:Int)
def CR.bind{α β:Type}:CR α->(α->CR β)->CR β
 | .ok a,f=>f a
 | .bad ln co code,_=>.bad ln co code
def jQ(b:Bool)(t:qQ)(code:Int):CR Unit:=if b then .ok ()else .bad t.line t.col code
def zO:Ty:=(1,false)
def noT:Ty:=(0,false)
def wideT:Ty:=(64,false)
def tyL(x:List UInt8):Ty:=((qXr ⟨x.toArray⟩).1,(qXr ⟨x.toArray⟩).2.1)
def qMc:List UInt8:=[118,97,114]
def qQP:List (List UInt8×Nat):=[([117,33],0),([38,38],0),([124,124],0),([61,61],1),([33,61],1),([60],2),([60,61],2),([62],2),([62,61],2),
 ([117,45],3),([117,126],3),([43],3),([45],3),([42],3),([47],3),([37],3),([60,60],3),([62,62],3),([38],4),([124],4),([94],4)]
def kE(x:List UInt8):List (List UInt8×Nat)->Option Nat
 | []=>none
 | (y,r) :: l=>if y == x then some r else kE x l
def qXx(x:List UInt8):Option Nat:=kE x qQP
def qYw(x:List UInt8):Bool:=match qXx x with | some r=>decide (r<=2) | none=>false
def qXs(k x:List UInt8):List UInt8:=if k == qT then 117 :: x else x
def qQj(x:List UInt8)(i:Nat):List qI->Option (qI×Nat)
 | []=>none
 | v :: r=>if v.name == x then some (v,i)else qQj x (i+1) r
structure Env where
 gs:List qI
 own:List qI
def qZD(E:Env)(t:qQ):CR (qI×Nat×Bool) :=
 match qQj t.text 0 E.own with
 | some (v,i)=>.ok (v,i,false)
 | none=>match qQj t.text 0 E.gs with
  | some (v,i)=>.ok (v,i,true)
  | none=>.bad t.line t.col 40
section
variable (E:Env)
mutual
def qJu:qQ->CR Ty
 | .mk k x m ln co ks =>
  if k == zD then .ok noT
  else if k == zL || k == qH then .ok zO
  else if k == zM || k == qL then(qZD E (.mk k x m ln co ks)).bind fun r=>.ok r.1.t
  else if k == zK then .ok (tyL x)
  else if qYw (qXs k x)then .ok zO
  else qQu ks
def qQu:List qQ->CR Ty
 | []=>.ok noT
 | t :: r=>(qJu t).bind fun u=>if u=noT then qQu r else .ok u
end
def yB(l:List qQ):CR Ty:=(qQu E l).bind fun u=>.ok (if u=noT then wideT else u)
def qQ1(t:qQ):CR Ex :=
 (qZD E t).bind fun r=>(jQ ((t.kind == qL) == decide (0 < r.1.size)) t 41).bind fun _ =>
  .ok (.mk (if t.kind == qL then qL else qMc) r.1.t 0 r.2.1 r.2.2 t.line t.col [])
def qQr(op:List UInt8)(ks:List qQ)(T:Ty):CR (Ty×Bool) :=
 match qXx op with
 | some 0=>.ok (zO,decide (T=zO))
 | some 1=>if T≠zO then .ok (T,false)else(yB E ks).bind fun u=>.ok (u,true)
 | some 2=>if T≠zO then .ok (T,false)else(yB E ks).bind fun u=>.ok (u,decide (u≠zO))
 | some 3=>.ok (T,decide (T≠zO))
 | _=>.ok (T,true)
def Ex.withKids:Ex->List Ex->Ex | .mk op t n v g l c _,ks=>.mk op t n v g l c ks
mutual
def qQT:qQ->Ty->CR Ex
 | .mk k x m ln co ks,T =>
  if k == zD then(jQ (decide (T≠zO) && decide (qUl T.1 T.2 m=m)) (.mk k x m ln co ks) 41).bind fun _=>.ok (.mk zD T m 0 false ln co [])
  else if k == zL || k == qH then(jQ (decide (T=zO)) (.mk k x m ln co ks) 41).bind fun _=>.ok (.mk zD T (if k == zL then 1 else 0) 0 false ln co [])
  else if k == zM || k == qL then
   (qQ1 E (.mk k x m ln co ks)).bind fun p=>(jQ (decide (p.ty=T)) (.mk k x m ln co ks) 41).bind fun _ =>
    if ks.length=0 then .ok (p.withKids [])
    else(yB E ks).bind fun u=>(jQ (decide (u≠zO)) (ks.headD (.mk k x m ln co ks)) 41).bind fun _=>(vD ks u).bind fun es=>.ok (p.withKids es)
  else if k == zK then(jQ (decide (tyL x=T)) (.mk k x m ln co ks) 41).bind fun _=>(yB E ks).bind fun u=>(vD ks u).bind fun es=>.ok (.mk zK T 0 0 false ln co es)
  else(qQr E (qXs k x) ks T).bind fun u=>(jQ u.2 (.mk k x m ln co ks) 41).bind fun _=>(vD ks u.1).bind fun es=>.ok (.mk (qXs k x) T 0 0 false ln co es)
def vD:List qQ->Ty->CR (List Ex)
 | [],_=>.ok []
 | t :: r,T=>(qQT t T).bind fun e=>(vD r T).bind fun es=>.ok (e :: es)
end
def qQL(ks:List qQ):CR (List Ex) :=
 if ks.length=0 then .ok []
 else(yB E ks).bind fun u=>(jQ (decide (u≠zO)) (ks.headD (.mk [] [] 0 0 0 [])) 41).bind fun _=>vD E ks u
def wJ(t:qQ):CR Ex:=(qQ1 E t).bind fun p=>(qQL E t.kids).bind fun es=>.ok (p.withKids es)
def wM:List qQ->List qI->CR (List Ex)
 | [],_=>.ok []
 | t :: r,vs=>(qQT E t (vs.headD ⟨[],noT,0⟩).t).bind fun e=>(wM r vs.tail).bind fun es=>.ok (e :: es)
end
structure kI where
 name:List UInt8
 t:Ty
 params:List qI
def qQN(x:List UInt8)(i:Nat):List kI->Option (kI×Nat)
 | []=>none
 | v :: r=>if v.name == x then some (v,i)else qQN x (i+1) r
def wI(fs:List kI)(t:qQ):CR (kI×Nat) :=
 match qQN t.text 0 fs with
 | some (h,i)=>(jQ (decide (t.kids.length=h.params.length)) t 43).bind fun _=>.ok (h,i)
 | none=>.bad t.line t.col 40
def qZr(t:qQ):qI:=⟨t.text,tyL ((t.kids.headD (.mk [] [] 0 0 0 [])).text),0⟩
def qJJ(own:List qI)(t:qQ):CR (List qI) :=
 (jQ (qQj t.text 0 own).isNone t 40).bind fun _=>(jQ (decide (own.length < 64)) t 45).bind fun _=>.ok (own++[qZr t])
section
variable (gs:List qI) (fs:List kI) (ret:Ty)
def kid(ks:List qQ)(i:Nat):qQ:=ks.getD i (.mk [] [] 0 0 0 [])
mutual
def stC:qQ->List qI->CR (Sx×List qI)
 | .mk k x m ln co ks,own =>
  if k == qP then(wJ ⟨gs,own⟩ (kid ks 0)).bind fun a=>(qQT ⟨gs,own⟩ (kid ks 1) a.ty).bind fun e=>.ok (.mk k ln co [a] [e] 0 [] [],own)
  else if k == qW then(wJ ⟨gs,own⟩ (kid ks 0)).bind fun a=>.ok (.mk k ln co [a] [] 0 [] [],own)
  else if k == zW then(wI fs (.mk k x m ln co ks)).bind fun h=>(wM ⟨gs,own⟩ ks h.1.params).bind fun es=>.ok (.mk k ln co [] es h.2 [] [],own)
  else if k == qN then(wJ ⟨gs,own⟩ (kid ks 0)).bind fun a=>(wI fs (kid ks 1)).bind fun h=>(jQ (decide (h.1.t=a.ty)) (kid ks 1) 41).bind fun _ =>
   (wM ⟨gs,own⟩ (kid ks 1).kids h.1.params).bind fun es=>.ok (.mk zW ln co [a] es h.2 [] [],own)
  else if k == qV then(jQ (decide (ret=noT) == decide (ks.length=0)) (.mk k x m ln co ks) 41).bind fun _=>(vD ⟨gs,own⟩ ks ret).bind fun es=>.ok (.mk k ln co [] es 0 [] [],own)
  else match ks with
   | []=>.ok (.mk k ln co [] [] 0 [] [],own)
   | [a]=>(qQT ⟨gs,own⟩ a zO).bind fun e=>.ok (.mk k ln co [] [e] 0 [] [],own)
   | [a,b]=>(qQT ⟨gs,own⟩ a zO).bind fun e=>(blC b own).bind fun r=>.ok (.mk k ln co [] [e] 0 r.1 [],r.2)
   | a :: b :: c :: _=>(qQT ⟨gs,own⟩ a zO).bind fun e=>(blC b own).bind fun r=>(blC c r.2).bind fun q=>.ok (.mk k ln co [] [e] 0 r.1 q.1,q.2)
def blC:qQ->List qI->CR (List Sx×List qI)
 | .mk _ _ _ _ _ ks,own=>qXJ ks own
def qXJ:List qQ->List qI->CR (List Sx×List qI)
 | [],own=>.ok ([],own)
 | t :: r,own =>
  if t.kind == qE then(qJJ own t).bind fun own'=>qXJ r own'
  else(stC t own).bind fun s=>(qXJ r s.2).bind fun q=>.ok (s.1 :: q.1,q.2)
end
end
/-! ### The heads -/
structure HdS where
 gs:List qI
 fs:List kI
def yV(l:List qI):Int:=(l.map fun v=>max v.size 1).foldl (·+·) 0
def yF(S:HdS)(t:qQ):CR Unit:=jQ ((qQj t.text 0 S.gs).isNone && (qQN t.text 0 S.fs).isNone) t 40
def qZ9(S:HdS)(t:qQ):CR HdS :=
 let last:=t.kids.getLastD (.mk [] [] 0 0 0 [])
 let fits:=!(last.kind == zD) || (decide (1<=last.num) && decide (last.num<=16))
 let v:qI:={ qZr t with size:=if fits then last.num else 0 }
 (jQ (!fits || decide (yV S.gs+max v.size 1<=64)) t 45).bind fun _=>(yF S t).bind fun _=>(jQ fits last 42).bind fun _=>.ok { S with gs:=S.gs++[v] }
def yH:List qQ->List qI->CR (List qI)
 | [],acc=>.ok acc
 | t :: r,acc=>(jQ (decide (acc.length < 64)) t 45).bind fun _=>(jQ (qQj t.text 0 acc).isNone t 40).bind fun _=>yH r (acc++[qZr t])
def wF(S:HdS)(t:qQ):CR HdS :=
 (jQ (decide (S.fs.length < 16)) t 45).bind fun _=>(yF S t).bind fun _ =>
  (yH (t.kids.dropLast.drop 1) []).bind fun ps=>.ok { S with fs:=S.fs++[⟨t.text,tyL ((t.kids.headD (.mk [] [] 0 0 0 [])).text),ps⟩] }
def yS:List qQ->HdS->CR HdS
 | [],S=>.ok S
 | t :: r,S=>(if t.kind == qC then wF S t else qZ9 S t).bind fun S'=>yS r S'
def vG(gs:List qI)(fs:List kI):List qQ->List kI->CR (List qQ2)
 | [],_=>.ok []
 | t :: r,hs =>
  if t.kind == qC then
   match hs with
   | []=>.ok []
   | h :: hs=>(blC gs fs h.t (t.kids.getLastD (.mk [] [] 0 0 0 [])) h.params).bind fun b=>(vG gs fs r hs).bind fun l=>.ok (⟨h.name,h.t,h.params.length,b.2,b.1⟩ :: l)
  else vG gs fs r hs
def qZf:List UInt8:=[109,97,105,110]
def qZb(t:qQ):CR PrD :=
 (yS t.kids ⟨[],[]⟩).bind fun S=>(vG S.gs S.fs t.kids S.fs).bind fun l =>
  match qQN qZf 0 S.fs with
  | some (h,i)=>if h.params.length=0 then .ok ⟨S.gs,l,i⟩else .bad 0 0 44
  | none=>.bad 0 0 44
def xO(ln co code:Int):Value:=.iface 97 (.agg #[.int .i64 ln, .int .i64 co, .int .i64 code])
def CPan(ln co code:Int)(w:World)(e:Ending)(w':World):Prop :=
 e=.panicked [{ v:=xO ln co code,recovered:=false }]/\Below w.1.size w w'
def Bx(N:Nat)(t:qQ)(v:Value)(w:World):Prop:=w.1[N]? = some (.cells (qS t v).toArray 57)
theorem qZF{w:World}{b:Nat}{o:Obj}(h:w.1[b]? = some o):b < w.1.size:=by
 rcases Nat.lt_or_ge b w.1.size with j | j
 ·exact j
 ·rw[Array.getElem?_eq_none j]at h;cases h
section
variable {N:Nat} {t:qQ} {v:Value} {w w':World}
theorem Bx.new(t:qQ)(v:Value)(w:World):Bx w.1.size t v (w.alloc (.cells (qS t v).toArray 57)):=vL _ _
theorem Bx.lt(h:Bx N t v w):N < w.1.size:=qZF h
theorem Bx.below(h:Bx N t v w)(hb:Below w.1.size w w'):Bx N t v w':=(hb.block N h.lt).trans h
theorem Bx.cells{k x:List UInt8}{m ln co:Int}{ks:List qQ}(h:Bx N (.mk k x m ln co ks) v w) :
 w.cell? ⟨N,0,none⟩=some (.string ⟨k.toArray⟩)/\w.cell? ⟨N,1,none⟩=some (.string ⟨x.toArray⟩)/\w.cell? ⟨N,2,none⟩=some (.int .u64 m)/\w.cell? ⟨N,3,none⟩=some (.int .i64 ln)/\w.cell? ⟨N,4,none⟩=some (.int .i64 co)/\w.cell? ⟨N,5,none⟩=some v:=by
 refine⟨?_,?_,?_,?_,?_,?_⟩ <;> (rw[Lib.cell_of_heap h];rfl)
theorem bal(h:Below w.1.size w w')(o:Obj):Below w.1.size w (w'.alloc o):=h.alloc h.size o
end
theorem yP(s:ByteArray)(w:World)(hs:s.size<=1000000) :
 Calls prog 18 #[.string s] w fun e w'=>e=.returned (.string s)/\Below w.1.size w w':=by
 have H:=hI (Tryz.stringslite_Clone s w (by omega));go_enter func18,ntmps18
 go_wp2_with (go_at_call 38;refine(H.o).mono ?_;rintro e w' ⟨rfl,hb⟩)
 go_ret;exact⟨rfl,hb⟩
theorem qQl(t:qQ)(v:Value)(code:Int)(w:World) :
 Calls prog 88 #[.bool true,qZ t v, .int .i64 code] w fun e w'=>e=.returned (.tuple #[])/\Below w.1.size w w':=by
 obtain⟨k,x,m,ln,co,ks⟩:=t;simp only[qZ,qQ.kind,qQ.text,qQ.num,qQ.line,qQ.col,qQ.kids];go_enter func88,ntmps88
 go_wp2
 go_end0;exact⟨rfl,bal (Below.refl _ _) _⟩
theorem qQ5(t:qQ)(v:Value)(code:Int)(w:World) :
 Calls prog 88 #[.bool false,qZ t v, .int .i64 code] w (CPan t.line t.col code w):=by
 obtain⟨k,x,m,ln,co,ks⟩:=t;simp only[qZ,qQ.kind,qQ.text,qQ.num,qQ.line,qQ.col,qQ.kids];unfold CPan xO;go_enter func88,ntmps88
 go_wp2
 exact⟨rfl,rfl,bal (Below.refl _ _) _⟩
theorem qQk(b:Bool)(t:qQ)(v:Value)(code:Int)(w:World) :
 Calls prog 88 #[.bool b,qZ t v, .int .i64 code] w fun e w'=>(b=true/\e=.returned (.tuple #[])/\Below w.1.size w w')\/(b=false/\CPan t.line t.col code w e w'):=by
 cases b
 ·exact(qQ5 t v code w).mono fun e w' h=>.inr ⟨rfl,h⟩
 ·exact(qQl t v code w).mono fun e w' h=>.inl ⟨rfl,h⟩
def tyV(T:Ty):Value:=.agg #[.int .i64 T.1, .bool T.2]
theorem qKd(t:qQ)(v:Value)(w:World)(ht:qKi w) :
 Calls prog 99 #[qZ t v] w fun e w'=>e=.returned (tyV (tyL t.text))/\Below w.1.size w w':=by
 obtain⟨k,x,m,ln,co,ks⟩:=t;simp only[qZ,qQ.kind,qQ.text,qQ.num,qQ.line,qQ.col,qQ.kids];have H:=hI (of_any ⟨x.toArray⟩);have A:=hI ((ht.alloc (.cells #[.string ⟨k.toArray⟩, .string ⟨x.toArray⟩, .int .u64 m, .int .i64 ln, .int .i64 co,v] 57)).alloc (.cells #[.int .i64 0, .bool false] 37));clear ht;go_enter func99,ntmps99
 go_wp2_with fail
 refine(H.o _ A.o).mono ?_;rintro e j ⟨rfl,hb⟩;have s:=hb.size;simp at s;have C:=hI ((bal (bal (Below.refl w.1.size w) (.cells #[.string ⟨k.toArray⟩, .string ⟨x.toArray⟩, .int .u64 m, .int .i64 ln, .int .i64 co,v] 57)) (.cells #[.int .i64 0, .bool false] 37)).trans (hb.mono (by simp;omega)));have b0:j.cell? ⟨w.1.size+1,0,none⟩=some (.int .i64 0):=(hb.cell (p:=⟨w.1.size+1,0,none⟩) (by simp)).trans (by simp[go_sem]);have b1:j.cell? ⟨w.1.size+1,1,none⟩=some (.bool false):=(hb.cell (p:=⟨w.1.size+1,1,none⟩) (by simp)).trans (by simp[go_sem]);have f0:j.frozen? ⟨w.1.size+1,0,none⟩=false:=(hb.frozen (p:=⟨w.1.size+1,0,none⟩) (by simp)).trans (by simp[go_sem]);have f1:j.frozen? ⟨w.1.size+1,1,none⟩=false:=(hb.frozen (p:=⟨w.1.size+1,1,none⟩) (by simp)).trans (by simp[go_sem]);have z:w.1.size+1 < j.1.size:=by omega
 have y:¬j.1.size=w.1.size+1:=by omega
 clear hb H A;unfold ofV;go_wp2
 refine bodyPost_ret (v:=tyV (tyL x)) (by simp[results,results99,go_sem,tyV,tyL,b0,b1,y,z]) rfl ⟨rfl,?_⟩;exact bal ((C.o.setCell (p:=⟨w.1.size+1,0,none⟩) (by simp) _).setCell (p:=⟨w.1.size+1,1,none⟩) (by simp) _) _
theorem qVy(x:ByteArray)(W:Int)(S:Bool)(n:Int)(w:World) :
 Calls prog 27 #[.agg #[.string x, .int .i64 W, .bool S, .int .i64 n]] w fun e w'=>e=.returned (.int .i64 (max n 1))/\Below w.1.size w w':=by
 go_enter func27,ntmps27
 go_wp2
 go_ret;exact⟨rfl,bal (Below.refl _ _) _⟩
theorem qVe(t:qQ)(v:Value)(w:World)(y:t.text.length<=1000000) :
 Calls prog 132 #[qZ t v] w fun e w'=>e=.returned (.string ⟨(qXs t.kind t.text).toArray⟩)/\Below w.1.size w w':=by
 obtain⟨k,x,m,ln,co,ks⟩:=t;simp only[qZ,qQ.kind,qQ.text,qQ.num,qQ.line,qQ.col,qQ.kids]at *;have H:=hI (yP ⟨x.toArray⟩ (w.alloc (.cells #[.string ⟨k.toArray⟩, .string ⟨x.toArray⟩, .int .u64 m, .int .i64 ln, .int .i64 co,v] 57)) (by simpa[ByteArray.size]using y));cases j:(k == qT)
 ·have s:=hI j;unfold qT at j;go_enter func132,ntmps132
  go_wp2_with fail
  refine(H.o).mono ?_;rintro e z ⟨rfl,hb⟩;have hB:=(bal (Below.refl w.1.size w) _).trans (hb.mono (by simp));go_wp2
  go_ret;exact⟨by simp only[qXs,s.o];rfl,hB⟩
 ·have s:=hI j;unfold qT at j;go_enter func132,ntmps132
  go_wp2
  go_ret;exact⟨by simp only[qXs,s.o];rfl,bal (Below.refl _ _) _⟩
open Go Go.RowKit Go.Maps Go.WideMaps
def qZc(x:List UInt8)(i:Nat):List (List UInt8)->Option Nat
 | []=>none
 | y :: r=>if y == x then some i else qZc x (i+1) r
theorem qJP{x:List UInt8}:∀ {L:List (List UInt8)} {i:Nat},qZc x i L=none->qZc x i (L++[x])=some (i+L.length)
 | [],i,_=>by simp[qZc]
 | y :: r,i,h=>by
  rw[qZc]at h;split at h
  ·cases h
  ·rename_i j;rw[lC,qZc,if_neg j,qJP h];simp only[lO];congr 1;omega
theorem qJp{x y:List UInt8}(j:y≠x):∀ {L:List (List UInt8)} {i:Nat},qZc x i (L++[y])=qZc x i L
 | [],i=>by simp[qZc,j]
 | z :: r,i=>by
  rw[lC,qZc,qZc,qJp j]
def qVh(x:List UInt8)(L:List (List UInt8)):Bool:=(qZc x 0 L).isSome
def qVi(x:List UInt8)(L:List (List UInt8)):Int:=((qZc x 0 L).getD 0:Nat)
theorem Tryz.strKey:Keyed prog 9:=string_keyed underlying9
theorem zero3(w:World):(zeroValue 3).run prog w=.ok (.int .i64 0) w:=by kernel_rfl
abbrev NMapD:=DataW Unit
def i64D(n:Int):NMapD:=.lit (.int .i64 n)
def wY(w:World)(b:Nat)(L:List (List UInt8)):Prop :=
 ∃ D:NMapD,w.ownsMap prog 9 (plainElem prog 3) b L.length D/\IsMap D /\
  ∀ x,(qZc x 0 L=none->has D (.string x)=false)/\∀ i,qZc x 0 L=some i->has D (.string x)=true/\∀ z,D.atKey (.string x) z=i64D i
theorem wY.lt{w:World}{b:Nat}{L:List (List UInt8)}(h:wY w b L):b < w.1.size:=by
 obtain⟨D,j,_⟩:=h;exact j.lt
theorem wY.kept{w w':World}{b:Nat}{L:List (List UInt8)}(h:wY w b L)(hb:w'.1[b]? = w.1[b]?):wY w' b L:=by
 obtain⟨D,⟨j,c,o,h2⟩,h3⟩:=h;exact⟨D,⟨j,c,hb.trans o,h2⟩,h3⟩
theorem wY.below{w w':World}{b:Nat}{L:List (List UInt8)}(h:wY w b L)(hb:Below w.1.size w w'):wY w' b L:=h.kept (hb.block b h.lt)
theorem wY.made(w:World):wY (w.alloc (.map #[] 0)) w.1.size [] :=
 ⟨.map [],World.ownsMap_made w _ _ _,isMap_empty,fun x=>⟨fun _=>rfl,fun i h=>by simp[qZc]at h⟩⟩
theorem wY.look{w:World}{b:Nat}{L:List (List UInt8)}(h:wY w b L)(x:List UInt8)(A:x.length<=maxLen) :
 (Instr.lookup 117 (.map (some b)) (.string ⟨x.toArray⟩) true).run prog w=.ok (.tuple #[.int .i64 (qVi x L), .bool (qVh x L)]) w:=by
 obtain⟨D,z,h2,h3⟩:=h;have s:keyOf prog 9 (.string ⟨x.toArray⟩)=some (.string x):=keyOf_string_mk underlying9 (by simpa[ByteArray.size]using A);obtain⟨v,ps,o,hv⟩:=z.look_ok Tryz.strKey underlying117 (zero3 w) (plainElem_int underlying3 (a:=0) (by decide)) s;obtain⟨c,rfl,hc,_⟩:=plainElem_int_inv underlying3 hv;simp only[Prod.mk.injEq]at hc;rw[o];unfold qVi qVh;cases hp:qZc x 0 L with
 | none =>
  have y:=(h3 x).1 hp;rw[y];have:=atKey_of_not_has y (.lit (.int .i64 0):NMapD);rw[this]at hc;have j:=hc.1;simp at j;subst j;rfl
 | some i =>
  obtain⟨y,C⟩:=(h3 x).2 i hp;rw[y];rw[C]at hc;have j:=hc.1;simp only[i64D,DataW.lit.injEq,Lit.int.injEq]at j;rw[<-j.2];rfl
theorem wY.store{w:World}{b:Nat}{L:List (List UInt8)}(h:wY w b L)(x:List UInt8)(I:x.length<=maxLen)(J:qZc x 0 L=none)(hl:L.length < 1000000) :
 ∃ w',(Instr.mapUpdate 117 (.map (some b)) (.string ⟨x.toArray⟩) (.int .i64 L.length)).run prog w=.ok () w'/\wY w' b (L++[x])/\w.grownBy w' (some b):=by
 obtain⟨D,G,h2,h3⟩:=h;have A:keyOf prog 9 (.string ⟨x.toArray⟩)=some (.string x):=keyOf_string_mk underlying9 (by simpa[ByteArray.size]using I);obtain⟨w',j,o,hg⟩:=G.update Tryz.strKey underlying117 (by unfold maxLen;omega) A (plainElem_int underlying3 (a:=(L.length:Int)) (by simp[Lit.wf,IntKind.min,IntKind.max,IntKind.signed,IntKind.bits];omega));refine⟨w',j,⟨_,by simpa using o,h2.put _ _,fun y=>?_⟩,hg⟩;by_cases C:x=y
 ·subst C;rw[qJP J];refine⟨fun e=>by(cases e),fun i e=>?_⟩;injection e with e;subst e;exact⟨has_put_same (k:=.string x) h2 trivial _,fun z=>by rw[atKey_put_same (k:=.string x) h2 trivial];simp[i64D]⟩
 ·rw[qJp C];have s:(Lit.string y)≠.string x:=fun e=>C (Lit.string.inj e).symm
  rw[has_put_other s];refine⟨(h3 y).1,fun i e=>⟨((h3 y).2 i e).1,fun z=>by rw[atKey_put_other s];exact((h3 y).2 i e).2 z⟩⟩
theorem qZI{x:List UInt8}:∀ {L:List qI} {i:Nat},(qQj x i L=none↔qZc x i (L.map (·.name))=none)/\∀ v j,qQj x i L=some (v,j)->qZc x i (L.map (·.name))=some j/\L[j - i]? = some v/\i<=j
 | [],i=>by simp[qQj,qZc]
 | u :: r,i=>by
  simp only[List.map_cons,qQj,qZc];by_cases o:(u.name == x)=true
  ·simp only[o,if_true];refine⟨by simp,fun v j h=>?_⟩;simp only[Option.some.injEq,Prod.mk.injEq]at h;obtain⟨rfl,rfl⟩:=h;simp
  ·simp only[o,if_false,bF];refine⟨qZI.1,fun v j h=>?_⟩;obtain⟨s,h2,h3⟩:=qZI.2 v j h;refine⟨s,?_,by omega⟩;rw[show j - i=(j - (i+1))+1 by omega,List.getElem?_cons_succ];exact h2
theorem qX1{x:List UInt8}:∀ {L:List kI} {i:Nat},(qQN x i L=none↔qZc x i (L.map (·.name))=none)/\∀ v j,qQN x i L=some (v,j)->qZc x i (L.map (·.name))=some j/\L[j - i]? = some v/\i<=j
 | [],i=>by simp[qQN,qZc]
 | u :: r,i=>by
  simp only[List.map_cons,qQN,qZc];by_cases o:(u.name == x)=true
  ·simp only[o,if_true];refine⟨by simp,fun v j h=>?_⟩;simp only[Option.some.injEq,Prod.mk.injEq]at h;obtain⟨rfl,rfl⟩:=h;simp
  ·simp only[o,if_false,bF];refine⟨qX1.1,fun v j h=>?_⟩;obtain⟨s,h2,h3⟩:=qX1.2 v j h;refine⟨s,?_,by omega⟩;rw[show j - i=(j - (i+1))+1 by omega,List.getElem?_cons_succ];exact h2
/-! ### Operators and their rules -/
structure vE where
 c:Nat      -- the variable that holds the checker
 eq:Nat     -- the variable that holds what tells of equality
def qUZ(c:vE):Nat->Value
 | 0=>.func (.func 78) #[] #[]
 | 1=>.func (.func 81) #[] #[.pointer (some ⟨c.c,0,none⟩)]
 | 2=>.func (.func 83) #[] #[.pointer (some ⟨c.eq,0,none⟩)]
 | 3=>.func (.func 79) #[] #[]
 | _=>.func (.func 80) #[] #[]
def qKr(c:vE)(r:Nat):Value:=.agg #[.bool (decide (r<=2)),qUZ c r]
def qWY(v:Value):Option (DataW Value×List MemPlace):=some (.held v,[])
def qJs(w:World)(b:Nat)(c:vE):Prop :=
 ∃ (n:Nat) (D:DataW Value),w.ownsMap prog 9 qWY b n D/\n<=100/\∀ x r,qXx x=some r->∀ z,D.atKey (.string x) z=.held (qKr c r)
theorem qJs.lt{w:World}{b:Nat}{c:vE}(h:qJs w b c):b < w.1.size:=by
 obtain⟨n,D,j,_⟩:=h;exact j.lt
theorem qJs.below{w w':World}{b:Nat}{c:vE}(h:qJs w b c)(hb:Below w.1.size w w'):qJs w' b c:=by
 obtain⟨n,D,⟨o,k,j,h2⟩,h3⟩:=h;exact⟨n,D,⟨o,k,(hb.block b (qZF j)).trans j,h2⟩,h3⟩
theorem zero140(w:World):(zeroValue 140).run prog w=.ok (.agg #[.bool false, .nilFunc]) w:=by kernel_rfl
theorem qJs.look{w:World}{b:Nat}{c:vE}(h:qJs w b c){x:List UInt8}{r:Nat}(hr:qXx x=some r)(s:x.length<=maxLen) :
 (Instr.lookup 118 (.map (some b)) (.string ⟨x.toArray⟩) false).run prog w=.ok (qKr c r) w:=by
 obtain⟨n,D,y,_,h3⟩:=h;have j:keyOf prog 9 (.string ⟨x.toArray⟩)=some (.string x):=keyOf_string_mk underlying9 (by simpa[ByteArray.size]using s);obtain⟨v,ps,o,hv⟩:=y.lookup Tryz.strKey underlying118 (zero140 w) (by rfl) j;rw[o];rw[h3 x r hr]at hv;simp only[qWY,Option.some.injEq,Prod.mk.injEq,DataW.held.injEq]at hv;rw[hv.1]
def xD{α:Type}(f:α->List Value):List α->List Value
 | []=>[]
 | a :: r=>f a++xD f r
theorem qVB{α:Type}{f:α->List Value}{n:Nat}(hf:∀ a,(f a).length=n):∀ L:List α,(xD f L).length=L.length * n
 | []=>by simp[xD]
 | a :: r=>by rw[xD,lL,hf,qVB hf r,lO,Nat.add_mul];omega
theorem qZt{α:Type}(f:α->List Value):∀ L M:List α,xD f (L++M)=xD f L++xD f M
 | [],M=>rfl
 | a :: r,M=>by rw[lC,xD,xD,qZt f r M,List.append_assoc]
theorem qPD{α:Type}{f:α->List Value}{n:Nat}(hf:∀ a,(f a).length=n):∀ (L:List α) (i k:Nat) (hi:i < L.length),k < n->(xD f L)[i * n+k]? = (f L[i])[k]?
 | a :: r,0,k,_,hk=>by
  rw[xD,Nat.zero_mul,Nat.zero_add,List.getElem?_append_left (by rw[hf];exact hk)];rfl
 | a :: r,i+1,k,hi,hk=>by
  rw[xD,List.getElem?_append_right (by rw[hf,Nat.add_mul];omega)];have e:(i+1) * n+k - (f a).length=i * n+k:=by rw[hf,Nat.add_mul];omega
  rw[e];exact qPD hf r i k (by simpa using hi) hk
 | [],i,_,hi,_=>by simp at hi
theorem qQm{α:Type}{f:α->List Value}{n:Nat}(hf:∀ a,(f a).length=n){w:World}{base T:Nat}{v:Value}{L:List α}{g:Nat}(h:w.ownsRow base T n v L.length (xD f L))(hg:v.ownBlock=some g)
 {i k:Nat} (hi:i < L.length) (j:k < n) {u:Value} (o:(f L[i])[k]? = some u):w.cell? ⟨g,i * n+k,none⟩=some u:=by
 have:=h.cells hg (i * n+k) u (by rw[qPD hf L i k hi j];exact o);rw[Lib.add_plain,Nat.zero_add]at this;exact this
def qQe(v:qI):List Value:=[.string ⟨v.name.toArray⟩, .int .i64 v.t.1, .bool v.t.2, .int .i64 v.size]
def qXK(v:qI):Value:=.agg #[.string ⟨v.name.toArray⟩, .int .i64 v.t.1, .bool v.t.2, .int .i64 v.size]
theorem qJ0(v:qI):(qQe v).length=4:=rfl
def qQI(w:World)(base:Nat)(L:List qI)(v:Value):Prop:=w.ownsRow base 42 4 v L.length (xD qQe L)
def exC:Ex->Value->List Value
 | .mk op t n va g l c _,v=>[.string ⟨op.toArray⟩, .int .i64 t.1, .bool t.2, .int .u64 n, .int .i64 va, .bool g, .int .i64 l, .int .i64 c,v]
def exV:Ex->Value->Value
 | .mk op t n va g l c _,v=>.agg #[.string ⟨op.toArray⟩, .int .i64 t.1, .bool t.2, .int .u64 n, .int .i64 va, .bool g, .int .i64 l, .int .i64 c,v]
def Ex.kids:Ex->List Ex | .mk _ _ _ _ _ _ _ ks=>ks
theorem exC_len(e:Ex)(v:Value):(exC e v).length=9:=by cases e;rfl
def qVM:List Ex->List Value->List Value
 | t :: ts,v :: vs=>exC t v++qVM ts vs
 | _,_=>[]
mutual
def qQF(w:World)(ok:Nat->Prop):Ex->Value->Prop
 | .mk _ _ _ _ _ _ _ kids,v=>∃ vs,(∀ g,v.ownBlock=some g->ok g)/\w.ownsRow 0 76 9 v kids.length (qVM kids vs)/\yN w ok kids vs
def yN(w:World)(ok:Nat->Prop):List Ex->List Value->Prop
 | [],[]=>True
 | t :: ts,v :: vs=>qQF w ok t v/\yN w ok ts vs
 | _,_=>False
end
def qU(w:World)(ok:Nat->Prop)(es:List Ex)(v:Value):Prop:=∃ vs,(∀ g,v.ownBlock=some g->ok g)/\w.ownsRow 0 76 9 v es.length (qVM es vs)/\yN w ok es vs
theorem qVr{w:World}{ok:Nat->Prop}(e:Ex)(v:Value):qQF w ok e v↔qU w ok e.kids v:=by
 cases e;rw[qQF];exact Iff.rfl
theorem zU{w w':World}{base T size n:Nat}{v:Value}{xs:List Value}(h:w.ownsRow base T size v n xs)(hm:∀ g,v.ownBlock=some g->w'.1[g]? = w.1[g]?):w'.ownsRow base T size v n xs:=by
 refine⟨h.1,?_⟩;rcases h.2 with h | ⟨g,j,s,rfl,hb,o,rest⟩
 ·exact .inl h
 ·exact .inr ⟨g,j,s,rfl,hb,(hm g rfl).trans o,rest⟩
mutual
theorem qQF.move{w w':World}{ok ok':Nat->Prop}(hm:∀ g,g < w.1.size->ok g->ok' g/\w'.1[g]? = w.1[g]?):∀ (t:Ex) (v:Value),qQF w ok t v->qQF w' ok' t v
 | .mk _ _ _ _ _ _ _ kids,v,h=>by
  obtain⟨vs,h1,h2,h3⟩:=h;exact⟨vs,fun g hg=>(hm g (h2.lt g hg).2 (h1 g hg)).1,zU h2 (fun g hg=>(hm g (h2.lt g hg).2 (h1 g hg)).2),yN.move hm kids vs h3⟩
theorem yN.move{w w':World}{ok ok':Nat->Prop}(hm:∀ g,g < w.1.size->ok g->ok' g/\w'.1[g]? = w.1[g]?):∀ (ts:List Ex) (vs:List Value),yN w ok ts vs->yN w' ok' ts vs
 | [],[],_=>trivial
 | t :: ts,v :: vs,h=>⟨qQF.move hm t v h.1,yN.move hm ts vs h.2⟩
 | [],_ :: _,h=>h.elim
 | _ :: _,[],h=>h.elim
end
theorem qU.move{w w':World}{ok ok':Nat->Prop}{j:List Ex}{v:Value}(h:qU w ok j v)(hm:∀ g,g < w.1.size->ok g->ok' g/\w'.1[g]? = w.1[g]?):qU w' ok' j v:=by
 obtain⟨o,s,h2,h3⟩:=h;exact⟨o,fun g hg=>(hm g (h2.lt g hg).2 (s g hg)).1,zU h2 (fun g hg=>(hm g (h2.lt g hg).2 (s g hg)).2),yN.move hm j o h3⟩
theorem qU.below{w w':World}{ok:Nat->Prop}{j:List Ex}{v:Value}(h:qU w ok j v)(hb:Below w.1.size w w'):qU w' ok j v:=h.move fun g hg ho=>⟨ho,hb.block g hg⟩
theorem qU.mono{w:World}{ok ok':Nat->Prop}{j:List Ex}{v:Value}(h:qU w ok j v)(hm:∀ g,ok g->ok' g):qU w ok' j v:=h.move fun g _ ho=>⟨hm g ho,rfl⟩
theorem qU.nil(w:World)(ok:Nat->Prop):qU w ok [] (.slice none 0 0):=⟨[],fun g h=>by simp[Value.ownBlock]at h,World.ownsRow_nil _ _ _ _,trivial⟩
theorem qU.one{w:World}{ok:Nat->Prop}{j:List Ex}{v:Value}(h:qU w ok j v):v.oneCell'=true:=by
 obtain⟨y,_,h2,_⟩:=h;rcases h2.2 with⟨rfl,_⟩ | ⟨g,o,s,rfl,_⟩ <;> rfl
theorem qU.shape{w:World}{ok:Nat->Prop}{j:List Ex}{v:Value}(h:qU w ok j v):∃ q c,v=.slice q j.length c:=by
 obtain⟨z,_,h2,_⟩:=h;rcases h2.2 with⟨rfl,y⟩ | ⟨g,o,s,rfl,_⟩
 ·exact⟨none,0,by rw[y]⟩
 ·exact⟨_,_,rfl⟩
theorem yN.length{w:World}{ok:Nat->Prop}:∀ (ts:List Ex) (j:List Value),yN w ok ts j->ts.length=j.length
 | [],[],_=>rfl
 | _ :: ts,_ :: j,h=>by simp[yN.length ts j h.2]
 | [],_ :: _,h=>h.elim
 | _ :: _,[],h=>h.elim
theorem qWa:∀ (ts us:List Ex) (j xs:List Value),ts.length=j.length->qVM (ts++us) (j++xs)=qVM ts j++qVM us xs
 | [],us,[],xs,_=>rfl
 | t :: ts,us,v :: j,xs,h=>by simp only[lC,qVM,qWa ts us j xs (by simpa using h),List.append_assoc]
 | [],_,_ :: _,_,h=>by simp at h
 | _ :: _,_,[],_,h=>by simp at h
theorem yN.append{w:World}{ok:Nat->Prop}:∀ (ts us:List Ex) (j xs:List Value),yN w ok ts j->yN w ok us xs->yN w ok (ts++us) (j++xs)
 | [],_,[],_,_,h=>h
 | _ :: ts,us,_ :: j,xs,h,h'=>⟨h.1,yN.append ts us j xs h.2 h'⟩
 | [],_,_ :: _,_,h,_=>h.elim
 | _ :: _,_,[],_,h,_=>h.elim
def wC(w:World)(lo:Nat)(es:List Ex)(v:Value):Prop:=∃ vs,w.ownsRow lo 76 9 v es.length (qVM es vs)/\yN w (fun g=>lo<=g/\some g≠v.ownBlock) es vs
theorem wC.nil(w:World)(lo:Nat):wC w lo [] (.slice none 0 0):=⟨[],World.ownsRow_nil _ _ _ _,trivial⟩
theorem qX2{w:World}{base j T size n:Nat}{v:Value}{xs:List Value}(h:w.ownsRow base T size v n xs)(hb:j<=base):w.ownsRow j T size v n xs:=qW2 h (fun g hg=>Nat.le_trans hb (h.lt g hg).1)
theorem wC.lies{w:World}{lo:Nat}{j:List Ex}{v:Value}(h:wC w lo j v):qU w (fun g=>lo<=g) j v:=by
 obtain⟨o,s,h2⟩:=h;exact⟨o,fun g hg=>(s.lt g hg).1,qX2 s (Nat.zero_le _),yN.move (fun g _ hg=>⟨hg.1,rfl⟩) _ o h2⟩
theorem wC.below{w w':World}{lo:Nat}{j:List Ex}{v:Value}(h:wC w lo j v)(hb:Below w.1.size w w'):wC w' lo j v:=by
 obtain⟨o,s,h2⟩:=h;exact⟨o,zU s (fun g hg=>hb.block g (s.lt g hg).2),yN.move (fun g hg ho=>⟨ho,hb.block g hg⟩) _ o h2⟩
theorem wC.lt{w:World}{lo:Nat}{j:List Ex}{v:Value}(h:wC w lo j v):∀ g,v.ownBlock=some g->lo<=g/\g < w.1.size:=by
 obtain⟨s,o,_⟩:=h;exact o.lt
theorem exC_one(e:Ex){v:Value}(h:v.oneCell'=true):∀ u∈exC e v,u.oneCell'=true:=by
 cases e;intro u j;simp[exC]at j;rcases j with rfl | rfl | rfl | rfl | rfl | rfl | rfl | rfl | rfl <;> first | rfl | exact h
theorem qQJ{S T size bytes:Nat}{zero:Value}(hu:prog.underlying S=some (.slice T))(I:(prog.info? T).map (fun i=>(i.zero,i.size,i.bytes))=some (some zero,size,bytes))(U:bytes<=1000)(R:zero.cells.size=size)(V:0 < size)
 {o:Oper} {a:Act} {K:Act->World->Prop} {Q:Exit->Act->World->Prop} {w:World} {lo Z dd n:Nat} {xs news:List Value} {v:Value} (s x:Operand)
 (ho:o.op=.call { callee:=.builtin .append,args:=#[s,x],argTypes:=#[S,S] }) (hd:o.dst=some dd) (A:w.ownsRow lo T size v n xs) (hlo:lo<=w.1.size) (hs:a.eval s=v) (hS:w.1.size=Z)
 (hx:a.eval x=.slice (some ⟨Z,0,none⟩) 1 1) (hl:news.length=size) (z:∀ u∈news,u.oneCell'=true) (hn:n < 1000000)
 (h:∀ C w',w'.ownsRow lo T size C (n+1) (xs++news)->(w.alloc (.cells news.toArray T)).grownBy w' v.ownBlock->(C.ownBlock=v.ownBlock\/C.ownBlock=some (w.1.size+1))->K (a.put (some dd) C) w') :
 o.wp prog a (w.alloc (.cells news.toArray T)) K Q:=by
 subst hS;obtain⟨i0,hi,G,J,hz2⟩:=info_parts I;have y:∀ (j:Nat) (u:Value),news[j]? = some u->(w.alloc (.cells news.toArray T)).cell? ((⟨w.1.size,0,none⟩:Addr).add j)=some u:=fun j u hj=>by
  rw[Lib.add_plain,Nat.zero_add,Lib.cell_of_heap (vL _ _)];simpa using hj
 have d2:(n+1) * bytes<=1000000 * 1000:=Nat.mul_le_mul (by omega) U;obtain⟨C,w',hr,O,Y,_⟩:=run_append_own (P:=prog) (w.alloc (.cells news.toArray T)) lo S o.type T i0 _ size bytes hu hi G J hz2 R V v n xs (A.alloc _) ⟨w.1.size,0,none⟩ 1 1 news (by omega) y z (by unfold maxLen;omega) (by omega) (by simp;omega);have X:=qX7 (P:=prog) (w.alloc (.cells news.toArray T)) lo S o.type T i0 _ size bytes hu hi G J hz2 v n xs (A.alloc _) ⟨w.1.size,0,none⟩ 1 1 news (by omega) y z (by unfold maxLen;omega) (by omega) (by omega) C w' hr;have hK:K (a.put o.dst C) w':=by rw[hd];exact h C w' O Y (by simpa using X)
 unfold Oper.wp execOp;simp only[ho,resolve,invoke,builtin,Sem.run_bind,Sem.run_pure,Result.andThen_ok,List.map_toArray,List.map_cons,List.map_nil,hs,hx,hr];exact hK
theorem info42:(prog.info? 42).map (fun i=>(i.zero,i.size,i.bytes))=some (some (.agg #[.string ⟨#[]⟩, .int .i64 0, .bool false, .int .i64 0]),4,40):=by kernel_rfl
theorem info76:(prog.info? 76).map (fun i=>(i.zero,i.size,i.bytes))=some (some (.agg #[.string ⟨#[]⟩, .int .i64 0, .bool false, .int .u64 0, .int .i64 0, .bool false, .int .i64 0, .int .i64 0, .slice none 0 0]),9,96):=by kernel_rfl
theorem qYU{o:Oper}{a:Act}{K:Act->World->Prop}{Q:Exit->Act->World->Prop}{w:World}{lo A dd:Nat}{acc:List Ex}{e:Ex}{v u:Value}(s x:Operand)
 (ho:o.op=.call { callee:=.builtin .append,args:=#[s,x],argTypes:=#[71,71] }) (hd:o.dst=some dd) (hB:wC w lo acc v) (C:qU w (fun g=>lo<=g/\some g≠v.ownBlock) e.kids u) (hlo:lo<=w.1.size)
 (hs:a.eval s=v) (hS:w.1.size=A) (I:a.eval x=.slice (some ⟨A,0,none⟩) 1 1) (J:acc.length < 1000000)
 (h:∀ v' w',wC w' lo (acc++[e]) v'->(w.alloc (.cells (exC e u).toArray 76)).grownBy w' v.ownBlock->K (a.put (some dd) v') w') :
 o.wp prog a (w.alloc (.cells (exC e u).toArray 76)) K Q:=by
 obtain⟨j,G,h2⟩:=hB;refine qQJ underlying71 info76 (by decide) rfl (by decide) s x ho hd G hlo hs hS I (exC_len e u) (exC_one e C.one) J fun v' w' ho' hg' hbk=>h v' w' ?_ hg'
 have y:=yN.length acc j h2;have z:∀ g,g < w.1.size->lo<=g/\some g≠v.ownBlock->(lo<=g/\some g≠v'.ownBlock)/\w'.1[g]? = w.1[g]?:=fun g hg hok=>by
  refine⟨⟨hok.1,fun e=>?_⟩,(hg'.block g (by simp;omega) hok.2).trans (Below.heap_alloc w _ g hg)⟩;rcases hbk with h | h
  ·exact hok.2 (e.trans h)
  ·rw[h]at e;injection e with e;omega
 refine⟨j++[u],?_,yN.append acc [e] j [u] (yN.move z acc j h2) ⟨(qVr e u).2 (C.move z),trivial⟩⟩;rw[qWa acc [e] j [u] y,lL];simpa[qVM]using ho'
structure EIn(B:Nat)(E:Env)(gv vv:Value)(Mg Mo Mr F o:Nat)(cl:vE)(w:World):Prop where
 c0:w.cell? ⟨B,0,none⟩=some gv
 c3:w.cell? ⟨B,3,none⟩=some (.map (some Mg))
 c6:w.cell? ⟨B,6,none⟩=some (.map (some Mr))
 c7:w.cell? ⟨B,7,none⟩=some (.pointer (some ⟨F,o,none⟩))
 c8:w.cell? ⟨B,8,none⟩=some (.map (some Mo))
 fv:w.cell? ⟨F,o+4,none⟩=some vv
 grow:qQI w 0 E.gs gv
 vrow:qQI w 0 E.own vv
 gm:wY w Mg (E.gs.map (·.name))
 om:wY w Mo (E.own.map (·.name))
 rm:qJs w Mr cl
 cc:w.cell? ⟨cl.c,0,none⟩=some (.pointer (some ⟨B,0,none⟩))
 ce:w.cell? ⟨cl.eq,0,none⟩=some (.func (.func 81) #[] #[.pointer (some ⟨cl.c,0,none⟩)])
 wt:qKi w
 b0:w.cell? ⟨1,0,none⟩=some (.int .i64 1)
 b1:w.cell? ⟨1,1,none⟩=some (.bool false)
 d0:w.cell? ⟨2,0,none⟩=some (.int .i64 64)
 d1:w.cell? ⟨2,1,none⟩=some (.bool false)
 gl:E.gs.length<=64
 ol:E.own.length<=64
theorem EIn.below{B:Nat}{E:Env}{gv vv:Value}{Mg Mo Mr F o:Nat}{cl:vE}{w w':World}(h:EIn B E gv vv Mg Mo Mr F o cl w)(hb:Below w.1.size w w'):EIn B E gv vv Mg Mo Mr F o cl w' :=
 have k:∀ {p:Addr} {v:Value},w.cell? p=some v->w'.cell? p=some v:=fun e=>kP hb e
 ⟨k h.c0,k h.c3,k h.c6,k h.c7,k h.c8,k h.fv,zU h.grow (fun g hg=>hb.block g (h.grow.lt g hg).2),zU h.vrow (fun g hg=>hb.block g (h.vrow.lt g hg).2),h.gm.below hb,h.om.below hb,h.rm.below hb,k h.cc,k h.ce,h.wt.below hb,k h.b0,k h.b1,k h.d0,k h.d1,h.gl,h.ol⟩
def EAt(B:Nat)(E:Env)(w:World):Prop:=∃ gv vv Mg Mo Mr F o cl,EIn B E gv vv Mg Mo Mr F o cl w
theorem EAt.below{B:Nat}{E:Env}{w w':World}(h:EAt B E w)(hb:Below w.1.size w w'):EAt B E w':=by
 obtain⟨gv,vv,Mg,Mo,Mr,F,o,cl,h⟩:=h;exact⟨gv,vv,Mg,Mo,Mr,F,o,cl,h.below hb⟩
theorem EAt.drew{B:Nat}{E:Env}{w:World}(h:EAt B E w):EAt B E w.drew:=h.below (Below.refl _ _).drew
def zP{α:Type}(p:CR α)(R:α->Value->World->Prop)(w:World)(e:Ending)(w':World):Prop :=
 match p with
 | .ok a=>∃ v,e=.returned v/\R a v w'/\Below w.1.size w w'
 | .bad ln co code=>CPan ln co code w e w'
theorem zP.okI{α:Type}{p:CR α}{R:α->Value->World->Prop}{w w':World}{a:α}{v:Value}(hp:p=.ok a)(j:R a v w')(hb:Below w.1.size w w'):zP p R w (.returned v) w':=by
 rw[hp];exact⟨v,rfl,j,hb⟩
theorem zP.badI{α:Type}{p:CR α}{R:α->Value->World->Prop}{w w':World}{e:Ending}{ln co code:Int}(hp:p=.bad ln co code)(h:CPan ln co code w e w'):zP p R w e w':=by
 rw[hp];exact h
theorem zP.cases{α:Type}{p:CR α}{R:α->Value->World->Prop}{w w':World}{e:Ending}(h:zP p R w e w') :
 (∃ a v,p=.ok a/\e=.returned v/\R a v w'/\Below w.1.size w w')\/∃ ln co code,p=.bad ln co code/\e=.panicked [{ v:=xO ln co code,recovered:=false }]/\Below w.1.size w w':=by
 cases p with
 | ok a=>obtain⟨v,j,h2,h3⟩:=h;exact .inl ⟨a,v,rfl,j,h2,h3⟩
 | bad ln co code=>exact .inr ⟨ln,co,code,rfl,h.1,h.2⟩
theorem qKe{w:World}{b:Nat}{L:List qI}{v:Value}(h:qQI w b L v){i:Nat}(hi:i < L.length):∃ g c,v=.slice (some ⟨g,0,none⟩) L.length c/\w.cell? ⟨g,i * 4,none⟩=some (.string ⟨L[i].name.toArray⟩)/\w.cell? ⟨g,i * 4+1,none⟩=some (.int .i64 L[i].t.1) /\
 w.cell? ⟨g,i * 4+2,none⟩=some (.bool L[i].t.2)/\w.cell? ⟨g,i * 4+3,none⟩=some (.int .i64 L[i].size):=by
 rcases h.2 with⟨_,s⟩ | ⟨g,j,o,rfl,_⟩
 ·omega
 ·exact⟨g,j,rfl,qQm qJ0 h rfl hi (k:=0) (by omega) rfl,qQm qJ0 h rfl hi (k:=1) (by omega) rfl,qQm qJ0 h rfl hi (k:=2) (by omega) rfl,qQm qJ0 h rfl hi (k:=3) (by omega) rfl⟩
def qWS(r:qI×Nat×Bool):Value:=.tuple #[qXK r.1, .int .i64 r.2.1, .bool r.2.2]
theorem zF{w w':World}(h:Below w.drew.1.size w.drew w'):Below w.1.size w w':=⟨h.os,h.tape,h.output,h.size,h.block⟩
structure qQB(N:Nat)(u:qI)(w:World):Prop where
 c0:w.cell? ⟨N,0,none⟩=some (.string ⟨u.name.toArray⟩)
 c1:w.cell? ⟨N,1,none⟩=some (.int .i64 u.t.1)
 c2:w.cell? ⟨N,2,none⟩=some (.bool u.t.2)
 c3:w.cell? ⟨N,3,none⟩=some (.int .i64 u.size)
 f:∀ k,k < 4->w.frozen? ⟨N,k,none⟩=false
theorem qQB.a{N:Nat}{u:qI}{w:World}(h:qQB N u w):w.cell? ⟨N,0,none⟩=some (.string ⟨u.name.toArray⟩)/\w.cell? ⟨N,1,none⟩=some (.int .i64 u.t.1)/\w.cell? ⟨N,2,none⟩=some (.bool u.t.2)/\w.cell? ⟨N,3,none⟩=some (.int .i64 u.size)/\True:=⟨h.c0,h.c1,h.c2,h.c3,trivial⟩
theorem qQB.b{N:Nat}{u:qI}{w:World}(h:qQB N u w):w.frozen? ⟨N,0,none⟩=false/\w.frozen? ⟨N,1,none⟩=false/\w.frozen? ⟨N,2,none⟩=false/\w.frozen? ⟨N,3,none⟩=false/\True:=⟨h.f 0 (by decide),h.f 1 (by decide),h.f 2 (by decide),h.f 3 (by decide),trivial⟩
theorem qQB.new(u:qI)(w:World):qQB w.1.size u (w.alloc (.cells (qQe u).toArray 42)):=by
 constructor
 case f=>intro k j;match k,j with | 0,_=>simp[go_sem,qQe] | 1,_=>simp[go_sem,qQe] | 2,_=>simp[go_sem,qQe] | 3,_=>simp[go_sem,qQe]
 all_goals simp[go_sem,qQe]
theorem qQB.lt{N:Nat}{u:qI}{w:World}(h:qQB N u w):N < w.1.size:=qJ h.c0
theorem qQB.below{N:Nat}{u:qI}{w w':World}(h:qQB N u w)(hb:Below w.1.size w w'):qQB N u w' :=
 ⟨(hb.cell h.lt).trans h.c0,(hb.cell h.lt).trans h.c1,(hb.cell h.lt).trans h.c2,(hb.cell h.lt).trans h.c3,fun k hk=>(hb.frozen h.lt).trans (h.f k hk)⟩
def qB(t:qQ)(v:Value):Obj:=.cells (qS t v).toArray 57
def qZU:qI:=⟨[],(0,false),0⟩
def qYx(u:qI):Obj:=.cells (qQe u).toArray 42
theorem qJL{x:List UInt8}{L:List qI}{v:qI}{j:Nat}(h:qQj x 0 L=some (v,j)):qVh x (L.map (·.name))=true/\qVi x (L.map (·.name))=j/\∃ o:j < L.length,L[j]=v:=by
 obtain⟨hp,hi,_⟩:=qZI.2 v j h;obtain⟨o,s⟩:=List.getElem?_eq_some_iff.1 hi;exact⟨by unfold qVh;rw[hp];rfl,by unfold qVi;rw[hp];rfl,by simpa using o,by simpa using s⟩
theorem qXq{x:List UInt8}{L:List qI}(h:qQj x 0 L=none):qVh x (L.map (·.name))=false/\qVi x (L.map (·.name))=0:=by
 have hp:=qZI.1.1 h;exact⟨by unfold qVh;rw[hp];rfl,by unfold qVi;rw[hp];rfl⟩
theorem qJK{x:List UInt8}{L:List kI}{v:kI}{j:Nat}(h:qQN x 0 L=some (v,j)):qVh x (L.map (·.name))=true/\qVi x (L.map (·.name))=j/\∃ o:j < L.length,L[j]=v:=by
 obtain⟨hp,hi,_⟩:=qX1.2 v j h;obtain⟨o,s⟩:=List.getElem?_eq_some_iff.1 hi;exact⟨by unfold qVh;rw[hp];rfl,by unfold qVi;rw[hp];rfl,by simpa using o,by simpa using s⟩
theorem qKJ{x:List UInt8}{L:List kI}(h:qQN x 0 L=none):qVh x (L.map (·.name))=false/\qVi x (L.map (·.name))=0:=by
 have hp:=qX1.1.1 h;exact⟨by unfold qVh;rw[hp];rfl,by unfold qVi;rw[hp];rfl⟩
theorem qPz(B:Nat)(E:Env)(t:qQ)(v:Value)(w:World)(h:EAt B E w)(hx:t.text.length<=1000000) :
 Calls prog 131 #[.pointer (some ⟨B,0,none⟩),qZ t v] w (zP (qZD E t) (fun a u _=>u=qWS a) w):=by
 have U:=hI (bal (bal (Below.refl w.1.size w) (qB t v)) (qYx qZU));have H2:=hI (h.below U.o);have HN:=hI ((Bx.new t v w).below (bal (Below.refl _ _) (qYx qZU)));have R:=hI (qQB.new qZU (w.alloc (qB t v)));clear h;have d4:((w.alloc (qB t v)).alloc (qYx qZU)).1.size=w.1.size+2:=by simp
 simp only[World.size_alloc]at R;obtain⟨k,x,m,ln,co,ks⟩:=t;simp only[qZ,qB,qYx,qS,qQe,qZU,qQ.kind,qQ.text,qQ.num,qQ.line,qQ.col,qQ.kids]at *;go_enter func131,ntmps131
 go_wp2
 generalize ((w.alloc _).alloc _)=W at *;obtain⟨n0,n1,n2,n3,n4,n5⟩:=HN.o.cells;obtain⟨gv,vv,Mg,Mo,Mr,F,o,cl,h2⟩:=H2.o;have c0:=h2.c0;have c3:=h2.c3;have c7:=h2.c7;have c8:=h2.c8;have fv:=h2.fv;have C:=(h2.om.below (Below.refl _ _).drew).look x (by unfold maxLen;omega);have A:=(h2.gm.below ((Below.refl _ _).drew (w:=W)).drew).look x (by unfold maxLen;omega);cases hl:qQj x 0 E.own with
 | some r =>
  obtain⟨u,i⟩:=r;have j:qZD E (.mk k x m ln co ks)=.ok (u,i,false):=by unfold qZD;simp only[qQ.text,hl]
  have I:=hI j;obtain⟨z,e2,G,rfl⟩:=qJL hl;rw[z,e2]at C;obtain⟨g,c,rfl,r0,Z,V,Y⟩:=qKe h2.vrow G;have d3:=h2.ol;have J:(i:Int) < (E.own.length:Nat):=by omega
  have⟨v0,X,v2,v3,_⟩:=R.o.a;have⟨g0,g1,g2,g3,_⟩:=R.o.b;clear h2 A c0 c3 z e2 hl j;go_region
  go_wp2
  refine bodyPost_ret (v:=qWS (E.own[i],i,false)) (by simp[results,results131,go_sem,qWS,qXK,v0,X,v2,v3]) rfl (zP.okI I.o rfl ?_);exact(((((U.o.setCell (p:=⟨w.1.size+1,0,none⟩) (by simp) _).setCell (p:=⟨w.1.size+1,1,none⟩) (by simp) _).setCell (p:=⟨w.1.size+1,2,none⟩) (by simp) _).setCell (p:=⟨w.1.size+1,3,none⟩) (by simp) _)).drew
 | none =>
  obtain⟨z,e2⟩:=qXq hl;rw[z,e2]at C;cases y:qQj x 0 E.gs with
  | some r =>
   obtain⟨u,i⟩:=r;have j:qZD E (.mk k x m ln co ks)=.ok (u,i,true):=by unfold qZD;simp only[qQ.text,hl,y]
   have I:=hI j;obtain⟨z,e2,G,rfl⟩:=qJL y;rw[z,e2]at A;obtain⟨g,c,rfl,r0,Z,V,Y⟩:=qKe h2.grow G;have d3:=h2.gl;have J:(i:Int) < (E.gs.length:Nat):=by omega
   have hN:=hI (qQl (.mk k x m ln co ks) v 40 W.drew.drew);simp only[qZ,qQ.kind,qQ.text,qQ.num,qQ.line,qQ.col,qQ.kids]at hN;clear c7 fv z e2 hl y j;go_region
   go_wp2
   go_region
   go_wp2_with fail
   refine(hN.o).mono ?_;rintro e w3 ⟨rfl,hb3⟩;have s:Below W.1.size W w3:=zF (zF hb3);have c0:=kP s h2.c0;obtain⟨r0,Z,V,Y⟩:=kP4 s r0 Z V Y;have O:=R.o.below s;have⟨v0,X,v2,v3,_⟩:=O.a;have⟨g0,g1,g2,g3,_⟩:=O.b;have d2:=hI (U.o.trans (s.mono (by omega)));clear h2 hb3 s C A c3 c8 n0 n1 n2 n3 n4 n5;go_wp2
   refine bodyPost_ret (v:=qWS (E.gs[i],i,true)) (by simp[results,results131,go_sem,qWS,qXK,v0,X,v2,v3]) rfl (zP.okI I.o rfl ?_);exact((((d2.o.setCell (p:=⟨w.1.size+1,0,none⟩) (by simp) _).setCell (p:=⟨w.1.size+1,1,none⟩) (by simp) _).setCell (p:=⟨w.1.size+1,2,none⟩) (by simp) _).setCell (p:=⟨w.1.size+1,3,none⟩) (by simp) _)
  | none =>
   have j:qZD E (.mk k x m ln co ks)=.bad ln co 40:=by unfold qZD;simp only[qQ.text,hl,y];rfl
   have I:=hI j;obtain⟨z,e2⟩:=qXq y;rw[z,e2]at A;have hN:=hI (qQ5 (.mk k x m ln co ks) v 40 W.drew.drew);simp only[qZ,qQ.kind,qQ.text,qQ.num,qQ.line,qQ.col,qQ.kids]at hN;clear c7 fv z e2 hl y j c0;go_region
   go_wp2
   go_region
   go_wp2_with fail
   refine(hN.o).mono ?_;rintro e w3 ⟨rfl,hb3⟩;exact⟨rfl,zP.badI I.o ⟨rfl,U.o.trans (Below.mono (zF (zF hb3)) (by omega))⟩⟩
mutual
def wfE:qQ->Bool
 | .mk k x m _ _ ks=>decide (x.length<=1000000/\0<=m/\m < 18446744073709551616) && ((k == zD || k == zL || k == qH || k == zM) && ks.isEmpty || (k == qL || k == zK) && ks.length == 1 || (k == qT || k == qM) && (qXx (qXs k x)).isSome && decide (ks.length<=2)) && qZV ks
def qZV:List qQ->Bool
 | []=>true
 | t :: r=>wfE t && qZV r
end
theorem wfE.kids{t:qQ}(h:wfE t=true):qZV t.kids=true:=by
 cases t;simp only[wfE,bE]at h;exact h.2
def tyO(T:Ty):Obj:=.cells #[.int .i64 T.1, .bool T.2] 37
structure qZ7(N:Nat)(T:Ty)(w:World):Prop where
 c0:w.cell? ⟨N,0,none⟩=some (.int .i64 T.1)
 c1:w.cell? ⟨N,1,none⟩=some (.bool T.2)
 f0:w.frozen? ⟨N,0,none⟩=false
 f1:w.frozen? ⟨N,1,none⟩=false
theorem qZ7.a{N:Nat}{T:Ty}{w:World}(h:qZ7 N T w):w.cell? ⟨N,0,none⟩=some (.int .i64 T.1)/\w.cell? ⟨N,1,none⟩=some (.bool T.2)/\True:=⟨h.c0,h.c1,trivial⟩
theorem qZ7.new(T:Ty)(w:World):qZ7 w.1.size T (w.alloc (tyO T)):=by
 unfold tyO;constructor <;> simp[go_sem]
theorem qZ7.lt{N:Nat}{T:Ty}{w:World}(h:qZ7 N T w):N < w.1.size:=qJ h.c0
theorem qZ7.below{N:Nat}{T:Ty}{w w':World}(h:qZ7 N T w)(hb:Below w.1.size w w'):qZ7 N T w' :=
 ⟨(hb.cell h.lt).trans h.c0,(hb.cell h.lt).trans h.c1,(hb.frozen h.lt).trans h.f0,(hb.frozen h.lt).trans h.f1⟩
def qYS(t:qQ):Prop:=∀ (B L:Nat) (E:Env) (v:Value) (w:World),EAt B E w->L<=w.1.size->xZ w (· < L) t v ->
 Calls prog 119 #[.pointer (some ⟨B,0,none⟩),qZ t v] w (zP (qJu E t) (fun a u _=>u=tyV a) w)
theorem firstC_at{E:Env}{ts:List qQ}{k:Nat}(h:k < ts.length):qQu E (ts.drop k)=(qJu E ts[k]).bind fun u=>if u=noT then qQu E (ts.drop (k+1))else .ok u:=by
 rw[List.drop_eq_getElem_cons h,qQu]
def FRel(E:Env)(ts:List qQ)(W:World)(i:Value)(wr:World):Prop :=
 ∃ k:Nat,k<=ts.length/\i=.int .i64 k/\qQu E (ts.drop k)=qQu E ts/\Below W.1.size W wr
theorem qWN(B L:Nat)(E:Env)(ts:List qQ)(q:Option Addr)(c:Nat)(w:World)(hrec:∀ t∈ts,qYS t)(h:EAt B E w)(hL:L<=w.1.size)(hK:yD L w ts q)(hn:ts.length<=1000000) :
 Calls prog 97 #[.pointer (some ⟨B,0,none⟩), .slice q ts.length c] w (zP (qQu E ts) (fun a u _=>u=tyV a) w):=by
 have HB:=hI (bal (Below.refl w.1.size w) (tyO noT));have H2:=hI (h.below HB.o);have d5:=hI (hK.keep (HB.o.mono hL));have HT:=hI (qZ7.new noT w);have HR:=hI hrec;have d8:(w.alloc (tyO noT)).1.size=w.1.size+1:=by simp
 clear h hK hrec;unfold tyO noT at *;simp only at *;go_enter func97,ntmps97
 go_wp2
 generalize (w.alloc _)=W at *;go_loopw [10] (fun i wr=>FRel E ts W i wr) (fun i _=>ts.length - (intOf i).toNat)
 case atStart=>exact⟨0,Nat.zero_le _,rfl,rfl,Below.refl _ _⟩
 case round =>
  obtain⟨k,hk,rfl,hf,hb⟩:=hrel;have R:=hI (HB.o.trans (hb.mono (by omega)));have j:=HT.o.below hb;have t0:=j.c0;have Y:=j.c1;have d2:=j.f0;have d3:=j.f1;have f3:=j.lt;by_cases A:k < ts.length
  ·obtain⟨g,d7,rfl,hR⟩:=(d5.o.keep (hb.mono (by omega))).resolve_left (fun e=>by rw[e]at A;simp at A);obtain⟨qa,na,ca,O,X⟩:=hR.2 k A;have⟨k0,k1,k2,k3,k4,k5,_⟩:=X.a;have G:ts[k]∈ts:=List.getElem_mem A;have d9:=hb.size;have z:=Below.alloc (a:=wr) (Below.refl wr.1.size wr) (Nat.le_refl _) (qB ts[k] (.slice qa na ca));have HC:=hI (HR.o _ G B L E (.slice qa na ca) _ ((H2.o.below hb).below z) (by simp;omega) (O.keep (z.mono (by omega))));have Z:=hI ((firstC_at (E:=E) A).symm.trans hf);have V:=hI (hb.trans (z.mono (by omega)));have d4:=hI (j.below z);have C:=hI (R.o.trans (z.mono (by omega)));clear X O hR hf G hb z j;generalize hu:ts[k]=u at *;simp only[qS,qZ,qB]at *;go_wp2_with fail
   refine(HC.o).mono ?_;rintro e w2 hX;rcases hX.cases with⟨T,a,hp,rfl,rfl,y⟩ | ⟨ln,co,code,hp,rfl,y⟩
   ·obtain⟨T0,T1⟩:=T;unfold tyV;have s:=d4.o.below y;have t0:=s.c0;have Y:=s.c1;have d2:=s.f0;have d3:=s.f1;have I:=s.lt;have d6:=hI (V.o.trans (y.mono (by have:=V.o.size;omega)));have U:=hI (C.o.trans (y.mono (by have:=C.o.size;omega)));have J:=hI hp;clear hX HC hp y s k0 k1 k2 k3 k4 k5;by_cases hz:T0=0
    ·subst hz;cases T1
     ·go_wp2
      refine⟨⟨k+1,by omega,rfl,?_,bal d6.o _⟩,by simp[intOf];omega⟩;have h1:=Z.o;rw[J.o]at h1;simpa[CR.bind,noT]using h1
     ·go_wp2
      refine bodyPost_ret (v:=tyV (0,true)) (by simp[results,results97,go_sem,tyV,t0,Y,I]) rfl (zP.okI (by rw[<-Z.o,J.o];rfl) rfl ?_);exact bal ((U.o.setCell (p:=⟨w.1.size,0,none⟩) (by simp) _).setCell (p:=⟨w.1.size,1,none⟩) (by simp) _) _
    ·have HZ:=hI hz;go_wp2
     refine bodyPost_ret (v:=tyV (T0,T1)) (by simp[results,results97,go_sem,tyV,t0,Y,I]) rfl (zP.okI (by rw[<-Z.o,J.o];simp[CR.bind,noT,HZ.o]) rfl ?_);exact bal ((U.o.setCell (p:=⟨w.1.size,0,none⟩) (by simp) _).setCell (p:=⟨w.1.size,1,none⟩) (by simp) _) _
   ·have J:=hI hp;refine⟨rfl,zP.badI (by rw[<-Z.o,J.o];rfl) ⟨rfl,C.o.trans (y.mono (by have:=C.o.size;omega))⟩⟩
  ·have HE:=hI (show qQu E ts=.ok noT by rw[<-hf,List.drop_eq_nil_of_le (by omega)];rfl);clear hf hb j;go_wp2
   refine bodyPost_ret (v:=tyV noT) (by simp[results,results97,go_sem,tyV,noT,t0,Y]) rfl (zP.okI HE.o rfl ?_);exact(R.o.setCell (p:=⟨w.1.size,0,none⟩) (by simp) _).setCell (p:=⟨w.1.size,1,none⟩) (by simp) _
theorem qKD(B L:Nat)(E:Env)(ts:List qQ)(q:Option Addr)(c:Nat)(w:World)(hrec:∀ t∈ts,qYS t)(h:EAt B E w)(hL:L<=w.1.size)(U:yD L w ts q)(hn:ts.length<=1000000) :
 Calls prog 82 #[.pointer (some ⟨B,0,none⟩), .slice q ts.length c] w (zP (yB E ts) (fun a u _=>u=tyV a) w):=by
 have A:=hI (bal (Below.refl w.1.size w) (tyO noT));have I:=hI (h.below A.o);have O:=hI (qWN B L E ts q c _ hrec I.o (by simp;omega) (U.keep (A.o.mono hL)) hn);have HT:=hI (qZ7.new noT w);have Z:(w.alloc (tyO noT)).1.size=w.1.size+1:=by simp
 clear h U hrec;unfold tyO noT at *;simp only at *;go_enter func82,ntmps82
 go_wp2_with fail
 generalize (w.alloc _)=W at *;refine(O.o).mono ?_;rintro e w2 V;rcases V.cases with⟨T,a,hp,rfl,rfl,s⟩ | ⟨ln,co,code,hp,rfl,s⟩
 ·obtain⟨X,R⟩:=T;unfold tyV;have j:=HT.o.below s;have t0:=j.c0;have G:=j.c1;have Y:=j.f0;have d2:=j.f1;have y:=j.lt;have z:=hI (A.o.trans (s.mono (by omega)));obtain⟨gv,vv,Mg,Mo,Mr,F,o,cl,h2⟩:=I.o.below s;have d0:=h2.d0;have d1:=h2.d1;have hG:2 < w2.1.size:=qJ d0;have C:=hI hp;clear V O hp s j h2 I;by_cases J:X=0
  ·subst J;cases R
   ·go_wp2
    refine bodyPost_ret (v:=tyV (64,false)) (by simp[results,results82,go_sem,tyV,t0,G,y]) rfl (zP.okI (by unfold yB;rw[C.o];rfl) rfl ?_);exact bal ((z.o.setCell (p:=⟨w.1.size,0,none⟩) (by simp) _).setCell (p:=⟨w.1.size,1,none⟩) (by simp) _) _
   ·go_wp2
    refine bodyPost_ret (v:=tyV (0,true)) (by simp[results,results82,go_sem,tyV,t0,G,y]) rfl (zP.okI (by unfold yB;rw[C.o];rfl) rfl ?_);exact bal ((z.o.setCell (p:=⟨w.1.size,0,none⟩) (by simp) _).setCell (p:=⟨w.1.size,1,none⟩) (by simp) _) _
  ·have HZ:=hI J;go_wp2
   refine bodyPost_ret (v:=tyV (X,R)) (by simp[results,results82,go_sem,tyV,t0,G,y]) rfl (zP.okI (by unfold yB;rw[C.o];simp[CR.bind,noT,HZ.o]) rfl ?_);exact bal ((z.o.setCell (p:=⟨w.1.size,0,none⟩) (by simp) _).setCell (p:=⟨w.1.size,1,none⟩) (by simp) _) _
 ·exact⟨rfl,zP.badI (by unfold yB;rw[hp];rfl) ⟨rfl,A.o.trans (s.mono (by omega))⟩⟩
theorem qUg{x:List UInt8}:∀ {L:List (List (List UInt8))} {i:Int},0<=xE x i L->∃ g∈L,x∈g
 | [],_,h=>by simp[xE]at h
 | g :: gs,i,h=>by
  rw[xE]at h;split at h
  ·rename_i hc;exact⟨g,by simp,by simpa using hc⟩
  ·obtain⟨g',hg,j⟩:=qUg h;exact⟨g',by simp[hg],j⟩
theorem qU0{x:List UInt8}(h:0<=xL x):(qXx x).isSome=true:=by
 obtain⟨g,hg,j⟩:=qUg h;simp only[jG,List.mem_cons,List.not_mem_nil,or_false]at hg;rcases hg with rfl | rfl | rfl | rfl | rfl | rfl | rfl | rfl | rfl | rfl <;> simp only[List.mem_cons,List.not_mem_nil,or_false]at j
 all_goals first
  | (subst j;decide)
  | (rcases j with rfl | rfl <;> decide)
  | (rcases j with rfl | rfl | rfl <;> decide)
  | (rcases j with rfl | rfl | rfl | rfl <;> decide)
theorem qU1{x:List UInt8}(h:qXD x=true):(qXx (117 :: x)).isSome=true:=by
 simp only[qXD,Bool.or_eq_true,beq_iff_eq]at h;rcases h with(rfl | rfl) | rfl <;> decide
theorem qQx{k x:List UInt8}{m ln co:Int}{ks:List qQ}(h:qZl (.mk k x m ln co ks)):k.length<=1000000/\x.length<=1000000/\0<=m/\m < 18446744073709551616/\ks.length<=1000000/\qZn ks:=by
 rw[qZl]at h;exact h
theorem qXE{k x:List UInt8}{m ln co:Int}{ks:List qQ}(h:qZl (.mk k x m ln co ks))(j:qZV ks=true)(o:((k == zD || k == zL || k == qH || k == zM) && ks.isEmpty || (k == qL || k == zK) && ks.length == 1 || (k == qT || k == qM) && (qXx (qXs k x)).isSome && decide (ks.length<=2))=true):wfE (.mk k x m ln co ks)=true:=by
 obtain⟨_,h2,h3,h4,_,_⟩:=qQx h;rw[wfE,j,o,bW,bW];exact decide_eq_true ⟨h2,h3,h4⟩
theorem qZW:qZV []=true:=by rw[qZV]
theorem qXi{t:qQ}{r:List qQ}(h:wfE t=true)(k:qZV r=true):qZV (t :: r)=true:=by rw[qZV,h,k];rfl
theorem qMC{l:List qQ}(h:∀ t∈l,wfE t=true):qZV l=true:=by
 induction l with
 | nil=>exact qZW
 | cons t r ih=>exact qXi (h t (by simp)) (ih fun u hu=>h u (by simp[hu]))
theorem qP6{f:qQ->Ws}:∀ {l:List qQ} {ws:List (List UInt8)},qKp f l=some ws->∀ t∈l,∃ w,f t=some w
 | [],_,_,t,ht=>by simp at ht
 | u :: r,ws,h,t,ht=>by
  rw[qKp]at h;obtain⟨x,y,_,h2,_⟩:=qK h;obtain⟨j,o,h3,h4,_⟩:=qK h2;rcases List.mem_cons.1 ht with rfl | ht
  ·exact⟨_,h3⟩
  ·exact qP6 h4 t ht
theorem qKC{f:qQ->Ws}:∀ {l:List qQ} {ws:List (List UInt8)},wO f l=some ws->∀ t∈l,∃ w,f t=some w
 | [],_,_,t,ht=>by simp at ht
 | u :: r,ws,h,t,ht=>by
  rw[wO]at h;obtain⟨x,y,j,h2,_⟩:=qK h;rcases List.mem_cons.1 ht with rfl | ht
  ·exact⟨_,j⟩
  ·exact qP6 h2 t ht
theorem qJM{f:qQ->Ws}:∀ {l:List qQ} {ws:List (List UInt8)},qZP f l=some ws->∀ t∈l,∃ w,f t=some w/\w.length<=ws.length
 | [],_,_,t,ht=>by simp at ht
 | u :: r,ws,h,t,ht=>by
  rw[qZP]at h;obtain⟨x,y,j,h2,rfl⟩:=qK h;rcases List.mem_cons.1 ht with rfl | ht
  ·exact⟨_,j,by simp⟩
  ·obtain⟨w,h3,h4⟩:=qJM h2 t ht;exact⟨w,h3,by simp;omega⟩
def qMD(rec:WT->qQ->Ws):Prop:=∀ t ws,rec .expr t=some ws->qZl t->wfE t=true
section
variable {rec:WT->qQ->Ws} (hrec:qMD rec)
include hrec
theorem qKf{t:qQ}{ws:List (List UInt8)}(h:wU rec t=some ws)(j:qZl t):wfE t=true:=by
 obtain⟨k,x,m,ln,co,ks⟩:=t;have hN:=qQx j;rw[qKN]at h;split at h
 ·rename_i s;rw[beq_iff_eq]at s;subst s;rcases ks with _ | ⟨e,_ | ⟨b,r⟩⟩
  ·simp at h
  ·obtain⟨_,A⟩:=zN h;obtain⟨_,y,_,h2,_⟩:=qK A;obtain⟨z,_,h3,_,_⟩:=qK h2;exact qXE j (qXi (hrec _ _ h3 (hN.2.2.2.2.2.mem e (by simp))) qZW) (by rfl)
  ·simp at h
 ·obtain⟨o,_⟩:=zN h;simp only[bE,beq_iff_eq]at o;obtain⟨⟨rfl,_⟩,h2⟩:=o;obtain rfl:ks=[]:=List.eq_nil_of_length_eq_zero h2;exact qXE j qZW (by rfl)
theorem qJm{t:qQ}{ws:List (List UInt8)}(h:wZ rec t=some ws)(j:qZl t):wfE t=true:=by
 unfold wZ at h;split at h
 ·obtain⟨_,y,_,h2,_⟩:=qK h;obtain⟨z,_,h3,_,_⟩:=qK h2;exact hrec _ _ h3 j
 ·exact hrec _ _ h j
theorem wf_expr{t:qQ}{ws:List (List UInt8)}(h:qY7 rec t=some ws)(z:qZl t):wfE t=true:=by
 have hT:=fun h=>qKf hrec (t:=t) (ws:=ws) h z
 obtain⟨k,x,m,ln,co,ks⟩:=t;have hN:=qQx z;rw[qX0]at h;split at h
 ·rename_i j;rw[beq_iff_eq]at j;subst j;rcases ks with _ | ⟨a,_ | ⟨b,_ | ⟨c,r⟩⟩⟩
  ·simp at h
  ·simp at h
  ·obtain⟨o,s⟩:=zN h;simp only[bE,decide_eq_true_eq]at o;obtain⟨C,y,s,h2,_⟩:=qK s;obtain⟨_,A,_,h3,_⟩:=qK h2;refine qXE z (qXi (qJm hrec s (hN.2.2.2.2.2.mem a (by simp))) (qXi (qJm hrec h3 (hN.2.2.2.2.2.mem b (by simp))) qZW)) ?_;have:=qU0 o.1;rw[show qXs qM x=x from rfl,this];rfl
  ·simp at h
 split at h
 ·rename_i j;rw[beq_iff_eq]at j;subst j;rcases ks with _ | ⟨a,_ | ⟨b,r⟩⟩
  ·simp at h
  ·obtain⟨o,s⟩:=zN h;simp only[bE]at o;obtain⟨_,y,_,h2,_⟩:=qK s;refine qXE z (qXi (qJm hrec h2 (hN.2.2.2.2.2.mem a (by simp))) qZW) ?_;have:=qU1 o.1;rw[show qXs qT x=117 :: x from rfl,this];rfl
  ·simp at h
 split at h
 ·rename_i j;rw[beq_iff_eq]at j;subst j;rcases ks with _ | ⟨a,_ | ⟨b,r⟩⟩
  ·simp at h
  ·obtain⟨o,s⟩:=zN h;obtain⟨_,y,_,h2,_⟩:=qK s;exact qXE z (qXi (qJm hrec h2 (hN.2.2.2.2.2.mem a (by simp))) qZW) (by rfl)
  ·simp at h
 split at h
 ·rename_i j;obtain⟨o,_⟩:=zN h;simp only[bE,beq_iff_eq,Bool.or_eq_true]at o j;obtain rfl:ks=[]:=List.eq_nil_of_length_eq_zero o.2;refine qXE z qZW ?_;rcases j with rfl | rfl <;> rfl
 split at h
 ·rename_i j;rw[qWZ]at h;obtain⟨o,_⟩:=zN h;simp only[bE,beq_iff_eq,qQ.kind,qQ.kids]at o j;subst j;obtain rfl:ks=[]:=List.eq_nil_of_length_eq_zero o.2.2;exact qXE z qZW (by rfl)
 ·exact hT h
end
theorem qUs:∀ n,qMD (qZB n)
 | 0,t,ws,h,_=>by simp[qZB]at h
 | n+1,t,ws,h,hn=>wf_expr (qUs n) (by simpa[qZB,stepW]using h) hn
theorem qPQ{f:qQ->Ws}:∀ {l:List qQ} {ws:List (List UInt8)} (_:∀ t∈l,∀ w,f t=some w->1<=w.length),qZP f l=some ws->l.length<=ws.length
 | [],_,_,_=>by simp
 | u :: r,ws,hf,h=>by
  rw[qZP]at h;obtain⟨x,y,j,h2,rfl⟩:=qK h;have:=qPQ (fun t ht=>hf t (by simp[ht])) h2;have:=hf u (by simp) _ j;simp;omega
theorem qX4{a:Ws}{ws:List (List UInt8)}(h:qQn a=some ws):1<=ws.length:=by
 obtain⟨x,y,_,h2,rfl⟩:=qK h;injection h2 with h2;subst h2;simp
theorem qJd{rec:WT->qQ->Ws}{t:qQ}{ws:List (List UInt8)}(h:qQi rec t=some ws):1<=ws.length:=by
 obtain⟨k,x,m,ln,co,ks⟩:=t;rw[qJH]at h;rcases ks with _ | ⟨e,_ | ⟨b,r⟩⟩
 ·simp at h
 ·simp at h
 ·simp only at h;obtain⟨x,y,j,_,rfl⟩:=qK h;injection j with j;subst j;simp
theorem stmtW_pos{rec:WT->qQ->Ws}{t:qQ}{ws:List (List UInt8)}(h:qJr rec t=some ws):1<=ws.length:=by
 obtain⟨k,x,m,ln,co,ks⟩:=t;rw[wX]at h;split at h
 ·rw[qJb]at h;obtain⟨_,j⟩:=zN h;rcases ks with _ | ⟨e,_ | ⟨b,_ | ⟨c,_ | ⟨d,r⟩⟩⟩⟩
  ·simp at j
  ·simp at j
  ·exact qJd j
  ·simp only at j;obtain⟨y,z,h2,h3,rfl⟩:=qK j;have:=qJd h2;simp;omega
  ·simp at j
 split at h
 ·exact qJd (zN h).2
 split at h
 ·exact qX4 (zN h).2
 split at h
 ·exact qX4 h
 split at h
 ·exact qX4 (zN h).2
 split at h
 ·rcases ks with _ | ⟨e,_ | ⟨b,r⟩⟩
  ·simp at h
  ·exact qX4 (zN h).2
  ·simp at h
 ·exact qX4 h
theorem yQ{N:Nat}{w0 w:World}(h:Below w0.1.size w0 w)(hN:w0.1.size<=N)(a b:Value):Below w0.1.size w0 ((w.setCell ⟨N,0,none⟩ a).setCell ⟨N,1,none⟩ b) :=
 (h.setCell (p:=⟨N,0,none⟩) hN _).setCell (p:=⟨N,1,none⟩) hN _
theorem qQs{k x:List UInt8}{m ln co:Int}{ks:List qQ}(h:wfE (.mk k x m ln co ks)=true):x.length<=1000000/\(0<=m/\m < 18446744073709551616)/\qZV ks=true /\
 ((k == zD || k == zL || k == qH || k == zM)=true/\ks=[]\/(k == qL || k == zK)=true/\ks.length=1\/(k == qT || k == qM)=true/\(∃ r,qXx (qXs k x)=some r)/\ks.length<=2):=by
 simp only[wfE,bE,Bool.or_eq_true,decide_eq_true_eq,beq_iff_eq,List.isEmpty_iff,Option.isSome_iff_exists]at h;simp only[Bool.or_eq_true,beq_iff_eq];obtain⟨⟨⟨j,h2,h3⟩,h4⟩,o⟩:=h;refine⟨j,⟨h2,h3⟩,o,?_⟩;rcases h4 with(h4 | h4) | h4
 ·exact .inl h4
 ·exact .inr (.inl h4)
 ·exact .inr (.inr ⟨h4.1.1,h4.1.2,h4.2⟩)
theorem sugC_mk(E:Env)(k x:List UInt8)(m ln co:Int)(ks:List qQ):qJu E (.mk k x m ln co ks)=if k == zD then .ok noT else if k == zL || k == qH then .ok zO else if k == zM || k == qL then(qZD E (.mk k x m ln co ks)).bind fun r=>.ok r.1.t else if k == zK then .ok (tyL x)else if qYw (qXs k x)then .ok zO else qQu E ks:=by
 conv=>lhs;unfold qJu
theorem qL1(a b:Value)(w:World):(Instr.field 140 (.agg #[a,b]) 0).run prog w=.ok a w:=by kernel_rfl
theorem qWR(a b:Value)(w:World):(Instr.field 140 (.agg #[a,b]) 1).run prog w=.ok b w:=by kernel_rfl
theorem op_len(k x:List UInt8):(qXs k x).length<=x.length+1:=by
 unfold qXs;split <;> simp
theorem sug_step(t:qQ)(hw:wfE t=true)(hrec:∀ u∈t.kids,qYS u):qYS t:=by
 intro B L E v w h hL hl;obtain⟨q,c,rfl,g8,f5,R⟩:=hl.kids;have I:=hI (bal (bal (Below.refl w.1.size w) (qB t (.slice q t.kids.length c))) (tyO noT));have H2:=hI (h.below I.o);have HN:=hI ((Bx.new t (.slice q t.kids.length c) w).below (bal (Below.refl _ _) (tyO noT)));have HT:=hI (qZ7.new noT (w.alloc (qB t (.slice q t.kids.length c))));have HK:=hI (R.keep (I.o.mono hL));have HR:=hI hrec;have H0:=hI h;have g4:((w.alloc (qB t (.slice q t.kids.length c))).alloc (tyO noT)).1.size=w.1.size+2:=by simp
 simp only[World.size_alloc]at HT;clear h hl R hrec;obtain⟨k,x,m,ln,co,ks⟩:=t;obtain⟨hx,⟨m0,g3⟩,d9,d8⟩:=qQs hw;have g1:=hI d8;have m1:=hI d9;clear hw d8 d9;simp only[qZ,qB,tyO,qS,noT,qQ.kind,qQ.text,qQ.num,qQ.line,qQ.col,qQ.kids]at *;have z:=hI (sugC_mk E k x m ln co ks);cases O:(k == zD);case true =>
  have z:=hI (show qJu E (.mk k x m ln co ks)=.ok (0,false) by rw[z.o,O];rfl);unfold zD at O;go_enter func119,ntmps119
  go_wp2
  refine bodyPost_ret (v:=tyV (0,false)) (by simp[results,results119,go_sem,tyV]) rfl (zP.okI z.o rfl ?_);first | exact I.o | exact yQ I.o (Nat.le_add_right _ _) _ _ | (refine bal ((bal (Below.refl _ _) _)) _)
 case false =>
 cases h2:(k == zL || k == qH);case true =>
  have z:=hI (show qJu E (.mk k x m ln co ks)=.ok (1,false) by rw[z.o,O,h2];rfl);have g2:=hI h2;unfold zD at O;unfold zL qH at h2;cases h3:(k == [116,114,117,101]);all_goals
   simp only[h3,bO,bU]at h2;obtain⟨gv,vv,Mg,Mo,Mr,F,o,cl,Y⟩:=H0.o;have d0:=Y.b0;have d1:=Y.b1;have hG:1 < w.1.size:=qJ d0;have g9:0 < w.1.size:=by omega
   have g5:1 < w.1.size+1:=by omega
   clear Y;go_enter func119,ntmps119
   go_wp2
   refine bodyPost_ret (v:=tyV (1,false)) (by simp[results,results119,go_sem,tyV]) rfl (zP.okI z.o rfl ?_);first | exact I.o | exact yQ I.o (Nat.le_add_right _ _) _ _ | (refine bal ((bal (Below.refl _ _) _)) _)
 case false =>
 cases h3:(k == zM || k == qL);case true =>
  have z:=hI (show qJu E (.mk k x m ln co ks)=(qZD E (.mk k x m ln co ks)).bind fun r=>.ok r.1.t by rw[z.o,O,h2,h3];rfl);have V:=hI (qPz B E (.mk k x m ln co ks) (.slice q ks.length c) _ H2.o hx);simp only[Bool.or_eq_false_iff]at h2;obtain⟨U,X⟩:=h2;simp only[qZ,qQ.kind,qQ.text,qQ.num,qQ.line,qQ.col,qQ.kids]at V;unfold zD at O;unfold zL at U;unfold qH at X;unfold zM qL at h3;cases h4:(k == [110,97,109,101]);all_goals
   simp only[h4,bO,bU]at h3;go_enter func119,ntmps119
   go_wp2_with fail
   refine(V.o).mono ?_;rintro e w2 hX;rcases hX.cases with⟨a,u,hp,rfl,rfl,s⟩ | ⟨l',c',code,hp,rfl,s⟩
   ·obtain⟨⟨nm,⟨T0,T1⟩,sz⟩,i,g⟩:=a;unfold qWS qXK;have z:=hI (show qJu E (.mk k x m ln co ks)=.ok (T0,T1) by rw[z.o,hp];rfl);have j:=HT.o.below s;have t0:=j.c0;have t1:=j.c1;have d5:=j.f0;have d3:=j.f1;have G:=j.lt;have A:=hI (I.o.trans (s.mono I.o.size));clear hX V hp s j;go_wp2
    refine bodyPost_ret (v:=tyV (T0,T1)) (by simp[results,results119,go_sem,tyV,t0,t1,G]) rfl (zP.okI z.o rfl ?_);exact bal (yQ A.o (Nat.le_add_right _ _) _ _) _
   ·exact⟨rfl,zP.badI (by rw[z.o,hp];rfl) ⟨rfl,I.o.trans (s.mono I.o.size)⟩⟩
 case false =>
 cases h5:(k == zK);case true =>
  have z:=hI (show qJu E (.mk k x m ln co ks)=.ok (tyL x) by rw[z.o,O,h2,h3,h5];rfl);obtain⟨gv,vv,Mg,Mo,Mr,F,o,cl,Y⟩:=H2.o;have V:=hI (qKd (.mk k x m ln co ks) (.slice q ks.length c) _ Y.wt);simp only[Bool.or_eq_false_iff]at h2 h3;obtain⟨U,X⟩:=h2;obtain⟨d2,d6⟩:=h3;simp only[qZ,qQ.kind,qQ.text,qQ.num,qQ.line,qQ.col,qQ.kids]at V;unfold zD at O;unfold zL at U;unfold qH at X;unfold zM at d2;unfold qL at d6;unfold zK at h5;clear Y;go_enter func119,ntmps119
  go_wp2_with fail
  refine(V.o).mono ?_;rintro e w2 ⟨rfl,s⟩;have j:=HT.o.below s;have t0:=j.c0;have t1:=j.c1;have d5:=j.f0;have d3:=j.f1;have G:=j.lt;have A:=hI (I.o.trans (s.mono I.o.size));clear V s j;generalize tyL x=T at *;obtain⟨T0,T1⟩:=T;unfold tyV at *;go_wp2
  refine bodyPost_ret (v:=tyV (T0,T1)) (by simp[results,results119,go_sem,tyV,t0,t1,G]) rfl (zP.okI z.o rfl ?_);exact yQ A.o (Nat.le_add_right _ _) _ _
 case false =>
 obtain⟨f9,⟨r,hr⟩,g6⟩:=(g1.o.resolve_left (fun h=>by simp only[Bool.or_eq_true,Bool.or_eq_false_iff]at h h2 h3;rw[O,h2.1,h2.2,h3.1]at h;simp at h)).resolve_left (fun h=>by simp only[Bool.or_eq_true,Bool.or_eq_false_iff]at h h3;rw[h3.2,h5]at h;simp at h);have z:=hI (show qJu E (.mk k x m ln co ks)=if qYw (qXs k x)then .ok zO else qQu E ks by rw[z.o,O,h2,h3,h5];rfl);have f4:qYw (qXs k x)=decide (r<=2):=by unfold qYw;rw[hr]
 have f3:=hI f4;have V:=hI (qVe (.mk k x m ln co ks) (.slice q ks.length c) ((w.alloc (qB (.mk k x m ln co ks) (.slice q ks.length c))).alloc (tyO noT)).drew hx);simp only[Bool.or_eq_false_iff]at h2 h3;obtain⟨U,X⟩:=h2;obtain⟨d2,d6⟩:=h3;have d7:=hI (fun w' (hb:Below ((w.alloc (qB (.mk k x m ln co ks) (.slice q ks.length c))).alloc (tyO noT)).1.size ((w.alloc (qB (.mk k x m ln co ks) (.slice q ks.length c))).alloc (tyO noT)) w')=>qWN B L E ks q c w' HR.o (H2.o.below hb) (by have:=hb.size;simp at this;omega) (HK.o.keep (hb.mono (by simp;omega))) (by unfold maxLen at f5;omega));simp only[qZ,qB,tyO,qS,noT,qQ.kind,qQ.text,qQ.num,qQ.line,qQ.col,qQ.kids]at V d7;unfold zD at O;unfold zL at U;unfold qH at X;unfold zM at d2;unfold qL at d6;unfold zK at h5;have g0:=hI hr;clear f4 hr f9;go_enter func119,ntmps119
 go_wp2
 generalize ((w.alloc (.cells #[.string ⟨k.toArray⟩, .string ⟨x.toArray⟩, .int .u64 m, .int .i64 ln, .int .i64 co, .slice q ks.length c] 57)).alloc (.cells #[.int .i64 0, .bool false] 37))=W at *;obtain⟨n0,n1,n2,n3,n4,n5⟩:=HN.o.cells;obtain⟨gv,vv,Mg,Mo,Mr,F,o,cl,Y⟩:=H2.o;have c6:=Y.c6;refine wRg (S:=fun w'=>Below W.1.size W w') 6 ?_;refine wTk 0 33 (.pointer (some ⟨B,0,none⟩)) ?_ (bD W) ?_
 ·intro _ y;go_simp
 refine wTk 1 34 (.pointer (some ⟨B,0,none⟩)) ?_ (bD W) ?_
 ·intro _ y;go_simp
 refine wTk 2 35 (.pointer (some ⟨B,6,none⟩)) ?_ (bD W) ?_
 ·intro _ y;go_simp
 refine wTk 3 36 (.map (some Mr)) ?_ (bD W) ?_
 ·intro _ y;obtain⟨c6,n0,n1,n2,n3,n4⟩:=kP6 y c6 n0 n1 n2 n3 n4;have n5:=kP y n5;go_simp
 refine wTk 4 37 (.agg #[.string ⟨k.toArray⟩, .string ⟨x.toArray⟩, .int .u64 m, .int .i64 ln, .int .i64 co, .slice q ks.length c]) ?_ (bD W) ?_
 ·intro _ y;obtain⟨c6,n0,n1,n2,n3,n4⟩:=kP6 y c6 n0 n1 n2 n3 n4;have n5:=kP y n5;go_simp
 refine wOn 5 fun K R=>?_
 go_simp;refine(V.o).mono ?_;rintro e w2 ⟨rfl,s⟩;refine kK R (zF s) ?_;clear R K;have C:=zF s;have f8:=(Y.rm.below C).look g0.o (by have:=op_len k x;unfold maxLen;omega);have f6:=qL1;refine wOn 6 fun K R=>?_
 go_simp;refine kD R ?_;clear R K;refine wOn 7 fun K R=>?_
 unfold qKr at *;go_simp;refine kD R ?_;clear R K;refine wDn ?_ _;have j:=HT.o.below C;have t0:=j.c0;have t1:=j.c1;have d5:=j.f0;have d3:=j.f1;have G:=j.lt;have A:=hI (I.o.trans (C.mono I.o.size));have d4:=Y.below C;have d0:=d4.b0;have d1:=d4.b1;have hG:1 < w2.1.size:=qJ d0;have g7:=kP C n5;have HF:=hI (d7.o w2 C);clear Y d4 f8 f6 s V n0 n1 n2 n3 n4 n5 c6;by_cases Z:r<=2
 ·have hd:decide (r<=2)=true:=decide_eq_true Z;have z:=hI (show qJu E (.mk k x m ln co ks)=.ok (1,false) by rw[z.o,f3.o,hd];rfl);rw[hd];clear Z hd;go_wp2
  refine bodyPost_ret (v:=tyV (1,false)) (by simp[results,results119,go_sem,tyV,t0,t1,G]) rfl (zP.okI z.o rfl ?_);exact yQ A.o (Nat.le_add_right _ _) _ _
 ·have hd:decide (r<=2)=false:=decide_eq_false Z;have z:=hI (show qJu E (.mk k x m ln co ks)=qQu E ks by rw[z.o,f3.o,hd];rfl);rw[hd];clear Z hd;go_wp2_with fail
  refine(HF.o).mono ?_;rintro e w3 hX;rcases hX.cases with⟨T,u,hp,rfl,rfl,hb3⟩ | ⟨l',c',code,hp,rfl,hb3⟩
  ·obtain⟨T0,T1⟩:=T;unfold tyV;have z:=hI (show qJu E (.mk k x m ln co ks)=.ok (T0,T1) by rw[z.o,hp]);have J:=(HT.o.below C).below hb3;have t0:=J.c0;have t1:=J.c1;have d5:=J.f0;have d3:=J.f1;have G:=J.lt;have f7:=hI (A.o.trans (hb3.mono A.o.size));clear hX HF hp hb3 J C;go_wp2
   refine bodyPost_ret (v:=tyV (T0,T1)) (by simp[results,results119,go_sem,tyV,t0,t1,G]) rfl (zP.okI z.o rfl ?_);exact yQ f7.o (Nat.le_add_right _ _) _ _
  ·exact⟨rfl,zP.badI (by rw[z.o,hp]) ⟨rfl,A.o.trans (hb3.mono A.o.size)⟩⟩
mutual
theorem sug_all:∀ (t:qQ),wfE t=true->qYS t
 | .mk k x m ln co ks,h=>sug_step (.mk k x m ln co ks) h (qJV ks (qQs h).2.2.1)
theorem qJV:∀ (ts:List qQ),qZV ts=true->∀ u∈ts,qYS u
 | [],_,u,hu=>by simp at hu
 | t :: r,h,u,hu=>by
  rw[qZV,bE]at h;rcases List.mem_cons.1 hu with e | hu
  ·rw[e];exact sug_all t h.1
  ·exact qJV r h.2 u hu
end
def qQt(a:Ty×Bool):Value:=.tuple #[tyV a.1, .bool a.2]
structure qYP(T:Ty)(w W:World):Prop where
 bl:Below w.1.size w W
 t:qZ7 w.1.size T W
 r:qZ7 (w.1.size+1) noT W
 sz:W.1.size=w.1.size+2
theorem qYP.new(T:Ty)(w:World):qYP T w ((w.alloc (tyO T)).alloc (tyO noT)) :=
 ⟨bal (bal (Below.refl _ _) _) _,(qZ7.new T w).below (bal (Below.refl _ _) _),by have:=qZ7.new noT (w.alloc (tyO T));simpa using this,by simp⟩
theorem ask0(B:Nat)(E:Env)(u:Value)(T:Ty)(w:World)(h:EAt B E w) :
 Calls prog 78 #[u,tyV T] w (zP (.ok (zO,decide (T=zO))) (fun a v _=>v=qQt a) w):=by
 have A:=qYP.new T w;have G:=hI (h.below A.bl);clear h;obtain⟨O,J⟩:=T;have R:0 < w.1.size:=by
  obtain⟨gv,vv,Mg,Mo,Mr,F,o,cl,j⟩:=G.o;have:=A.sz;have:=qJ j.d0;simp only at this;omega
 have V:¬w.1.size=0:=by omega
 have d2:¬0=w.1.size:=by omega
 unfold tyV tyO noT at *;simp only at *;go_enter func78,ntmps78
 go_wp2
 generalize ((w.alloc _).alloc _)=W at *;obtain⟨gv,vv,Mg,Mo,Mr,F,o,cl,j⟩:=G.o;have d0:=j.b0;have d1:=j.b1;have hG:1 < W.1.size:=qJ d0;have t0:=A.t.c0;have t1:=A.t.c1;have I:=A.r.c0;have C:=A.r.c1;have Y:=A.r.f0;have X:=A.r.f1;have s:=hI A.bl;clear j A G;by_cases z:O=1
 ·subst z;cases J
  ·go_region
   go_wp2
   refine bodyPost_ret (v:=qQt (zO,true)) (by simp[results,results78,go_sem,qQt,tyV,zO,I,C]) rfl (zP.okI rfl rfl ?_);first | exact(yQ s.o (Nat.le_add_right _ _) _ _).drew | exact(s.o.setCell (p:=⟨w.1.size+1,0,none⟩) (Nat.le_add_right _ _) _).drew
  ·go_region
   go_wp2
   refine bodyPost_ret (v:=qQt (zO,false)) (by simp[results,results78,go_sem,qQt,tyV,zO,I,C]) rfl (zP.okI rfl rfl ?_);first | exact(yQ s.o (Nat.le_add_right _ _) _ _).drew | exact(s.o.setCell (p:=⟨w.1.size+1,0,none⟩) (Nat.le_add_right _ _) _).drew
 ·have hd:decide (((O,J):Ty)=zO)=false:=by simp[zO,z]
  have y:decide (((O,J):Ty)≠zO)=true:=by simp[zO,z]
  have U:=hI hd;have Z:=hI y;clear hd y;go_region
  go_wp2
  refine bodyPost_ret (v:=qQt (zO,false)) (by simp[results,results78,go_sem,qQt,tyV,zO,I,C,z]) rfl (zP.okI (by rw[U.o] <;> rfl) rfl ?_);exact(yQ s.o (Nat.le_add_right _ _) _ _).drew
theorem ask3(B:Nat)(E:Env)(u:Value)(T:Ty)(w:World)(h:EAt B E w) :
 Calls prog 79 #[u,tyV T] w (zP (.ok (T,decide (T≠zO))) (fun a v _=>v=qQt a) w):=by
 have A:=qYP.new T w;have J:=hI (h.below A.bl);clear h;obtain⟨G,C⟩:=T;have R:0 < w.1.size:=by
  obtain⟨gv,vv,Mg,Mo,Mr,F,o,cl,j⟩:=J.o;have:=A.sz;have:=qJ j.d0;simp only at this;omega
 have V:¬w.1.size=0:=by omega
 have d2:¬0=w.1.size:=by omega
 unfold tyV tyO noT at *;simp only at *;go_enter func79,ntmps79
 go_wp2
 generalize ((w.alloc _).alloc _)=W at *;obtain⟨gv,vv,Mg,Mo,Mr,F,o,cl,j⟩:=J.o;have d0:=j.b0;have d1:=j.b1;have hG:1 < W.1.size:=qJ d0;have t0:=A.t.c0;have t1:=A.t.c1;have O:=A.r.c0;have I:=A.r.c1;have Y:=A.r.f0;have X:=A.r.f1;have s:=hI A.bl;clear j A J;by_cases z:G=1
 ·subst z;cases C
  ·go_region
   go_wp2
   refine bodyPost_ret (v:=qQt (zO,false)) (by simp[results,results79,go_sem,qQt,tyV,zO,O,I]) rfl (zP.okI rfl rfl ?_);first | exact(yQ s.o (Nat.le_add_right _ _) _ _).drew | exact(s.o.setCell (p:=⟨w.1.size+1,0,none⟩) (Nat.le_add_right _ _) _).drew
  ·go_region
   go_wp2
   refine bodyPost_ret (v:=qQt ((1,true),true)) (by simp[results,results79,go_sem,qQt,tyV,zO,O,I]) rfl (zP.okI rfl rfl ?_);first | exact(yQ s.o (Nat.le_add_right _ _) _ _).drew | exact(s.o.setCell (p:=⟨w.1.size+1,0,none⟩) (Nat.le_add_right _ _) _).drew
 ·have hd:decide (((G,C):Ty)=zO)=false:=by simp[zO,z]
  have y:decide (((G,C):Ty)≠zO)=true:=by simp[zO,z]
  have U:=hI hd;have Z:=hI y;clear hd y;go_region
  go_wp2
  refine bodyPost_ret (v:=qQt ((G,C),true)) (by simp[results,results79,go_sem,qQt,tyV,zO,O,I,z]) rfl (zP.okI (by rw[U.o] <;> rfl) rfl ?_);exact(yQ s.o (Nat.le_add_right _ _) _ _).drew
theorem ask4(B:Nat)(E:Env)(u:Value)(T:Ty)(w:World)(h:EAt B E w) :
 Calls prog 80 #[u,tyV T] w (zP (.ok (T,true)) (fun a v _=>v=qQt a) w):=by
 obtain⟨o,j⟩:=T;unfold tyV;simp only;go_enter func80,ntmps80
 go_wp2
 refine bodyPost_ret (v:=qQt ((o,j),true)) (by simp[results,results80,go_sem,qQt,tyV]) rfl (zP.okI rfl rfl ?_);first | exact bal (bal (Below.refl _ _) _) _ | exact yQ (bal (bal (Below.refl _ _) _) _) (Nat.le_add_right _ _) _ _
def qYV(E:Env)(ks:List qQ)(T:Ty):CR (Ty×Bool):=if T≠zO then .ok (T,false)else(yB E ks).bind fun u=>.ok (u,true)
theorem ask1(B L cc:Nat)(E:Env)(ks:List qQ)(q:Option Addr)(c:Nat)(T:Ty)(w:World)(V:qZV ks=true)(h:EAt B E w)(J:w.cell? ⟨cc,0,none⟩=some (.pointer (some ⟨B,0,none⟩)))(hL:L<=w.1.size)(Y:yD L w ks q)(hn:ks.length<=1000000) :
 Calls prog 81 #[.slice q ks.length c,tyV T, .pointer (some ⟨cc,0,none⟩)] w (zP (qYV E ks T) (fun a v _=>v=qQt a) w):=by
 have A:=qYP.new T w;have X:=hI (qKD B L E ks q c _ (qJV ks V) (h.below A.bl) (by simp;omega) (Y.keep (A.bl.mono hL)) hn);obtain⟨gv,vv,Mg,Mo,Mr,F,o,cl,z⟩:=h;have d0:=z.b0;have d1:=z.b1;have O:=qJ J;simp only at O;have hG:2 < w.1.size:=qJ z.d0;have d4:0 < w.1.size:=by omega
 have d6:1 < w.1.size:=by omega
 have d5:1 < w.1.size+1:=by omega
 have d2:cc < w.1.size+1:=by omega
 have y:=hI A;clear z Y A V;obtain⟨G,C⟩:=T;unfold tyV;unfold tyO noT at *;simp only at *;by_cases U:G=1
 ·subst U;cases C
  ·go_enter func81,ntmps81
   go_wp2_with fail
   refine(X.o).mono ?_;rintro e w2 Z;rcases Z.cases with⟨a,v,hp,rfl,rfl,s⟩ | ⟨l',c',code,hp,rfl,s⟩
   ·obtain⟨U0,U1⟩:=a;unfold tyV;have j:=y.o.r.below s;have r0:=j.c0;have r1:=j.c1;have d7:=j.f0;have d3:=j.f1;have I:=j.lt;have R:=hI (y.o.bl.trans (s.mono y.o.bl.size));have HP:=hI hp;clear Z s j hp X;go_wp2
    refine bodyPost_ret (v:=qQt ((U0,U1),true)) (by simp[results,results81,go_sem,qQt,tyV,r0,r1,I]) rfl (zP.okI (by show(yB E ks).bind _=_;rw[HP.o];rfl) rfl ?_);exact yQ R.o (Nat.le_add_right _ _) _ _
   ·exact⟨rfl,zP.badI (by show(yB E ks).bind _=_;rw[hp];rfl) ⟨rfl,y.o.bl.trans (s.mono y.o.bl.size)⟩⟩
  ·go_enter func81,ntmps81
   go_wp2
   refine bodyPost_ret (v:=qQt ((1,true),false)) (by simp[results,results81,go_sem,qQt,tyV]) rfl (zP.okI rfl rfl ?_);first | exact y.o.bl | exact yQ y.o.bl (Nat.le_add_right _ _) _ _ | exact bal (bal (Below.refl _ _) _) _
 ·have HZ:=hI (show qYV E ks (G,C)=.ok ((G,C),false) by unfold qYV;rw[if_pos (by simp[zO,U])]);go_enter func81,ntmps81
  go_wp2
  refine bodyPost_ret (v:=qQt ((G,C),false)) (by simp[results,results81,go_sem,qQt,tyV]) rfl (zP.okI HZ.o rfl ?_);first | exact y.o.bl | exact yQ y.o.bl (Nat.le_add_right _ _) _ _ | exact bal (bal (Below.refl _ _) _) _
def qJx(E:Env)(ks:List qQ)(T:Ty):CR (Ty×Bool):=if T≠zO then .ok (T,false)else(yB E ks).bind fun u=>.ok (u,decide (u≠zO))
theorem askOrd_eq(E:Env)(ks:List qQ)(T:Ty):qJx E ks T=(qYV E ks T).bind fun a=>.ok (a.1,a.2 && decide (a.1≠zO)):=by
 unfold qJx qYV;split
 ·rfl
 ·cases yB E ks <;> simp[CR.bind]
theorem ask2(B L ce cc:Nat)(E:Env)(ks:List qQ)(q:Option Addr)(c:Nat)(T:Ty)(w:World)(hw:qZV ks=true)(h:EAt B E w)(d4:w.cell? ⟨cc,0,none⟩=some (.pointer (some ⟨B,0,none⟩)))(d2:w.cell? ⟨ce,0,none⟩=some (.func (.func 81) #[] #[.pointer (some ⟨cc,0,none⟩)]))(hL:L<=w.1.size)(hK:yD L w ks q)(hn:ks.length<=1000000) :
 Calls prog 83 #[.slice q ks.length c,tyV T, .pointer (some ⟨ce,0,none⟩)] w (zP (qJx E ks T) (fun a v _=>v=qQt a) w):=by
 have A:=qYP.new T w;have HC:=hI (ask1 B L cc E ks q c T _ hw (h.below A.bl) (kP A.bl d4) (by simp;omega) (hK.keep (A.bl.mono hL)) hn);obtain⟨gv,vv,Mg,Mo,Mr,F,o,cl,hE⟩:=h;have d5:=qJ d2;simp only at d5;have d8:ce < w.1.size+1:=by omega
 have O:=hI A;have U:=hI (askOrd_eq E ks T);have HE:=hI hE;clear hK hw hE;obtain⟨T0,Z⟩:=T;unfold tyV at *;unfold tyO noT at *;simp only at *;have f3:∀ (args:Array Value) (w:World),(callFunc 81 args).run prog w=.ok (.enter 81 args) w:=fun _ _=>rfl
 go_enter func83,ntmps83
 go_wp2_with fail
 refine(HC.o).mono ?_;rintro e w2 hX;rcases hX.cases with⟨a,v,hp,rfl,rfl,s⟩ | ⟨l',c',code,hp,rfl,s⟩
 ·obtain⟨⟨C,z⟩,b⟩:=a;unfold qQt tyV;have I:=O.o.r.below s;have R:=hI (O.o.bl.trans (s.mono O.o.bl.size));have V:=hI hp;have d3:=HE.o.below R.o;have j:=hI (bal R.o (.cells #[.int .i64 C, .bool z] 37));have J:=HE.o.below j.o;have y:=I.below (bal (Below.refl _ _) (.cells #[.int .i64 C, .bool z] 37));have hU:=qZ7.new (C,z) w2;unfold tyO at hU;have f7:=I.lt;have HU:=hI hU;have d7:w2.1.size < (w2.alloc (.cells #[.int .i64 C, .bool z] 37)).1.size:=by simp
  have f6:¬w2.1.size=w.1.size+1:=by omega
  have d6:¬w.1.size+1=w2.1.size:=by omega
  clear hX s I hp HC d3 hU;go_wp2
  generalize (w2.alloc _)=W at *;have d0:=J.b0;have d1:=J.b1;have hG:1 < W.1.size:=qJ d0;have Y:=y.c0;have X:=y.c1;have f5:=y.f0;have d9:=y.f1;have u0:=HU.o.c0;have u1:=HU.o.c1;have hw0:¬w.1.size=0:=by have:=qJ HE.o.b0;simp only at this;omega
  have f4:¬0=w.1.size:=by omega
  clear J y;cases b
  ·have G:=hI (show qJx E ks (T0,Z)=.ok ((C,z),false) by rw[U.o,V.o];rfl);go_region
   go_wp2
   refine bodyPost_ret (v:=qQt ((C,z),false)) (by simp[results,results83,go_sem,qQt,tyV,Y,X]) rfl (zP.okI G.o rfl ?_);exact(yQ j.o (Nat.le_add_right _ _) _ _).drew
  ·by_cases h0:C=1
   ·subst h0;cases z
    ·have G:=hI (show qJx E ks (T0,Z)=.ok (zO,false) by rw[U.o,V.o];rfl);go_region
     go_wp2
     refine bodyPost_ret (v:=qQt (zO,false)) (by simp[results,results83,go_sem,qQt,tyV,zO,Y,X]) rfl (zP.okI G.o rfl ?_);exact(yQ j.o (Nat.le_add_right _ _) _ _).drew
    ·have G:=hI (show qJx E ks (T0,Z)=.ok ((1,true),true) by rw[U.o,V.o];rfl);go_region
     go_wp2
     refine bodyPost_ret (v:=qQt ((1,true),true)) (by simp[results,results83,go_sem,qQt,tyV,zO,Y,X]) rfl (zP.okI G.o rfl ?_);exact(yQ j.o (Nat.le_add_right _ _) _ _).drew
   ·have G:=hI (show qJx E ks (T0,Z)=.ok ((C,z),true) by rw[U.o,V.o];simp[CR.bind,zO,h0]);go_region
    go_wp2
    refine bodyPost_ret (v:=qQt ((C,z),true)) (by simp[results,results83,go_sem,qQt,tyV,zO,Y,X,h0]) rfl (zP.okI G.o rfl ?_);exact(yQ j.o (Nat.le_add_right _ _) _ _).drew
 ·exact⟨rfl,zP.badI (by rw[U.o,hp];rfl) ⟨rfl,O.o.bl.trans (s.mono O.o.bl.size)⟩⟩
def ExpR(lo:Nat)(a:Ex)(u:Value)(w':World):Prop:=∃ kv,u=exV a kv/\qU w' (fun g=>lo<=g) a.kids kv
def qXL(t:qQ):Prop:=∀ (B L:Nat) (E:Env) (v:Value) (T:Ty) (w:World),EAt B E w->L<=w.1.size->xZ w (· < L) t v ->
 Calls prog 134 #[.pointer (some ⟨B,0,none⟩),qZ t v,tyV T] w (zP (qQT E t T) (ExpR w.1.size) w)
theorem qVS{ops:Array Oper}{rest:List Oper}{o:Oper}{a:Act}{Q:Exit->Act->World->Prop}{w:World}{lo y dd:Nat}{acc:List Ex}{e:Ex}{v u:Value}(j:o.guard=none)(s x:Operand)
 (ho:o.op=.call { callee:=.builtin .append,args:=#[s,x],argTypes:=#[71,71] }) (hd:o.dst=some dd) (hB:wC w lo acc v) (A:qU w (fun g=>lo<=g/\some g≠v.ownBlock) e.kids u) (hlo:lo<=w.1.size)
 (hs:a.eval s=v) (hS:w.1.size=y) (z:a.eval x=.slice (some ⟨y,0,none⟩) 1 1) (C:acc.length < 1000000)
 (h:∀ v' w',wC w' lo (acc++[e]) v'->(w.alloc (.cells (exC e u).toArray 76)).grownBy w' v.ownBlock->wpList prog ops Q rest (a.put (some dd) v') w') :
 wpList prog ops Q (o :: rest) a (w.alloc (.cells (exC e u).toArray 76)) :=
 wpList_plain j fun _ hK'=>qYU s x ho hd hB A hlo hs hS z C fun v' w' h1 h2=>hK' _ _ (h v' w' h1 h2)
theorem CR.bind_assoc{α β γ:Type}(p:CR α)(f:α->CR β)(g:β->CR γ):(p.bind f).bind g=p.bind fun a=>(f a).bind g:=by cases p <;> rfl
theorem expsC_at{E:Env}{ts:List qQ}{T:Ty}{k:Nat}(h:k < ts.length):vD E (ts.drop k) T=(qQT E ts[k] T).bind fun e=>(vD E (ts.drop (k+1)) T).bind fun es=>.ok (e :: es):=by
 rw[List.drop_eq_getElem_cons h,vD]
theorem wC.shape{w:World}{lo:Nat}{j:List Ex}{v:Value}(h:wC w lo j v):∃ q n c,v=.slice q n c:=by
 obtain⟨z,s,_⟩:=h;rcases s.2 with⟨rfl,_⟩ | ⟨g,o,y,rfl,_⟩
 ·exact⟨none,0,0,rfl⟩
 ·exact⟨_,_,_,rfl⟩
def ERel(E:Env)(ts:List qQ)(T:Ty)(W:World)(v i:Value)(wr:World):Prop :=
 ∃ (k:Nat) (acc:List Ex),k<=ts.length/\i=.int .i64 k/\acc.length=k/\wC wr W.1.size acc v/\vD E ts T=((vD E (ts.drop k) T).bind fun es=>.ok (acc++es))/\Below W.1.size W wr
theorem qZs(B L:Nat)(E:Env)(ts:List qQ)(q:Option Addr)(c:Nat)(T:Ty)(w:World)(hrec:∀ t∈ts,qXL t)(h:EAt B E w)(hL:L<=w.1.size)(hK:yD L w ts q)(hn:ts.length<=900000) :
 Calls prog 156 #[.pointer (some ⟨B,0,none⟩), .slice q ts.length c,tyV T] w (zP (vD E ts T) (fun a u w'=>qU w' (fun g=>w.1.size<=g) a u) w):=by
 have HB:=hI (bal (Below.refl w.1.size w) (tyO T));have H2:=hI (h.below HB.o);have f5:=hI (hK.keep (HB.o.mono hL));have HT:=hI (qZ7.new T w);have HR:=hI hrec;have g3:(w.alloc (tyO T)).1.size=w.1.size+1:=by simp
 clear h hK hrec;obtain⟨X,Y⟩:=T;unfold tyV;unfold tyO at *;simp only at *;go_enter func156,ntmps156
 go_wp2
 generalize (w.alloc _)=W at *;go_loopw [7,12] (fun v i wr=>ERel E ts (X,Y) W v i wr) (fun _ i _=>ts.length - (intOf i).toNat)
 case atStart=>exact⟨0,[],Nat.zero_le _,rfl,rfl,wC.nil _ _,by rw[List.drop_zero];cases vD E ts (X,Y) <;> rfl,Below.refl _ _⟩
 case round =>
  obtain⟨k,acc,hk,rfl,g0,V,hf,hb⟩:=hrel;obtain⟨q7,n7,c7,rfl⟩:=V.shape;have d7:=hI (HB.o.trans (hb.mono (by omega)));have A:=HT.o.below hb;have t0:=A.c0;have t1:=A.c1;have g4:=A.lt;have d4:=hI V;have HF:=hI hf;clear V hf;by_cases z:k < ts.length
  ·obtain⟨g,g1,rfl,hR⟩:=(f5.o.keep (hb.mono (by omega))).resolve_left (fun e=>by rw[e]at z;simp at z);obtain⟨qa,na,ca,d8,d9⟩:=hR.2 k z;have⟨k0,k1,k2,k3,k4,k5,_⟩:=d9.a;have G:ts[k]∈ts:=List.getElem_mem z;have g2:=hb.size;have y:=Below.alloc (a:=wr) (Below.refl wr.1.size wr) (Nat.le_refl _) (qB ts[k] (.slice qa na ca));have HC:=hI (HR.o _ G B L E (.slice qa na ca) (X,Y) _ ((H2.o.below hb).below y) (by simp;omega) (d8.keep (y.mono (by omega))));have HA:=hI (expsC_at (E:=E) (T:=(X,Y)) z);have d3:=hI (hb.trans (y.mono (by omega)));have C:=hI (d7.o.trans (y.mono (by omega)));have I:=hI (d4.o.below y);clear d9 d8 hR G hb y A;generalize hu:ts[k]=u at *;simp only[qS,qZ,qB,tyV]at *;go_wp2_with fail
   refine(HC.o).mono ?_;rintro e w2 hX;rcases hX.cases with⟨a,uu,hp,rfl,⟨kv,rfl,Z⟩,s⟩ | ⟨ln,co,code,hp,rfl,s⟩
   ·obtain⟨d2,⟨d6,d5⟩,an,av,ag,al,ac,ak⟩:=a;have J:=hI (I.o.below s);have f3:=hI (d3.o.trans (s.mono (by have:=d3.o.size;omega)));have g5:=hI (C.o.trans (s.mono (by have:=C.o.size;omega)));have HP:=hI hp;have O:=I.o.lt;have f4:=hI (Z.mono (ok':=fun g=>W.1.size<=g/\some g≠(Value.slice q7 n7 c7).ownBlock) (fun g hg=>⟨by simp at hg;omega,fun e=>by have:=(O g e.symm).2;omega⟩));have f6:=f3.o.size;clear hX HC hp s Z k0 k1 k2 k3 k4 k5 O;simp only[exV,Ex.kids]at *;go_wp2_with (at_builtin;refine qVS (dd:=22) (e:=.mk d2 (d6,d5) an av ag al ac ak) (u:=kv) (acc:=acc) (lo:=W.1.size) rfl _ _ rfl rfl J.o f4.o (by omega) rfl rfl rfl (by omega) ?_)
    intro v9 w9 R U;obtain⟨q9,n9,c9,rfl⟩:=R.shape;have f8:=U.size;simp at f8;have f7:=hI (f3.o.trans (((Below.refl w2.1.size w2).alloc (Nat.le_refl _) _).mono f6) |>.grown U (by simp;omega) (fun j e=>(J.o.lt j e).1));have f9:=hI R;clear R U;go_wp2
    refine⟨⟨k+1,acc++[.mk d2 (d6,d5) an av ag al ac ak],by omega,rfl,by simp;omega,f9.o,?_,f7.o⟩,by simp[intOf];omega⟩;rw[HF.o,HA.o,HP.o,CR.bind_assoc];generalize vD E (List.drop (k+1) ts) (X,Y)=r;cases r <;> simp[CR.bind]
   ·refine⟨rfl,zP.badI (by rw[HF.o,HA.o,hp];rfl) ⟨rfl,C.o.trans (s.mono (by have:=C.o.size;omega))⟩⟩
  ·have HE:=hI (show vD E ts (X,Y)=.ok acc by rw[HF.o,List.drop_eq_nil_of_le (by omega),vD];simp[CR.bind]);clear hb A;go_wp2
   go_ret;refine zP.okI HE.o (d4.o.lies.mono (fun g hg=>by omega)) d7.o
theorem jR{b N o:Nat}{a w:World}(h:Below b a w)(hN:b<=N)(u:Value):Below b a (w.setCell ⟨N,o,none⟩ u):=h.setCell (p:=⟨N,o,none⟩) hN u
theorem set9{b N:Nat}{a w:World}(h:Below b a w)(hN:b<=N)(G A y s o z C j u8:Value):Below b a (((((((((w.setCell ⟨N,0,none⟩ G).setCell ⟨N,1,none⟩ A).setCell ⟨N,2,none⟩ y).setCell ⟨N,3,none⟩ s).setCell ⟨N,4,none⟩ o).setCell ⟨N,5,none⟩ z).setCell ⟨N,6,none⟩ C).setCell ⟨N,7,none⟩ j).setCell ⟨N,8,none⟩ u8) :=
 jR (jR (jR (jR (jR (jR (jR (jR (jR h hN _) hN _) hN _) hN _) hN _) hN _) hN _) hN _) hN _
structure qQf(N:Nat)(op:List UInt8)(T:Ty)(n va:Int)(g:Bool)(l c:Int)(kv:Value)(w:World):Prop where
 c0:w.cell? ⟨N,0,none⟩=some (.string ⟨op.toArray⟩)
 c1:w.cell? ⟨N,1,none⟩=some (.int .i64 T.1)
 c2:w.cell? ⟨N,2,none⟩=some (.bool T.2)
 c3:w.cell? ⟨N,3,none⟩=some (.int .u64 n)
 c4:w.cell? ⟨N,4,none⟩=some (.int .i64 va)
 c5:w.cell? ⟨N,5,none⟩=some (.bool g)
 c6:w.cell? ⟨N,6,none⟩=some (.int .i64 l)
 c7:w.cell? ⟨N,7,none⟩=some (.int .i64 c)
 c8:w.cell? ⟨N,8,none⟩=some kv
 f:∀ k,k < 9->w.frozen? ⟨N,k,none⟩=false
theorem qQf.a{N:Nat}{op:List UInt8}{T:Ty}{n va:Int}{g:Bool}{l c:Int}{kv:Value}{w:World}(h:qQf N op T n va g l c kv w):w.cell? ⟨N,0,none⟩=some (.string ⟨op.toArray⟩)/\w.cell? ⟨N,1,none⟩=some (.int .i64 T.1)/\w.cell? ⟨N,2,none⟩=some (.bool T.2)/\w.cell? ⟨N,3,none⟩=some (.int .u64 n)/\w.cell? ⟨N,4,none⟩=some (.int .i64 va)/\w.cell? ⟨N,5,none⟩=some (.bool g)/\w.cell? ⟨N,6,none⟩=some (.int .i64 l)/\w.cell? ⟨N,7,none⟩=some (.int .i64 c)/\w.cell? ⟨N,8,none⟩=some kv/\True:=⟨h.c0,h.c1,h.c2,h.c3,h.c4,h.c5,h.c6,h.c7,h.c8,trivial⟩
theorem qQf.b{N:Nat}{op:List UInt8}{T:Ty}{n va:Int}{g:Bool}{l c:Int}{kv:Value}{w:World}(h:qQf N op T n va g l c kv w):w.frozen? ⟨N,0,none⟩=false/\w.frozen? ⟨N,1,none⟩=false/\w.frozen? ⟨N,2,none⟩=false/\w.frozen? ⟨N,3,none⟩=false/\w.frozen? ⟨N,4,none⟩=false/\w.frozen? ⟨N,5,none⟩=false/\w.frozen? ⟨N,6,none⟩=false/\w.frozen? ⟨N,7,none⟩=false/\w.frozen? ⟨N,8,none⟩=false/\True:=⟨h.f 0 (by decide),h.f 1 (by decide),h.f 2 (by decide),h.f 3 (by decide),h.f 4 (by decide),h.f 5 (by decide),h.f 6 (by decide),h.f 7 (by decide),h.f 8 (by decide),trivial⟩
def exO(op:List UInt8)(T:Ty)(n va:Int)(g:Bool)(l c:Int)(kv:Value):Obj:=.cells #[.string ⟨op.toArray⟩, .int .i64 T.1, .bool T.2, .int .u64 n, .int .i64 va, .bool g, .int .i64 l, .int .i64 c,kv] 76
section
variable {N:Nat} {op:List UInt8} {T:Ty} {n va:Int} {g:Bool} {l c:Int} {kv:Value} {w w':World}
theorem qQf.new(op:List UInt8)(T:Ty)(n va:Int)(g:Bool)(l c:Int)(kv:Value)(w:World):qQf w.1.size op T n va g l c kv (w.alloc (exO op T n va g l c kv)):=by
 unfold exO;constructor
 case f=>intro k j;match k,j with | 0,_=>simp[go_sem] | 1,_=>simp[go_sem] | 2,_=>simp[go_sem] | 3,_=>simp[go_sem] | 4,_=>simp[go_sem] | 5,_=>simp[go_sem] | 6,_=>simp[go_sem] | 7,_=>simp[go_sem] | 8,_=>simp[go_sem]
 all_goals simp[go_sem]
theorem qQf.lt(h:qQf N op T n va g l c kv w):N < w.1.size:=qJ h.c0
theorem qQf.below(h:qQf N op T n va g l c kv w)(hb:Below w.1.size w w'):qQf N op T n va g l c kv w' :=
 have k:∀ {p:Addr} {v:Value},w.cell? p=some v->w'.cell? p=some v:=fun e=>kP hb e
 ⟨k h.c0,k h.c1,k h.c2,k h.c3,k h.c4,k h.c5,k h.c6,k h.c7,k h.c8,fun j hj=>(hb.frozen h.lt).trans (h.f j hj)⟩
end
theorem qUq(B:Nat)(E:Env)(t:qQ)(v:Value)(w:World)(h:EAt B E w)(hx:t.text.length<=1000000) :
 Calls prog 153 #[.pointer (some ⟨B,0,none⟩),qZ t v] w (zP (qQ1 E t) (fun a u _=>u=exV a (.slice none 0 0)) w):=by
 have X:=hI (bal (bal (Below.refl w.1.size w) (qB t v)) (exO [] noT 0 0 false 0 0 (.slice none 0 0)));have HC:=hI (qPz B E t v _ (h.below X.o) hx);have HN:=hI ((Bx.new t v w).below (bal (Below.refl _ _) (exO [] noT 0 0 false 0 0 (.slice none 0 0))));have HT:=hI (qQf.new [] noT 0 0 false 0 0 (.slice none 0 0) (w.alloc (qB t v)));simp only[World.size_alloc]at HT;have d5:((w.alloc (qB t v)).alloc (exO [] noT 0 0 false 0 0 (.slice none 0 0))).1.size=w.1.size+2:=by simp
 clear h;obtain⟨k,x,m,ln,co,ks⟩:=t;have G:=hI (show qQ1 E (.mk k x m ln co ks)=(qZD E (.mk k x m ln co ks)).bind fun r=>(jQ ((k == qL) == decide (0 < r.1.size)) (.mk k x m ln co ks) 41).bind fun _=>.ok (.mk (if k == qL then qL else qMc) r.1.t 0 r.2.1 r.2.2 ln co [])from rfl);simp only[qZ,qB,exO,qS,noT,qQ.kind,qQ.text,qQ.num,qQ.line,qQ.col,qQ.kids]at *;go_enter func153,ntmps153
 go_wp2_with fail
 refine(HC.o).mono ?_;rintro e w2 hX;rcases hX.cases with⟨a,u,hp,rfl,rfl,z⟩ | ⟨l',c',code,hp,rfl,z⟩;rotate_left
 ·exact⟨rfl,zP.badI (by rw[G.o,hp];rfl) ⟨rfl,X.o.trans (z.mono X.o.size)⟩⟩
 obtain⟨⟨nm,⟨J,U⟩,sz⟩,i,g⟩:=a;unfold qWS qXK;have G:=hI (G.o.trans (by rw[hp];rfl:_=(jQ ((k == qL) == decide (0 < sz)) (.mk k x m ln co ks) 41).bind fun _=>.ok (.mk (if k == qL then qL else qMc) (J,U) 0 i g ln co [])));have I:=HN.o.below z;have V:=HT.o.below z;have j:=hI (X.o.trans (z.mono X.o.size));have d4:=V.lt;have d3:=I.lt;have Z:=fun b=>hI (fun w'=>qQk b (.mk k x m ln co ks) v 41 w')
 simp only[qZ,qQ.kind,qQ.text,qQ.num,qQ.line,qQ.col,qQ.kids]at Z;have Y:=hI I;have d2:=hI V;obtain⟨n0,n1,n2,n3,n4,n5⟩:=I.cells;clear hX HC hp z HN HT X I V;have HA:=hI (bal (Below.refl w2.1.size w2) (.cells #[.string ⟨nm.toArray⟩, .int .i64 J, .bool U, .int .i64 sz] 42));have HV:=hI (qQB.new ⟨nm,(J,U),sz⟩ w2);simp only[qQe]at HV;cases hk:(k == qL);case false =>
  have O:=hI hk;unfold qL at hk;go_wp2_with fail
  refine((Z _).out _).mono ?_;rintro e w3 (⟨hbt,rfl,hb3⟩ | ⟨hbt,rfl,hb3⟩);rotate_left
  ·refine⟨rfl,zP.badI (ln:=ln) (co:=co) (code:=41) ?_ ⟨rfl,j.o.trans ((HA.o.trans (hb3.mono (by simp))).mono j.o.size)⟩⟩;rw[G.o,O.o];by_cases hs:0 < sz
   all_goals first | (exfalso;simp[hs]at hbt;done) | (exfalso;simp at hbt;omega) | simp[jQ,CR.bind,hs,qQ.line,qQ.col]
  have C:qQ1 E (.mk k x m ln co ks)=.ok (.mk (if k == qL then qL else qMc) (J,U) 0 i g ln co []):=by
   rw[G.o,O.o];by_cases hs:0 < sz
   all_goals first | (exfalso;simp[hs]at hbt;done) | (exfalso;simp at hbt;omega) | simp[jQ,CR.bind,hs,qQ.line,qQ.col]
  rw[O.o]at C;simp only[bF,if_true,if_false,reduceIte]at C;have C:=hI C;have y:=hI (HA.o.trans (hb3.mono (by simp)));have A:=HV.o.below hb3;have⟨v0,v1,v2,v3,_⟩:=A.a;obtain⟨n0,n1,n2,n3,n4,n5⟩:=(Y.o.below y.o).cells;have s:=d2.o.below y.o;have⟨r0,r1,r2,r3,r4,r5,r6,r7,r8,_⟩:=s.a;have⟨g0,g1,g2,g3,g4,g5,g6,g7,g8,_⟩:=s.b;have R:=hI (j.o.trans (y.o.mono j.o.size));clear hbt hb3 A s Z G;go_wp2
  refine bodyPost_ret (v:=exV (.mk qMc (J,U) 0 i g ln co []) (.slice none 0 0)) (by simp[results,results153,go_sem,exV,qMc,r0,r1,r2,r3,r4,r5,r6,r7,r8]) rfl (zP.okI C.o rfl ?_);exact set9 R.o (Nat.le_add_right _ _) _ _ _ _ _ _ _ _ _
 case true =>
  have O:=hI hk;unfold qL at hk;go_wp2_with fail
  refine((Z _).out _).mono ?_;rintro e w3 (⟨hbt,rfl,hb3⟩ | ⟨hbt,rfl,hb3⟩);rotate_left
  ·refine⟨rfl,zP.badI (ln:=ln) (co:=co) (code:=41) ?_ ⟨rfl,j.o.trans ((HA.o.trans (hb3.mono (by simp))).mono j.o.size)⟩⟩;rw[G.o,O.o];by_cases hs:0 < sz
   all_goals first | (exfalso;simp[hs]at hbt;done) | (exfalso;simp at hbt;omega) | simp[jQ,CR.bind,hs,qQ.line,qQ.col]
  have C:qQ1 E (.mk k x m ln co ks)=.ok (.mk (if k == qL then qL else qMc) (J,U) 0 i g ln co []):=by
   rw[G.o,O.o];by_cases hs:0 < sz
   all_goals first | (exfalso;simp[hs]at hbt;done) | (exfalso;simp at hbt;omega) | simp[jQ,CR.bind,hs,qQ.line,qQ.col]
  rw[O.o]at C;simp only[bF,if_true,if_false,reduceIte]at C;have C:=hI C;have y:=hI (HA.o.trans (hb3.mono (by simp)));have A:=HV.o.below hb3;have⟨v0,v1,v2,v3,_⟩:=A.a;obtain⟨n0,n1,n2,n3,n4,n5⟩:=(Y.o.below y.o).cells;have s:=d2.o.below y.o;have⟨r0,r1,r2,r3,r4,r5,r6,r7,r8,_⟩:=s.a;have⟨g0,g1,g2,g3,g4,g5,g6,g7,g8,_⟩:=s.b;have R:=hI (j.o.trans (y.o.mono j.o.size));clear hbt hb3 A s Z G;go_wp2
  refine bodyPost_ret (v:=exV (.mk qL (J,U) 0 i g ln co []) (.slice none 0 0)) (by simp[results,results153,go_sem,exV,qL,r0,r1,r2,r3,r4,r5,r6,r7,r8]) rfl (zP.okI C.o rfl ?_);exact set9 R.o (Nat.le_add_right _ _) _ _ _ _ _ _ _ _ _
theorem qVE(B L:Nat)(E:Env)(ks:List qQ)(q:Option Addr)(c:Nat)(w:World)(hw:qZV ks=true)(hrec:∀ t∈ks,qXL t)(h:EAt B E w)(hL:L<=w.1.size)(hK:yD L w ks q)(hn:ks.length<=900000) :
 Calls prog 154 #[.pointer (some ⟨B,0,none⟩), .slice q ks.length c] w (zP (qQL E ks) (fun a u w'=>qU w' (fun g=>w.1.size<=g) a u) w):=by
 by_cases h0:ks.length=0
 ·have U:=hI (show qQL E ks=.ok [] by unfold qQL;rw[if_pos h0]);rw[h0];go_enter func154,ntmps154
  go_wp2
  go_ret;exact zP.okI U.o (qU.nil _ _) (Below.refl _ _)
 ·have U:=hI (show qQL E ks=(yB E ks).bind fun u=>(jQ (decide (u≠zO)) (ks.headD (.mk [] [] 0 0 0 [])) 41).bind fun _=>vD E ks u by unfold qQL;rw[if_neg h0]);have HC:=hI (qKD B L E ks q c w (qJV ks hw) h hL hK (by omega));have H0:=hI h;have HK:=hI hK;have HR:=hI hrec;have f3:¬(ks.length:Int)=0:=by omega
  obtain⟨t,r,d8⟩:∃ t r,ks=t :: r:=by cases ks with | nil=>simp at h0 | cons t r=>exact⟨t,r,rfl⟩
  have d7:=hI d8;have Z:0 < ks.length:=by omega
  clear h hK hrec hw d8;go_enter func154,ntmps154
  go_wp2_with fail
  refine(HC.o).mono ?_;rintro e w2 hX;rcases hX.cases with⟨a,u,hp,rfl,rfl,V⟩ | ⟨l',c',code,hp,rfl,V⟩;rotate_left
  ·exact⟨rfl,zP.badI (by rw[U.o,hp];rfl) ⟨rfl,V⟩⟩
  obtain⟨Y,T1⟩:=a;have U:=hI (U.o.trans (by rw[hp,show ks.headD (.mk [] [] 0 0 0 [])=t by rw[d7.o];rfl];rfl:_=(jQ (decide (((Y,T1):Ty)≠zO)) t 41).bind fun _=>vD E ks (Y,T1)));have J:=hI (V.trans ((bal (Below.refl w2.1.size w2) (tyO (Y,T1))).mono V.size));have HT:=hI (qZ7.new (Y,T1) w2);have hs2:=V.size;have f4:(w2.alloc (tyO (Y,T1))).1.size=w2.1.size+1:=by simp
  have HE:=hI (H0.o.below J.o);have d2:=hI (HK.o.keep (J.o.mono hL));clear hX HC hp V;unfold tyV;unfold tyO at *;simp only at *;go_wp2
  generalize (w2.alloc _)=W at *;obtain⟨g,O,rfl,hR⟩:=d2.o.resolve_left (fun e=>by rw[e]at Z;simp at Z);obtain⟨qa,na,ca,d9,d5⟩:=hR.2 0 Z;have et:ks[0]=t:=by have:=d7.o;subst this;rfl
  rw[et]at d5 d9;simp only[Nat.zero_mul,Nat.add_zero]at d5;have⟨s,k1,z,I,C,G,_⟩:=d5.a;have t0:=HT.o.c0;have A:=HT.o.c1;obtain⟨gv,vv,Mg,Mo,Mr,F,o,cl,hE⟩:=HE.o;have d0:=hE.b0;have d1:=hE.b1;clear hE d5 d9 hR;have hG:1 < W.1.size:=qJ d0;have X:=hI (fun w'=>qQl t (.slice qa na ca) 41 w');have d4:=hI (fun w'=>qQ5 t (.slice qa na ca) 41 w');unfold qZ at X d4;by_cases hz:Y=1
  ·subst hz;cases T1
   ·skip
    refine wRg (S:=fun w'=>Below W.1.size W w') 6 ?_;refine wTk 0 12 (.agg #[.int .i64 1, .bool false]) ?_ (bD W) ?_
    ·intro _ y;obtain⟨t0,A,d0,d1,s,k1,z,I,C,G⟩:=kP10 y t0 A d0 d1 s k1 z I C G;go_simp
    refine wTk 1 13 (.agg #[.int .i64 1, .bool false]) ?_ (bD W) ?_
    ·intro _ y;obtain⟨t0,A,d0,d1,s,k1,z,I,C,G⟩:=kP10 y t0 A d0 d1 s k1 z I C G;go_simp
    refine wTk 2 14 (.bool false) ?_ (bD W) ?_
    ·intro _ y;obtain⟨t0,A,d0,d1,s,k1,z,I,C,G⟩:=kP10 y t0 A d0 d1 s k1 z I C G;go_simp
    refine wTk 3 15 (.slice (some ⟨g,O,none⟩) ks.length c) ?_ (bD W) ?_
    ·intro _ y;go_simp
    refine wTk 4 16 (.pointer (some ⟨g,O,none⟩)) ?_ (bD W) ?_
    ·intro _ y;go_simp
    refine wTk 5 17 (.agg #[.string ⟨t.kind.toArray⟩, .string ⟨t.text.toArray⟩, .int .u64 t.num, .int .i64 t.line, .int .i64 t.col, .slice qa na ca]) ?_ (bD W) ?_
    ·intro _ y;obtain⟨t0,A,d0,d1,s,k1,z,I,C,G⟩:=kP10 y t0 A d0 d1 s k1 z I C G;go_simp
    refine wOn 6 fun K hK=>?_
    go_simp;refine(d4.o _).mono ?_;rintro e w3 ⟨rfl,hb3⟩;exact⟨rfl,zP.badI (by rw[U.o];rfl) ⟨rfl,J.o.trans ((zF hb3).mono J.o.size)⟩⟩
   ·skip
    refine wRg (S:=fun w'=>Below W.1.size W w') 6 ?_;refine wTk 0 12 (.agg #[.int .i64 1, .bool true]) ?_ (bD W) ?_
    ·intro _ y;obtain⟨t0,A,d0,d1,s,k1,z,I,C,G⟩:=kP10 y t0 A d0 d1 s k1 z I C G;go_simp
    refine wTk 1 13 (.agg #[.int .i64 1, .bool false]) ?_ (bD W) ?_
    ·intro _ y;obtain⟨t0,A,d0,d1,s,k1,z,I,C,G⟩:=kP10 y t0 A d0 d1 s k1 z I C G;go_simp
    refine wTk 2 14 (.bool true) ?_ (bD W) ?_
    ·intro _ y;obtain⟨t0,A,d0,d1,s,k1,z,I,C,G⟩:=kP10 y t0 A d0 d1 s k1 z I C G;go_simp
    refine wTk 3 15 (.slice (some ⟨g,O,none⟩) ks.length c) ?_ (bD W) ?_
    ·intro _ y;go_simp
    refine wTk 4 16 (.pointer (some ⟨g,O,none⟩)) ?_ (bD W) ?_
    ·intro _ y;go_simp
    refine wTk 5 17 (.agg #[.string ⟨t.kind.toArray⟩, .string ⟨t.text.toArray⟩, .int .u64 t.num, .int .i64 t.line, .int .i64 t.col, .slice qa na ca]) ?_ (bD W) ?_
    ·intro _ y;obtain⟨t0,A,d0,d1,s,k1,z,I,C,G⟩:=kP10 y t0 A d0 d1 s k1 z I C G;go_simp
    refine wOn 6 fun K hK=>?_
    go_simp;refine(X.o _).mono ?_;rintro e w3 ⟨rfl,hb3⟩;refine kD hK ?_;clear hK K;refine wDn ?_ _;have j:=zF hb3;have R:=hI (J.o.trans (j.mono J.o.size));have U:=hI (U.o.trans (by rw[show decide (((1,true):Ty)≠zO)=true from by simp[zO]];rfl:_=vD E ks (1,true)));have HX:=hI (qZs B L E ks (some ⟨g,O,none⟩) c (1,true) w3 HR.o (HE.o.below j) (by have:=j.size;omega) (d2.o.keep (j.mono (by omega))) hn);have tt:=HT.o.below j;have t0:=tt.c0;have A:=tt.c1;have d3:=R.o.size;unfold tyV at HX;clear hb3 j tt s k1 z I C G d0 d1 HE d2 X d4;go_wp2_with fail
    refine(HX.o).mono ?_;rintro e w4 hX;rcases hX.cases with⟨es,u,hp,rfl,hl,hb4⟩ | ⟨l',c',code,hp,rfl,hb4⟩
    ·have HL:=hI (hl.mono (ok':=fun g=>w.1.size<=g) (fun g hg=>by omega));have d6:=hI (R.o.trans (hb4.mono d3));have HQ:=hI (U.o.trans hp);clear hX hl hb4 hp HX;go_wp2
     go_ret;exact zP.okI HQ.o HL.o d6.o
    ·exact⟨rfl,zP.badI (by rw[U.o,hp]) ⟨rfl,R.o.trans (hb4.mono d3)⟩⟩
  ·have hd:decide (((Y,T1):Ty)≠zO)=true:=by simp[zO,hz]
   refine wRg (S:=fun w'=>Below W.1.size W w') 6 ?_;refine wTk 0 12 (.agg #[.int .i64 Y, .bool T1]) ?_ (bD W) ?_
   ·intro _ y;obtain⟨t0,A,d0,d1,s,k1,z,I,C,G⟩:=kP10 y t0 A d0 d1 s k1 z I C G;go_simp
   refine wTk 1 13 (.agg #[.int .i64 1, .bool false]) ?_ (bD W) ?_
   ·intro _ y;obtain⟨t0,A,d0,d1,s,k1,z,I,C,G⟩:=kP10 y t0 A d0 d1 s k1 z I C G;go_simp
   refine wTk 2 14 (.bool true) ?_ (bD W) ?_
   ·intro _ y;obtain⟨t0,A,d0,d1,s,k1,z,I,C,G⟩:=kP10 y t0 A d0 d1 s k1 z I C G;go_simp
   refine wTk 3 15 (.slice (some ⟨g,O,none⟩) ks.length c) ?_ (bD W) ?_
   ·intro _ y;go_simp
   refine wTk 4 16 (.pointer (some ⟨g,O,none⟩)) ?_ (bD W) ?_
   ·intro _ y;go_simp
   refine wTk 5 17 (.agg #[.string ⟨t.kind.toArray⟩, .string ⟨t.text.toArray⟩, .int .u64 t.num, .int .i64 t.line, .int .i64 t.col, .slice qa na ca]) ?_ (bD W) ?_
   ·intro _ y;obtain⟨t0,A,d0,d1,s,k1,z,I,C,G⟩:=kP10 y t0 A d0 d1 s k1 z I C G;go_simp
   refine wOn 6 fun K hK=>?_
   go_simp;refine(X.o _).mono ?_;rintro e w3 ⟨rfl,hb3⟩;refine kD hK ?_;clear hK K;refine wDn ?_ _;have j:=zF hb3;have R:=hI (J.o.trans (j.mono J.o.size));have U:=hI (U.o.trans (by rw[show decide (((Y,T1):Ty)≠zO)=true from hd];rfl:_=vD E ks (Y,T1)));have HX:=hI (qZs B L E ks (some ⟨g,O,none⟩) c (Y,T1) w3 HR.o (HE.o.below j) (by have:=j.size;omega) (d2.o.keep (j.mono (by omega))) hn);have tt:=HT.o.below j;have t0:=tt.c0;have A:=tt.c1;have d3:=R.o.size;unfold tyV at HX;clear hb3 j tt s k1 z I C G d0 d1 HE d2 X d4;go_wp2_with fail
   refine(HX.o).mono ?_;rintro e w4 hX;rcases hX.cases with⟨es,u,hp,rfl,hl,hb4⟩ | ⟨l',c',code,hp,rfl,hb4⟩
   ·have HL:=hI (hl.mono (ok':=fun g=>w.1.size<=g) (fun g hg=>by omega));have d6:=hI (R.o.trans (hb4.mono d3));have HQ:=hI (U.o.trans hp);clear hX hl hb4 hp HX;go_wp2
    go_ret;exact zP.okI HQ.o HL.o d6.o
   ·exact⟨rfl,zP.badI (by rw[U.o,hp]) ⟨rfl,R.o.trans (hb4.mono d3)⟩⟩
theorem xG{P:Program}{ops:Array Oper}{Q:Exit->Act->World->Prop}{md:Region.Mode}{S:World->Prop}{tail:Nat->Bool}{i d:Nat}{o:Oper}{fuel:Nat}{j:Array Bool}{a:Act}{w:World}(hi:ops[i]? = some o)(hd:o.dst=some d)
 (hs:(Region.noSelect ops && Region.free md ops j i && (Region.ready md ops j).contains i && qXz md ops tail i && qZM md ops j && !tail i)=true)
 (y:∀ c a w,Q (.panic c) (a.put o.dst undef) w->Q (.panic c) a w) (s:Region.wanted o (yielded ops a.tmps)=false) (hS:S w)
 (h:vR P md ops Q S tail fuel (j.setIfInBounds i true) (a.put (some d) undef) w):vR P md ops Q S tail (fuel+1) j a w:=by
 simp only[bE,Bool.not_eq_true']at hs;exact qVp hi (Region.noSelect_spec hs.1.1.1.1.1) y hs.1.1.2 hs.2 fuel j a w (Region.free_spec hi hs.1.1.1.1.2) hs.1.2 (by simpa using hs.1.1.1.2) (.inr ⟨s,rfl⟩) hS (by rw[hd];exact h)
structure XIn(B L:Nat)(E:Env)(t:qQ)(v:Value)(T:Ty)(w W:World):Prop where
 bl:Below w.1.size w W
 sz:w.1.size+4<=W.1.size
 e0:EAt B E w
 nd:Bx w.1.size t v W
 ty:qZ7 (w.1.size+1) T W
 rs:qQf (w.1.size+1+1) [] (0,false) 0 0 false 0 0 (.slice none 0 0) W
 l0:xZ w (· < L) t v
 hL:L<=w.1.size
theorem XIn.en{B L:Nat}{E:Env}{t:qQ}{v:Value}{T:Ty}{w W:World}(h:XIn B L E t v T w W):EAt B E W:=h.e0.below h.bl
theorem XIn.li{B L:Nat}{E:Env}{t:qQ}{v:Value}{T:Ty}{w W:World}(h:XIn B L E t v T w W):xZ W (· < L) t v :=
 have hL:=h.hL;xZ.move (fun g hg hok=>⟨hok,h.bl.block g (by omega)⟩) t v h.l0
theorem XIn.kids{B L:Nat}{E:Env}{k x:List UInt8}{m ln co:Int}{ks:List qQ}{q:Option Addr}{n c:Nat}{T:Ty}{w W:World}(h:XIn B L E (.mk k x m ln co ks) (.slice q n c) T w W):yD L W ks q:=by
 obtain⟨o,c',e,_,_,j⟩:=h.li.kids;injection e with e1 e2 e3;rw[e1];exact j
theorem XIn.turn{B L:Nat}{E:Env}{t:qQ}{v:Value}{T:Ty}{w W j:World}(h:XIn B L E t v T w W)(hb:Below (w.1.size+3) W j):XIn B L E t v T w j :=
 have kc:∀ {g o:Nat} {u:Value},g < w.1.size+3->W.cell? ⟨g,o,none⟩=some u->j.cell? ⟨g,o,none⟩=some u:=fun hg e=>(hb.cell (p:=⟨_,_,none⟩) hg).trans e
 have s:∀ {g o:Nat} {b:Bool},g < w.1.size+3->W.frozen? ⟨g,o,none⟩=b->j.frozen? ⟨g,o,none⟩=b:=fun hg e=>(hb.frozen (p:=⟨_,_,none⟩) hg).trans e
 ⟨h.bl.trans (hb.mono (by omega)),Nat.le_trans h.sz hb.size,h.e0,(hb.block _ (by omega)).trans h.nd,⟨kc (by omega) h.ty.c0,kc (by omega) h.ty.c1,s (by omega) h.ty.f0,s (by omega) h.ty.f1⟩,
  ⟨kc (by omega) h.rs.c0,kc (by omega) h.rs.c1,kc (by omega) h.rs.c2,kc (by omega) h.rs.c3,kc (by omega) h.rs.c4,kc (by omega) h.rs.c5,kc (by omega) h.rs.c6,kc (by omega) h.rs.c7,kc (by omega) h.rs.c8,fun k hk=>s (by omega) (h.rs.f k hk)⟩,h.l0,h.hL⟩
def XB(k:Nat)(op:List UInt8)(T:Ty)(n va:Int)(g:Bool)(t:qQ)(kv:Value)(w W:World):Prop:=qQf (w.1.size+1+1+k) op T n va g t.line t.col kv W
theorem XIn.new{B L:Nat}{E:Env}{t:qQ}{v:Value}{T:Ty}{w:World}(h:EAt B E w)(hL:L<=w.1.size)(hl:xZ w (· < L) t v) :
 XIn B L E t v T w ((((w.alloc (qB t v)).alloc (tyO T)).alloc (exO [] (0,false) 0 0 false 0 0 (.slice none 0 0))).alloc (exO zD T 0 0 false t.line t.col (.slice none 0 0))) /\
 XB 1 zD T 0 0 false t (.slice none 0 0) w ((((w.alloc (qB t v)).alloc (tyO T)).alloc (exO [] (0,false) 0 0 false 0 0 (.slice none 0 0))).alloc (exO zD T 0 0 false t.line t.col (.slice none 0 0))):=by
 have b1:=bal (Below.refl w.1.size w) (qB t v);have j:=bal (bal (bal b1 (tyO T)) (exO [] (0,false) 0 0 false 0 0 (.slice none 0 0))) (exO zD T 0 0 false t.line t.col (.slice none 0 0));have r:=fun w:World=>Below.refl w.1.size w
 refine⟨⟨j,by simp,h,(Bx.new t v w).below (bal (bal (bal (r _) _) _) _),?_,?_,hl,hL⟩,?_⟩
 ·have:=(qZ7.new T (w.alloc (qB t v))).below (bal (bal (r _) (exO [] (0,false) 0 0 false 0 0 (.slice none 0 0))) (exO zD T 0 0 false t.line t.col (.slice none 0 0)));simpa using this
 ·have:=(qQf.new [] (0,false) 0 0 false 0 0 (.slice none 0 0) ((w.alloc (qB t v)).alloc (tyO T))).below (bal (r _) (exO zD T 0 0 false t.line t.col (.slice none 0 0)));simpa using this
 ·have:=qQf.new zD T 0 0 false t.line t.col (.slice none 0 0) (((w.alloc (qB t v)).alloc (tyO T)).alloc (exO [] (0,false) 0 0 false 0 0 (.slice none 0 0)));unfold XB;simpa using this
theorem XIn.below{B L:Nat}{E:Env}{t:qQ}{v:Value}{T:Ty}{w W j:World}(h:XIn B L E t v T w W)(hb:Below W.1.size W j):XIn B L E t v T w j :=
 have hs:=h.sz;h.turn (hb.mono (by omega))
theorem XB.set9{k:Nat}{op op':List UInt8}{T T':Ty}{n va n' va':Int}{g g':Bool}{t:qQ}{kv kv':Value}{w W:World}(h:XB k op T n va g t kv w W):XB k op' T' n' va' g' t kv' w (((((((((W.setCell ⟨w.1.size+1+1+k,0,none⟩ (.string ⟨op'.toArray⟩)).setCell ⟨w.1.size+1+1+k,1,none⟩ (.int .i64 T'.1)).setCell ⟨w.1.size+1+1+k,2,none⟩ (.bool T'.2)).setCell ⟨w.1.size+1+1+k,3,none⟩ (.int .u64 n')).setCell ⟨w.1.size+1+1+k,4,none⟩ (.int .i64 va')).setCell ⟨w.1.size+1+1+k,5,none⟩ (.bool g')).setCell ⟨w.1.size+1+1+k,6,none⟩ (.int .i64 t.line)).setCell ⟨w.1.size+1+1+k,7,none⟩ (.int .i64 t.col)).setCell ⟨w.1.size+1+1+k,8,none⟩ kv'):=by
 unfold XB at *;have⟨y,s,h2,h3,h4,C,z,G,A,_⟩:=h.a;have hf:=h.f;generalize w.1.size+1+1+k=N at *;constructor
 case f=>intro j o;have:=hf j o;simp[go_sem, *]
 all_goals simp[go_sem, *]
theorem XB.below{k:Nat}{op:List UInt8}{T:Ty}{n va:Int}{g:Bool}{t:qQ}{kv:Value}{w W j:World}(h:XB k op T n va g t kv w W)(hb:Below W.1.size W j):XB k op T n va g t kv w j:=qQf.below h hb
theorem qU.setN{w:World}{b N o:Nat}{j:List Ex}{v:Value}(h:qU w (fun g=>b<=g) j v)(hN:N < b)(u:Value):qU (w.setCell ⟨N,o,none⟩ u) (fun g=>b<=g) j v :=
 h.move fun g _ hg=>⟨hg,hS w ⟨N,o,none⟩ u g (by simp;omega)⟩
theorem qU.set9{w:World}{b N:Nat}{j:List Ex}{v:Value}(h:qU w (fun g=>b<=g) j v)(hN:N < b)(I C z y s A G o u8:Value) :
 qU (((((((((w.setCell ⟨N,0,none⟩ I).setCell ⟨N,1,none⟩ C).setCell ⟨N,2,none⟩ z).setCell ⟨N,3,none⟩ y).setCell ⟨N,4,none⟩ s).setCell ⟨N,5,none⟩ A).setCell ⟨N,6,none⟩ G).setCell ⟨N,7,none⟩ o).setCell ⟨N,8,none⟩ u8) (fun g=>b<=g) j v :=
 ((((((((h.setN hN _).setN hN _).setN hN _).setN hN _).setN hN _).setN hN _).setN hN _).setN hN _).setN hN _
theorem qK3(E:Env)(k x:List UInt8)(m ln co:Int)(ks:List qQ)(T:Ty):qQT E (.mk k x m ln co ks) T =
 if k == zD then(jQ (decide (T≠zO) && decide (qUl T.1 T.2 m=m)) (.mk k x m ln co ks) 41).bind fun _=>.ok (.mk zD T m 0 false ln co [])
 else if k == zL || k == qH then(jQ (decide (T=zO)) (.mk k x m ln co ks) 41).bind fun _=>.ok (.mk zD T (if k == zL then 1 else 0) 0 false ln co [])
 else if k == zM || k == qL then
  (qQ1 E (.mk k x m ln co ks)).bind fun p=>(jQ (decide (p.ty=T)) (.mk k x m ln co ks) 41).bind fun _ =>
   if ks.length=0 then .ok (p.withKids [])
   else(yB E ks).bind fun u=>(jQ (decide (u≠zO)) (ks.headD (.mk k x m ln co ks)) 41).bind fun _=>(vD E ks u).bind fun es=>.ok (p.withKids es)
 else if k == zK then(jQ (decide (tyL x=T)) (.mk k x m ln co ks) 41).bind fun _=>(yB E ks).bind fun u=>(vD E ks u).bind fun es=>.ok (.mk zK T 0 0 false ln co es)
 else(qQr E (qXs k x) ks T).bind fun u=>(jQ u.2 (.mk k x m ln co ks) 41).bind fun _=>(vD E ks u.1).bind fun es=>.ok (.mk (qXs k x) T 0 0 false ln co es):=by
 conv=>lhs;unfold qQT
theorem exp_bool(k x:List UInt8)(m ln co:Int)(ks:List qQ)(hw:wfE (.mk k x m ln co ks)=true)(h1:(k == zD)=false)(h2:(k == zL || k == qH)=true):qXL (.mk k x m ln co ks):=by
 intro B L E v T w h hL hl;obtain⟨q,c,rfl,m1,g6,X⟩:=hl.kids;have J:=hI (XIn.new (T:=T) h hL hl);have g8:2 < w.1.size:=by
  obtain⟨gv,vv,Mg,Mo,Mr,F,o,cl,hE⟩:=h;exact qJ hE.d0
 obtain⟨hx,⟨m2,g9⟩,m0,d6⟩:=qQs hw;have g7:ks.length<=2:=by rcases d6 with⟨_,h⟩ | ⟨_,h⟩ | ⟨_,_,h⟩ <;> first | omega | simp[h]
 clear h hl X;obtain⟨T0,T1⟩:=T;have HP:=hI (qK3 E k x m ln co ks (T0,T1));have V:=hI (show qQT E (.mk k x m ln co ks) (T0,T1)=(jQ (decide (((T0,T1):Ty)=zO)) (.mk k x m ln co ks) 41).bind fun _=>.ok (.mk zD (T0,T1) (if k == zL then 1 else 0) 0 false ln co []) by rw[HP.o,h1,h2];rfl);clear HP;simp only[qZ,tyV,qB,tyO,exO,qS,zD,qQ.kind,qQ.text,qQ.num,qQ.line,qQ.col,qQ.kids]at J ⊢;unfold zD at h1;unfold zL qH at h2;have Y:=hI (fun w'=>qQl (.mk k x m ln co ks) (.slice q ks.length c) 41 w');have U:=hI (fun w'=>qQ5 (.mk k x m ln co ks) (.slice q ks.length c) 41 w');simp only[qZ,qQ.kind,qQ.text,qQ.num,qQ.line,qQ.col,qQ.kids]at Y U;cases h3:(k == [116,114,117,101]);case false =>
  simp only[h3,bO,bU]at h2;go_enter func134,ntmps134
  go_wp2
  generalize ((((w.alloc _).alloc _).alloc _).alloc _)=W at *;obtain⟨J,O⟩:=J.o;have J:=hI J;have O:=hI O;obtain⟨j,G,s,C,A,z⟩:=J.o.nd.cells;have t0:=J.o.ty.c0;have I:=J.o.ty.c1;obtain⟨gv,vv,Mg,Mo,Mr,F,o,cl,hE⟩:=J.o.en;have d0:=hE.b0;have d1:=hE.b1;have f4:=J.o.sz;have d5:¬w.1.size+1+1+1=w.1.size+1+1:=by omega
  have hG:1 < W.1.size:=qJ d0;clear hE;by_cases hz:T0=1
  ·subst hz;cases T1
   ·skip
    refine wRg (S:=fun w'=>Below W.1.size W w') 4 ?_;refine wTk 0 67 (.agg #[.int .i64 1, .bool false]) ?_ (bD W) ?_
    ·intro _ y;obtain⟨t0,I,d0,d1,j,G,s,C,A,z⟩:=kP10 y t0 I d0 d1 j G s C A z;go_simp
    refine wTk 1 68 (.agg #[.int .i64 1, .bool false]) ?_ (bD W) ?_
    ·intro _ y;obtain⟨t0,I,d0,d1,j,G,s,C,A,z⟩:=kP10 y t0 I d0 d1 j G s C A z;go_simp
    refine wTk 2 69 (.bool true) ?_ (bD W) ?_
    ·intro _ y;obtain⟨t0,I,d0,d1,j,G,s,C,A,z⟩:=kP10 y t0 I d0 d1 j G s C A z;go_simp
    refine wTk 3 70 (.agg #[.string ⟨k.toArray⟩, .string ⟨x.toArray⟩, .int .u64 m, .int .i64 ln, .int .i64 co, .slice q ks.length c]) ?_ (bD W) ?_
    ·intro _ y;obtain⟨t0,I,d0,d1,j,G,s,C,A,z⟩:=kP10 y t0 I d0 d1 j G s C A z;go_simp
    refine wOn 4 fun K X=>?_
    go_simp;refine(Y.o _).mono ?_;rintro e w3 ⟨rfl,hb3⟩;refine kD X ?_;clear X K;refine wDn ?_ _;have R:=zF hb3;have HQ:=hI (show qQT E (.mk k x m ln co ks) (1,false)=.ok (.mk zD (1,false) 0 0 false ln co []) by rw[V.o];simp only[zL,h3];rfl);have J:=hI (J.o.below R);have O:=hI (O.o.below R);clear j G s C A z t0 I d0 d1 hb3 R Y U;obtain⟨j,G,s,C,A,z⟩:=J.o.nd.cells;have⟨r0,r1,r2,r3,r4,r5,r6,r7,r8,_⟩:=J.o.rs.a;have⟨f8,g2,f7,d3,g1,g0,d2,f3,d4,_⟩:=J.o.rs.b;have Z:=O.o;unfold XB at Z;simp only[qQ.line,qQ.col,Nat.add_zero]at Z;have⟨x0,x1,x2,x3,x4,x5,x6,x7,x8,_⟩:=Z.a;have⟨g3,d9,f9,d8,f6,g5,g4,d7,f5,_⟩:=Z.b;clear Z;have rl:=J.o.rs.lt;have xl:=O.o.lt;go_wp2
    refine bodyPost_ret (v:=exV (.mk zD (1,false) 0 0 false ln co []) (.slice none 0 0)) (by simp[results,results134,go_sem,exV,zD,r0,r1,r2,r3,r4,r5,r6,r7,r8,rl]) rfl (zP.okI HQ.o ⟨_,rfl,?_⟩ ?_)
    ·exact qU.mono (qU.set9 (qU.nil _ (fun g=>w.1.size+4<=g)) (by omega) _ _ _ _ _ _ _ _ _) (fun g hg=>by omega)
    ·exact set9 J.o.bl (by omega) _ _ _ _ _ _ _ _ _
   ·skip
    refine wRg (S:=fun w'=>Below W.1.size W w') 4 ?_;refine wTk 0 67 (.agg #[.int .i64 1, .bool true]) ?_ (bD W) ?_
    ·intro _ y;obtain⟨t0,I,d0,d1,j,G,s,C,A,z⟩:=kP10 y t0 I d0 d1 j G s C A z;go_simp
    refine wTk 1 68 (.agg #[.int .i64 1, .bool false]) ?_ (bD W) ?_
    ·intro _ y;obtain⟨t0,I,d0,d1,j,G,s,C,A,z⟩:=kP10 y t0 I d0 d1 j G s C A z;go_simp
    refine wTk 2 69 (.bool false) ?_ (bD W) ?_
    ·intro _ y;obtain⟨t0,I,d0,d1,j,G,s,C,A,z⟩:=kP10 y t0 I d0 d1 j G s C A z;go_simp
    refine wTk 3 70 (.agg #[.string ⟨k.toArray⟩, .string ⟨x.toArray⟩, .int .u64 m, .int .i64 ln, .int .i64 co, .slice q ks.length c]) ?_ (bD W) ?_
    ·intro _ y;obtain⟨t0,I,d0,d1,j,G,s,C,A,z⟩:=kP10 y t0 I d0 d1 j G s C A z;go_simp
    refine wOn 4 fun K X=>?_
    go_simp;refine(U.o _).mono ?_;rintro e w3 ⟨rfl,hb3⟩;exact⟨rfl,zP.badI (by rw[V.o];rfl) ⟨rfl,J.o.bl.trans ((zF hb3).mono J.o.bl.size)⟩⟩
  ·skip
   refine wRg (S:=fun w'=>Below W.1.size W w') 4 ?_;refine wTk 0 67 (.agg #[.int .i64 T0, .bool T1]) ?_ (bD W) ?_
   ·intro _ y;obtain⟨t0,I,d0,d1,j,G,s,C,A,z⟩:=kP10 y t0 I d0 d1 j G s C A z;go_simp
   refine wTk 1 68 (.agg #[.int .i64 1, .bool false]) ?_ (bD W) ?_
   ·intro _ y;obtain⟨t0,I,d0,d1,j,G,s,C,A,z⟩:=kP10 y t0 I d0 d1 j G s C A z;go_simp
   refine wTk 2 69 (.bool false) ?_ (bD W) ?_
   ·intro _ y;obtain⟨t0,I,d0,d1,j,G,s,C,A,z⟩:=kP10 y t0 I d0 d1 j G s C A z;go_simp
   refine wTk 3 70 (.agg #[.string ⟨k.toArray⟩, .string ⟨x.toArray⟩, .int .u64 m, .int .i64 ln, .int .i64 co, .slice q ks.length c]) ?_ (bD W) ?_
   ·intro _ y;obtain⟨t0,I,d0,d1,j,G,s,C,A,z⟩:=kP10 y t0 I d0 d1 j G s C A z;go_simp
   refine wOn 4 fun K X=>?_
   go_simp;refine(U.o _).mono ?_;rintro e w3 ⟨rfl,hb3⟩;exact⟨rfl,zP.badI (by rw[V.o,show decide (((T0,T1):Ty)=zO)=false by simp[zO,hz]];rfl) ⟨rfl,J.o.bl.trans ((zF hb3).mono J.o.bl.size)⟩⟩
 case true =>
  simp only[h3,bO,bU]at h2;go_enter func134,ntmps134
  go_wp2
  generalize ((((w.alloc _).alloc _).alloc _).alloc _)=W at *;obtain⟨J,O⟩:=J.o;have J:=hI J;have O:=hI O;obtain⟨j,G,s,C,A,z⟩:=J.o.nd.cells;have t0:=J.o.ty.c0;have I:=J.o.ty.c1;obtain⟨gv,vv,Mg,Mo,Mr,F,o,cl,hE⟩:=J.o.en;have d0:=hE.b0;have d1:=hE.b1;have f4:=J.o.sz;have d5:¬w.1.size+1+1+1=w.1.size+1+1:=by omega
  have hG:1 < W.1.size:=qJ d0;clear hE;by_cases hz:T0=1
  ·subst hz;cases T1
   ·skip
    refine wRg (S:=fun w'=>Below W.1.size W w') 4 ?_;refine wTk 0 67 (.agg #[.int .i64 1, .bool false]) ?_ (bD W) ?_
    ·intro _ y;obtain⟨t0,I,d0,d1,j,G,s,C,A,z⟩:=kP10 y t0 I d0 d1 j G s C A z;go_simp
    refine wTk 1 68 (.agg #[.int .i64 1, .bool false]) ?_ (bD W) ?_
    ·intro _ y;obtain⟨t0,I,d0,d1,j,G,s,C,A,z⟩:=kP10 y t0 I d0 d1 j G s C A z;go_simp
    refine wTk 2 69 (.bool true) ?_ (bD W) ?_
    ·intro _ y;obtain⟨t0,I,d0,d1,j,G,s,C,A,z⟩:=kP10 y t0 I d0 d1 j G s C A z;go_simp
    refine wTk 3 70 (.agg #[.string ⟨k.toArray⟩, .string ⟨x.toArray⟩, .int .u64 m, .int .i64 ln, .int .i64 co, .slice q ks.length c]) ?_ (bD W) ?_
    ·intro _ y;obtain⟨t0,I,d0,d1,j,G,s,C,A,z⟩:=kP10 y t0 I d0 d1 j G s C A z;go_simp
    refine wOn 4 fun K X=>?_
    go_simp;refine(Y.o _).mono ?_;rintro e w3 ⟨rfl,hb3⟩;refine kD X ?_;clear X K;refine wDn ?_ _;have R:=zF hb3;have HQ:=hI (show qQT E (.mk k x m ln co ks) (1,false)=.ok (.mk zD (1,false) 1 0 false ln co []) by rw[V.o];simp only[zL,h3];rfl);have J:=hI (J.o.below R);have O:=hI (O.o.below R);clear j G s C A z t0 I d0 d1 hb3 R Y U;obtain⟨j,G,s,C,A,z⟩:=J.o.nd.cells;have⟨r0,r1,r2,r3,r4,r5,r6,r7,r8,_⟩:=J.o.rs.a;have⟨f8,g2,f7,d3,g1,g0,d2,f3,d4,_⟩:=J.o.rs.b;have Z:=O.o;unfold XB at Z;simp only[qQ.line,qQ.col,Nat.add_zero]at Z;have⟨x0,x1,x2,x3,x4,x5,x6,x7,x8,_⟩:=Z.a;have⟨g3,d9,f9,d8,f6,g5,g4,d7,f5,_⟩:=Z.b;clear Z;have rl:=J.o.rs.lt;have xl:=O.o.lt;go_wp2
    refine bodyPost_ret (v:=exV (.mk zD (1,false) 1 0 false ln co []) (.slice none 0 0)) (by simp[results,results134,go_sem,exV,zD,r0,r1,r2,r3,r4,r5,r6,r7,r8,rl]) rfl (zP.okI HQ.o ⟨_,rfl,?_⟩ ?_)
    ·exact qU.mono (qU.set9 (qU.setN (qU.nil _ (fun g=>w.1.size+4<=g)) (by omega) _) (by omega) _ _ _ _ _ _ _ _ _) (fun g hg=>by omega)
    ·exact set9 (jR J.o.bl (by omega) _) (by omega) _ _ _ _ _ _ _ _ _
   ·skip
    refine wRg (S:=fun w'=>Below W.1.size W w') 4 ?_;refine wTk 0 67 (.agg #[.int .i64 1, .bool true]) ?_ (bD W) ?_
    ·intro _ y;obtain⟨t0,I,d0,d1,j,G,s,C,A,z⟩:=kP10 y t0 I d0 d1 j G s C A z;go_simp
    refine wTk 1 68 (.agg #[.int .i64 1, .bool false]) ?_ (bD W) ?_
    ·intro _ y;obtain⟨t0,I,d0,d1,j,G,s,C,A,z⟩:=kP10 y t0 I d0 d1 j G s C A z;go_simp
    refine wTk 2 69 (.bool false) ?_ (bD W) ?_
    ·intro _ y;obtain⟨t0,I,d0,d1,j,G,s,C,A,z⟩:=kP10 y t0 I d0 d1 j G s C A z;go_simp
    refine wTk 3 70 (.agg #[.string ⟨k.toArray⟩, .string ⟨x.toArray⟩, .int .u64 m, .int .i64 ln, .int .i64 co, .slice q ks.length c]) ?_ (bD W) ?_
    ·intro _ y;obtain⟨t0,I,d0,d1,j,G,s,C,A,z⟩:=kP10 y t0 I d0 d1 j G s C A z;go_simp
    refine wOn 4 fun K X=>?_
    go_simp;refine(U.o _).mono ?_;rintro e w3 ⟨rfl,hb3⟩;exact⟨rfl,zP.badI (by rw[V.o];rfl) ⟨rfl,J.o.bl.trans ((zF hb3).mono J.o.bl.size)⟩⟩
  ·skip
   refine wRg (S:=fun w'=>Below W.1.size W w') 4 ?_;refine wTk 0 67 (.agg #[.int .i64 T0, .bool T1]) ?_ (bD W) ?_
   ·intro _ y;obtain⟨t0,I,d0,d1,j,G,s,C,A,z⟩:=kP10 y t0 I d0 d1 j G s C A z;go_simp
   refine wTk 1 68 (.agg #[.int .i64 1, .bool false]) ?_ (bD W) ?_
   ·intro _ y;obtain⟨t0,I,d0,d1,j,G,s,C,A,z⟩:=kP10 y t0 I d0 d1 j G s C A z;go_simp
   refine wTk 2 69 (.bool false) ?_ (bD W) ?_
   ·intro _ y;obtain⟨t0,I,d0,d1,j,G,s,C,A,z⟩:=kP10 y t0 I d0 d1 j G s C A z;go_simp
   refine wTk 3 70 (.agg #[.string ⟨k.toArray⟩, .string ⟨x.toArray⟩, .int .u64 m, .int .i64 ln, .int .i64 co, .slice q ks.length c]) ?_ (bD W) ?_
   ·intro _ y;obtain⟨t0,I,d0,d1,j,G,s,C,A,z⟩:=kP10 y t0 I d0 d1 j G s C A z;go_simp
   refine wOn 4 fun K X=>?_
   go_simp;refine(U.o _).mono ?_;rintro e w3 ⟨rfl,hb3⟩;exact⟨rfl,zP.badI (by rw[V.o,show decide (((T0,T1):Ty)=zO)=false by simp[zO,hz]];rfl) ⟨rfl,J.o.bl.trans ((zF hb3).mono J.o.bl.size)⟩⟩
end Go.Proofs.YtiajhekdhhhghaaGreatDoor
