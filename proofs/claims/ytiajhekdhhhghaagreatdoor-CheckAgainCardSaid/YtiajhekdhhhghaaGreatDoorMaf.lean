/- Walks. -/
import Derived.Maps.OwnSet
import Derived.Maps.Views
import Derived.BigQuiet
import Derived.Test.YtiajhekdhhhghaaGreatDoorMae
set_option linter.all false
set_option maxHeartbeats 8000000
set_option maxRecDepth 100000
namespace Go.Proofs.YtiajhekdhhhghaaGreatDoor
open Tryz
open Go.RowKit
def qJv:List (ByteArray×Int×Bool):=[(⟨#[98,111,111,108]⟩,1,false),(⟨#[117,56]⟩,8,false),(⟨#[117,49,54]⟩,16,false),(⟨#[117,51,50]⟩,32,false),(⟨#[117,54,52]⟩,64,false),
 (⟨#[105,56]⟩,8,true),(⟨#[105,49,54]⟩,16,true),(⟨#[105,51,50]⟩,32,true),(⟨#[105,54,52]⟩,64,true)]
def tN(i:Nat):ByteArray:=(qJv.getD i (⟨#[]⟩,0,false)).1
def tW(i:Nat):Int:=(qJv.getD i (⟨#[]⟩,0,false)).2.1
def tS(i:Nat):Bool:=(qJv.getD i (⟨#[]⟩,0,false)).2.2
structure qZo(b off cap:Nat)(w:World):Prop where
 tg:w.cell? ⟨4,0,none⟩=some (.slice (some ⟨b,off,none⟩) 9 cap)
 tn:∀ i,i < 9->w.cell? ⟨b,off+i * 3,none⟩=some (.string (tN i))
 tw:∀ i,i < 9->w.cell? ⟨b,off+i * 3+1,none⟩=some (.int .i64 (tW i))
 ts:∀ i,i < 9->w.cell? ⟨b,off+i * 3+2,none⟩=some (.bool (tS i))
theorem qZo.below{b off cap:Nat}{w w':World}(h:qZo b off cap w)(hb:Below w.1.size w w'):qZo b off cap w' :=
 ⟨kP hb h.tg,fun i hi=>(hb.cell (qJ (h.tn i hi))).trans (h.tn i hi),fun i hi=>(hb.cell (qJ (h.tw i hi))).trans (h.tw i hi),fun i hi=>(hb.cell (qJ (h.ts i hi))).trans (h.ts i hi)⟩
def qKi(w:World):Prop:=∃ b off cap,qZo b off cap w
theorem qKi.below{w w':World}(h:qKi w)(hb:Below w.1.size w w'):qKi w':=by
 obtain⟨b,off,cap,h⟩:=h;exact⟨b,off,cap,h.below hb⟩
theorem qKi.alloc{w:World}(h:qKi w)(o:Obj):qKi (w.alloc o):=h.below ((Below.refl _ _).alloc (Nat.le_refl _) o)
theorem qJ3{w w':World}{o:Obj}(h:Below (w.1.size+1) (w.alloc o) w'):Below w.1.size w w' :=
 ((Below.refl _ _).alloc (Nat.le_refl _) o).trans (h.mono (by omega))
def qQ3(W:Int)(S:Bool):List (ByteArray×Int×Bool)->ByteArray
 | []=>⟨#[]⟩
 | (n,w,s) :: r=>if w=W/\s=S then n else qQ3 W S r
def qZJ(W:Int)(S:Bool):ByteArray:=qQ3 W S qJv
def qJh(s:ByteArray):List (ByteArray×Int×Bool)->Int×Bool×Bool
 | []=>(0,false,false)
 | (n,w,g) :: r=>if n=s then(w,g,true)else qJh s r
def qXr(s:ByteArray):Int×Bool×Bool:=qJh s qJv
theorem qVl(k:Nat)(h:k < 9):qJv.drop k=(tN k,tW k,tS k) :: qJv.drop (k+1):=by
 match k,h with
 | 0,_=>rfl
 | 1,_=>rfl
 | 2,_=>rfl
 | 3,_=>rfl
 | 4,_=>rfl
 | 5,_=>rfl
 | 6,_=>rfl
 | 7,_=>rfl
 | 8,_=>rfl
theorem name_hit{W:Int}{S:Bool}{k:Nat}(h:k < 9)(hw:tW k=W)(hs:tS k=S)(hn:qQ3 W S (qJv.drop k)=qZJ W S):tN k=qZJ W S:=by
 rw[qVl k h]at hn;rw[<-hn,qQ3,if_pos ⟨hw,hs⟩]
theorem qUj{W:Int}{S:Bool}{k:Nat}(h:k < 9)(hw:¬(tW k=W/\tS k=S))(hn:qQ3 W S (qJv.drop k)=qZJ W S):qQ3 W S (qJv.drop (k+1))=qZJ W S:=by
 rw[qVl k h]at hn;rw[<-hn,qQ3,if_neg hw]
theorem name_end{W:Int}{S:Bool}{k:Nat}(h:k<=9)(h':¬k < 9)(hn:qQ3 W S (qJv.drop k)=qZJ W S):(⟨#[]⟩:ByteArray)=qZJ W S:=by
 obtain rfl:k=9:=by omega
 rw[<-hn];rfl
theorem qP7{a b:ByteArray}(h:a=b):Ending.returned (.string a)=.returned (.string b):=by rw[h]
theorem name_at(b off cap:Nat)(W:Int)(S:Bool)(w:World)(ht:qZo b off cap w) :
 Calls prog 180 #[.agg #[.int .i64 W, .bool S]] w fun e w'=>e=.returned (.string (qZJ W S))/\Below w.1.size w w':=by
 have g:=ht.tg;have hz:4 < w.1.size:=qJ g;go_enter func180,ntmps180
 go_wp2
 go_loopw [7] (fun i wr=>∃ k:Nat,k<=9/\i=.int .i64 k/\qQ3 W S (qJv.drop k)=qZJ W S/\Below (w.1.size+1) (w.alloc (.cells #[.int .i64 W, .bool S] 37)) wr) (fun i _=>9 - (intOf i).toNat)
 case atStart=>exact⟨0,Nat.zero_le _,rfl,rfl,Below.refl _ _⟩
 case round =>
  obtain⟨k,hk,rfl,hn,hb⟩:=hrel;have ht1:=(ht.below ((Below.refl _ _).alloc (Nat.le_refl _) (.cells #[.int .i64 W, .bool S] 37))).below (by simp;exact hb);have b0:wr.cell? ⟨w.1.size,0,none⟩=some (.int .i64 W):=(hb.cell (p:=⟨w.1.size,0,none⟩) (by simp)).trans (by simp[go_sem]);have b1:wr.cell? ⟨w.1.size,1,none⟩=some (.bool S):=(hb.cell (p:=⟨w.1.size,1,none⟩) (by simp)).trans (by simp[go_sem]);have hsz:w.1.size < wr.1.size:=by have:=hb.size;simp at this;omega
  have Hn:=hI hn;clear hn g;by_cases hlt:k < 9
  ·have c0:=ht1.tn k hlt;have c1:=ht1.tw k hlt;have c2:=ht1.ts k hlt;clear ht ht1;go_wp2
   ·go_ret;exact⟨qP7 (name_hit hlt ‹_› ‹_› Hn.o),qJ3 (hb.alloc hsz _)⟩
   ·exact⟨⟨k+1,by omega,by go_num,qUj hlt (fun h=>absurd h.2 ‹_›) Hn.o,hb.alloc hsz _⟩,by simp[intOf];omega⟩
   ·exact⟨⟨k+1,by omega,by go_num,qUj hlt (fun h=>absurd h.1 ‹_›) Hn.o,hb.alloc hsz _⟩,by simp[intOf];omega⟩
  ·clear ht ht1;go_wp2
   go_ret;exact⟨qP7 (name_end hk hlt Hn.o),qJ3 hb⟩
theorem name_any(W:Int)(S:Bool)(w:World)(ht:qKi w) :
 Calls prog 180 #[.agg #[.int .i64 W, .bool S]] w fun e w'=>e=.returned (.string (qZJ W S))/\Below w.1.size w w':=by
 obtain⟨b,off,cap,ht⟩:=ht;exact name_at b off cap W S w ht
def rt(W:Int)(S:Bool):Bool:=(W == 1 && !S) || W == 8 || W == 16 || W == 32 || W == 64
theorem qYc{W:Int}{S:Bool}(h:rt W S=true):(W=1/\S=false)\/W=8\/W=16\/W=32\/W=64:=by
 simp[rt]at h;cases S <;> simp_all <;> omega
theorem name_rt(W:Int)(S:Bool):(!(qZJ W S).toList.isEmpty)=rt W S:=by
 by_cases h1:W=1
 ·subst h1;cases S <;> decide +kernel
 by_cases h2:W=8
 ·subst h2;cases S <;> decide +kernel
 by_cases h3:W=16
 ·subst h3;cases S <;> decide +kernel
 by_cases h4:W=32
 ·subst h4;cases S <;> decide +kernel
 by_cases h5:W=64
 ·subst h5;cases S <;> decide +kernel
 have e:qZJ W S=⟨#[]⟩:=by
  simp[qZJ,qQ3,qJv,Ne.symm h1,Ne.symm h2,Ne.symm h3,Ne.symm h4,Ne.symm h5]
 have e2:rt W S=false:=by simp[rt,h1,h2,h3,h4,h5]
 rw[e,e2];decide +kernel
theorem right_any(W:Int)(S:Bool)(w:World)(ht:qKi w) :
 Calls prog 170 #[.agg #[.int .i64 W, .bool S]] w fun e w'=>e=.returned (.bool (rt W S))/\Below w.1.size w w':=by
 have ht1:=ht.alloc (.cells #[.int .i64 W, .bool S] 37);go_enter func170,ntmps170
 go_wp2_with fail
 refine(name_any _ _ _ ht1).mono ?_;rintro e w1 ⟨rfl,hb⟩;have hb':=qJ3 (by simpa using hb);generalize hx:qZJ W S=x at *;have Hx:=hI hx;clear hx hb ht1;go_wp2
 go_ret;exact⟨qQ4 (by rw[<-Hx.o];exact name_rt W S),hb'⟩
def lowF(W v:Int):Int:=v % 2 ^ W.toNat
theorem u64_wrap(n:Int):IntKind.u64.wrap n=n % 18446744073709551616:=by
 simp[IntKind.wrap,IntKind.signed,IntKind.bits]
theorem low_eq{W v:Int}(h:W=1\/W=8\/W=16\/W=32\/W=64)(_hv:0<=v)(_hv1:v < 18446744073709551616):IntKind.u64.wrap (v * 2 ^ (64 - W).toNat) / 2 ^ (64 - W).toNat=lowF W v:=by
 rw[u64_wrap];unfold lowF;rcases h with rfl | rfl | rfl | rfl | rfl
 ·show v * 2 ^ 63 % 18446744073709551616 / 2 ^ 63=v % 2 ^ 1
  omega
 ·show v * 2 ^ 56 % 18446744073709551616 / 2 ^ 56=v % 2 ^ 8
  omega
 ·show v * 2 ^ 48 % 18446744073709551616 / 2 ^ 48=v % 2 ^ 16
  omega
 ·show v * 2 ^ 32 % 18446744073709551616 / 2 ^ 32=v % 2 ^ 32
  omega
 ·show v * 2 ^ 0 % 18446744073709551616 / 2 ^ 0=v % 2 ^ 64
  omega
theorem rt_w{W:Int}{S:Bool}(h:rt W S=true):W=1\/W=8\/W=16\/W=32\/W=64:=by have:=qYc h;omega
theorem low_any(W:Int)(S:Bool)(v:Int)(w:World)(h:rt W S=true)(hv0:0<=v)(hv1:v < 18446744073709551616) :
 Calls prog 171 #[.agg #[.int .i64 W, .bool S], .int .u64 v] w fun e w'=>e=.returned (.int .u64 (lowF W v))/\Below w.1.size w w':=by
 have h0:1<=W:=by have:=qYc h;omega
 have h1:W<=64:=by have:=qYc h;omega
 have H:=hI h;clear h;go_enter func171,ntmps171
 go_wp2
 go_ret;exact⟨qQ6 (low_eq (rt_w H.o) hv0 hv1),(Below.refl _ _).alloc (Nat.le_refl _) _⟩
def qUl(W:Int)(S:Bool)(v:Int):Int:=if rt W S then lowF W v else 0
theorem norm_any(W:Int)(S:Bool)(v:Int)(w:World)(ht:qKi w)(hv0:0<=v)(hv1:v < 18446744073709551616) :
 Calls prog 155 #[.agg #[.int .i64 W, .bool S], .int .u64 v] w fun e w'=>e=.returned (.int .u64 (qUl W S v))/\Below w.1.size w w':=by
 have ht1:=ht.alloc (.cells #[.int .i64 W, .bool S] 37);go_enter func155,ntmps155
 go_wp2_with fail
 refine(right_any _ _ _ ht1).mono ?_;rintro e w1 ⟨rfl,hb⟩;have hc0:w1.cell? ⟨w.1.size,0,none⟩=some (.int .i64 W):=(hb.cell (p:=⟨w.1.size,0,none⟩) (by simp)).trans (by simp[go_sem]);have hc1:w1.cell? ⟨w.1.size,1,none⟩=some (.bool S):=(hb.cell (p:=⟨w.1.size,1,none⟩) (by simp)).trans (by simp[go_sem]);have hb':=qJ3 (by simpa using hb);clear hb ht1;by_cases hr:rt W S=true
 ·have e1:qUl W S v=lowF W v:=if_pos hr;have E1:=hI e1;have HR:=hI hr;clear e1;go_wp2_with fail
  refine(low_any _ _ _ _ HR.o hv0 hv1).mono ?_;rintro e w2 ⟨rfl,hb2⟩;clear hc0 hc1;go_wp2
  go_ret;exact⟨qQ6 E1.o.symm,hb'.trans (hb2.mono hb'.size)⟩
 ·have hr':rt W S=false:=by simpa using hr
  have e1:qUl W S v=0:=if_neg hr;have E1:=hI e1;clear e1 hr;go_wp2
  go_ret;exact⟨qQ6 E1.o.symm,hb'⟩
theorem of_hit{s:ByteArray}{k:Nat}(h:k < 9)(hn:tN k=s)(hr:qJh s (qJv.drop k)=qXr s):qXr s=(tW k,tS k,true):=by
 rw[qVl k h]at hr;rw[<-hr,qJh,if_pos hn]
theorem of_miss{s:ByteArray}{k:Nat}(h:k < 9)(hn:¬tN k=s)(hr:qJh s (qJv.drop k)=qXr s):qJh s (qJv.drop (k+1))=qXr s:=by
 rw[qVl k h]at hr;rw[<-hr,qJh,if_neg hn]
theorem of_end{s:ByteArray}{k:Nat}(h:k<=9)(h':¬k < 9)(hr:qJh s (qJv.drop k)=qXr s):qXr s=(0,false,false):=by
 obtain rfl:k=9:=by omega
 rw[<-hr];rfl
def ofV(r:Int×Bool×Bool):Value:=.tuple #[.agg #[.int .i64 r.1, .bool r.2.1], .bool r.2.2]
theorem ret_of{a b:Int×Bool×Bool}(h:a=b):Ending.returned (ofV a)=.returned (ofV b):=by rw[h]
theorem of_at(b off cap:Nat)(s:ByteArray)(w:World)(ht:qZo b off cap w) :
 Calls prog 120 #[.string s] w fun e w'=>e=.returned (ofV (qXr s))/\Below w.1.size w w':=by
 have g:=ht.tg;have hz:4 < w.1.size:=qJ g;have hsz0:w.1.size≠4:=by omega
 go_enter func120,ntmps120
 go_wp2
 go_loopw [8] (fun i wr=>∃ k:Nat,k<=9/\i=.int .i64 k/\qJh s (qJv.drop k)=qXr s/\Below (w.1.size+1) (w.alloc (.cells #[.int .i64 0, .bool false] 37)) wr) (fun i _=>9 - (intOf i).toNat)
 case atStart=>exact⟨0,Nat.zero_le _,rfl,rfl,Below.refl _ _⟩
 case round =>
  obtain⟨k,hk,rfl,hn,hb⟩:=hrel;have ht1:=(ht.below ((Below.refl _ _).alloc (Nat.le_refl _) (.cells #[.int .i64 0, .bool false] 37))).below (by simp;exact hb);have b0:wr.cell? ⟨w.1.size,0,none⟩=some (.int .i64 0):=(hb.cell (p:=⟨w.1.size,0,none⟩) (by simp)).trans (by simp[go_sem]);have b1:wr.cell? ⟨w.1.size,1,none⟩=some (.bool false):=(hb.cell (p:=⟨w.1.size,1,none⟩) (by simp)).trans (by simp[go_sem]);have f0:wr.frozen? ⟨w.1.size,0,none⟩=false:=(World.frozen?_of_block (hb.block w.1.size (by omega))).trans (by simp[go_sem]);have f1:wr.frozen? ⟨w.1.size,1,none⟩=false:=(World.frozen?_of_block (hb.block w.1.size (by omega))).trans (by simp[go_sem]);have hsz:w.1.size < wr.1.size:=by have:=hb.size;simp at this;omega
  have hne:wr.1.size≠w.1.size:=by omega
  have Hn:=hI hn;have HB:=hI hb;clear hn g hb;by_cases hlt:k < 9
  ·have c0:=ht1.tn k hlt;have c1:=ht1.tw k hlt;have c2:=ht1.ts k hlt;clear ht ht1;go_wp2
   ·have hnm:tN k=s:=ByteArray.ext (Array.toList_inj.1 (by have h:((tN k).toList == s.toList)=true:=‹_›;simpa[Lib.toList_data]using h));have HE:=hI (ret_of (of_hit hlt hnm Hn.o).symm);refine bodyPost_ret (v:=ofV (tW k,tS k,true)) (by simp[results,results120,go_sem,ofV,b0,b1,hne,hne.symm,hsz]) rfl ⟨HE.o,?_⟩;exact((((Below.refl _ _).alloc (Nat.le_refl _) _).trans (HB.o.mono (by omega))).setCell (Nat.le_refl _) _).setCell (Nat.le_refl _) _ |>.alloc (by simp;omega) _
   ·have hnm:¬tN k=s:=fun e=>by have h:((tN k).toList == s.toList)=false:=‹_›;rw[e]at h;simp at h
    exact⟨⟨k+1,by omega,rfl,of_miss hlt hnm Hn.o,HB.o.alloc (by simpa using HB.o.size) _⟩,by simp[intOf];omega⟩
  ·clear ht ht1;go_wp2
   have HE:=hI (ret_of (of_end hk hlt Hn.o).symm);refine bodyPost_ret (v:=ofV (0,false,false)) (by simp[results,results120,go_sem,ofV,b0,b1]) rfl ⟨HE.o,?_⟩;exact((((Below.refl _ _).alloc (Nat.le_refl _) _).trans (HB.o.mono (by omega))).setCell (Nat.le_refl _) _).setCell (Nat.le_refl _) _
theorem of_any(s:ByteArray)(w:World)(ht:qKi w):Calls prog 120 #[.string s] w fun e w'=>e=.returned (ofV (qXr s))/\Below w.1.size w w':=by
 obtain⟨b,off,cap,ht⟩:=ht;exact of_at b off cap s w ht
open Go Go.RowKit
abbrev Ty:=Int×Bool
structure qI where
 name:List UInt8
 t:Ty
 size:Int
inductive Ex where
 | mk (op:List UInt8) (t:Ty) (num var:Int) (glob:Bool) (line col:Int) (kids:List Ex)
inductive Sx where
 | mk (op:List UInt8) (line col:Int) (target exprs:List Ex) (fn:Int) (thn els:List Sx)
structure qQ2 where
 name:List UInt8
 t:Ty
 params:Int
 vars:List qI
 body:List Sx
structure PrD where
 globals:List qI
 funcs:List qQ2
 main:Int
def Ex.ty:Ex->Ty | .mk _ t _ _ _ _ _ _=>t
inductive CR(α:Type) where
 | ok (a:α)
 | bad (ln co code:Int)
def CR.bind{α β:Type}:CR α->(α->CR β)->CR β
 | .ok a,f=>f a
 | .bad ln co code,_=>.bad ln co code
def jQ(b:Bool)(t:qQ)(code:Int):CR Unit:=if b then .ok ()else .bad t.line t.col code
def zO:Ty:=(1,false)
def noT:Ty:=(0,false)
def wideT:Ty:=(64,false)
def tyL(x:List UInt8):Ty:=((qXr ⟨x.toArray⟩).1,(qXr ⟨x.toArray⟩).2.1)
def qMc:List UInt8:=[118,97,114]
def qQP:List (List UInt8×Nat):=[([117,33],0),([38,38],0),([124,124],0),([61,61],1),([33,61],1),([60],2),([60,61],2),([62],2),([62,61],2),
 ([117,45],3),([117,126],3),([43],3),([45],3),([42],3),([47],3),([37],3),([60,60],3),([62,62],3),([38],4),([124],4),([94],4)]
def kE(x:List UInt8):List (List UInt8×Nat)->Option Nat
 | []=>none
 | (y,r) :: l=>if y == x then some r else kE x l
def qXx(x:List UInt8):Option Nat:=kE x qQP
def qYw(x:List UInt8):Bool:=match qXx x with | some r=>decide (r<=2) | none=>false
def qXs(k x:List UInt8):List UInt8:=if k == qT then 117 :: x else x
def qQj(x:List UInt8)(i:Nat):List qI->Option (qI×Nat)
 | []=>none
 | v :: r=>if v.name == x then some (v,i)else qQj x (i+1) r
structure Env where
 gs:List qI
 own:List qI
def qZD(E:Env)(t:qQ):CR (qI×Nat×Bool) :=
 match qQj t.text 0 E.own with
 | some (v,i)=>.ok (v,i,false)
 | none=>match qQj t.text 0 E.gs with
  | some (v,i)=>.ok (v,i,true)
  | none=>.bad t.line t.col 40
section
variable (E:Env)
mutual
def qJu:qQ->CR Ty
 | .mk k x m ln co ks =>
  if k == zD then .ok noT
  else if k == zL || k == qH then .ok zO
  else if k == zM || k == qL then(qZD E (.mk k x m ln co ks)).bind fun r=>.ok r.1.t
  else if k == zK then .ok (tyL x)
  else if qYw (qXs k x)then .ok zO
  else qQu ks
def qQu:List qQ->CR Ty
 | []=>.ok noT
 | t :: r=>(qJu t).bind fun u=>if u=noT then qQu r else .ok u
end
def yB(l:List qQ):CR Ty:=(qQu E l).bind fun u=>.ok (if u=noT then wideT else u)
def qQ1(t:qQ):CR Ex :=
 (qZD E t).bind fun r=>(jQ ((t.kind == qL) == decide (0 < r.1.size)) t 41).bind fun _ =>
  .ok (.mk (if t.kind == qL then qL else qMc) r.1.t 0 r.2.1 r.2.2 t.line t.col [])
def qQr(op:List UInt8)(ks:List qQ)(T:Ty):CR (Ty×Bool) :=
 match qXx op with
 | some 0=>.ok (zO,decide (T=zO))
 | some 1=>if T≠zO then .ok (T,false)else(yB E ks).bind fun u=>.ok (u,true)
 | some 2=>if T≠zO then .ok (T,false)else(yB E ks).bind fun u=>.ok (u,decide (u≠zO))
 | some 3=>.ok (T,decide (T≠zO))
 | _=>.ok (T,true)
def Ex.withKids:Ex->List Ex->Ex | .mk op t n v g l c _,ks=>.mk op t n v g l c ks
mutual
def qQT:qQ->Ty->CR Ex
 | .mk k x m ln co ks,T =>
  if k == zD then(jQ (decide (T≠zO) && decide (qUl T.1 T.2 m=m)) (.mk k x m ln co ks) 41).bind fun _=>.ok (.mk zD T m 0 false ln co [])
  else if k == zL || k == qH then(jQ (decide (T=zO)) (.mk k x m ln co ks) 41).bind fun _=>.ok (.mk zD T (if k == zL then 1 else 0) 0 false ln co [])
  else if k == zM || k == qL then
   (qQ1 E (.mk k x m ln co ks)).bind fun p=>(jQ (decide (p.ty=T)) (.mk k x m ln co ks) 41).bind fun _ =>
    if ks.length=0 then .ok (p.withKids [])
    else(yB E ks).bind fun u=>(jQ (decide (u≠zO)) (ks.headD (.mk k x m ln co ks)) 41).bind fun _=>(vD ks u).bind fun es=>.ok (p.withKids es)
  else if k == zK then(jQ (decide (tyL x=T)) (.mk k x m ln co ks) 41).bind fun _=>(yB E ks).bind fun u=>(vD ks u).bind fun es=>.ok (.mk zK T 0 0 false ln co es)
  else(qQr E (qXs k x) ks T).bind fun u=>(jQ u.2 (.mk k x m ln co ks) 41).bind fun _=>(vD ks u.1).bind fun es=>.ok (.mk (qXs k x) T 0 0 false ln co es)
def vD:List qQ->Ty->CR (List Ex)
 | [],_=>.ok []
 | t :: r,T=>(qQT t T).bind fun e=>(vD r T).bind fun es=>.ok (e :: es)
end
def qQL(ks:List qQ):CR (List Ex) :=
 if ks.length=0 then .ok []
 else(yB E ks).bind fun u=>(jQ (decide (u≠zO)) (ks.headD (.mk [] [] 0 0 0 [])) 41).bind fun _=>vD E ks u
def wJ(t:qQ):CR Ex:=(qQ1 E t).bind fun p=>(qQL E t.kids).bind fun es=>.ok (p.withKids es)
def wM:List qQ->List qI->CR (List Ex)
 | [],_=>.ok []
 | t :: r,vs=>(qQT E t (vs.headD ⟨[],noT,0⟩).t).bind fun e=>(wM r vs.tail).bind fun es=>.ok (e :: es)
end
structure kI where
 name:List UInt8
 t:Ty
 params:List qI
def qQN(x:List UInt8)(i:Nat):List kI->Option (kI×Nat)
 | []=>none
 | v :: r=>if v.name == x then some (v,i)else qQN x (i+1) r
def wI(fs:List kI)(t:qQ):CR (kI×Nat) :=
 match qQN t.text 0 fs with
 | some (h,i)=>(jQ (decide (t.kids.length=h.params.length)) t 43).bind fun _=>.ok (h,i)
 | none=>.bad t.line t.col 40
def qZr(t:qQ):qI:=⟨t.text,tyL ((t.kids.headD (.mk [] [] 0 0 0 [])).text),0⟩
def qJJ(own:List qI)(t:qQ):CR (List qI) :=
 (jQ (qQj t.text 0 own).isNone t 40).bind fun _=>(jQ (decide (own.length < 64)) t 45).bind fun _=>.ok (own++[qZr t])
section
variable (gs:List qI) (fs:List kI) (ret:Ty)
def kid(ks:List qQ)(i:Nat):qQ:=ks.getD i (.mk [] [] 0 0 0 [])
mutual
def stC:qQ->List qI->CR (Sx×List qI)
 | .mk k x m ln co ks,own =>
  if k == qP then(wJ ⟨gs,own⟩ (kid ks 0)).bind fun a=>(qQT ⟨gs,own⟩ (kid ks 1) a.ty).bind fun e=>.ok (.mk k ln co [a] [e] 0 [] [],own)
  else if k == qW then(wJ ⟨gs,own⟩ (kid ks 0)).bind fun a=>.ok (.mk k ln co [a] [] 0 [] [],own)
  else if k == zW then(wI fs (.mk k x m ln co ks)).bind fun h=>(wM ⟨gs,own⟩ ks h.1.params).bind fun es=>.ok (.mk k ln co [] es h.2 [] [],own)
  else if k == qN then(wJ ⟨gs,own⟩ (kid ks 0)).bind fun a=>(wI fs (kid ks 1)).bind fun h=>(jQ (decide (h.1.t=a.ty)) (kid ks 1) 41).bind fun _ =>
   (wM ⟨gs,own⟩ (kid ks 1).kids h.1.params).bind fun es=>.ok (.mk zW ln co [a] es h.2 [] [],own)
  else if k == qV then(jQ (decide (ret=noT) == decide (ks.length=0)) (.mk k x m ln co ks) 41).bind fun _=>(vD ⟨gs,own⟩ ks ret).bind fun es=>.ok (.mk k ln co [] es 0 [] [],own)
  else match ks with
   | []=>.ok (.mk k ln co [] [] 0 [] [],own)
   | [a]=>(qQT ⟨gs,own⟩ a zO).bind fun e=>.ok (.mk k ln co [] [e] 0 [] [],own)
   | [a,b]=>(qQT ⟨gs,own⟩ a zO).bind fun e=>(blC b own).bind fun r=>.ok (.mk k ln co [] [e] 0 r.1 [],r.2)
   | a :: b :: c :: _=>(qQT ⟨gs,own⟩ a zO).bind fun e=>(blC b own).bind fun r=>(blC c r.2).bind fun q=>.ok (.mk k ln co [] [e] 0 r.1 q.1,q.2)
def blC:qQ->List qI->CR (List Sx×List qI)
 | .mk _ _ _ _ _ ks,own=>qXJ ks own
def qXJ:List qQ->List qI->CR (List Sx×List qI)
 | [],own=>.ok ([],own)
 | t :: r,own =>
  if t.kind == qE then(qJJ own t).bind fun own'=>qXJ r own'
  else(stC t own).bind fun s=>(qXJ r s.2).bind fun q=>.ok (s.1 :: q.1,q.2)
end
end
/-! ### The heads -/
structure HdS where
 gs:List qI
 fs:List kI
def yV(l:List qI):Int:=(l.map fun v=>max v.size 1).foldl (·+·) 0
def yF(S:HdS)(t:qQ):CR Unit:=jQ ((qQj t.text 0 S.gs).isNone && (qQN t.text 0 S.fs).isNone) t 40
def qZ9(S:HdS)(t:qQ):CR HdS :=
 let last:=t.kids.getLastD (.mk [] [] 0 0 0 [])
 let fits:=!(last.kind == zD) || (decide (1<=last.num) && decide (last.num<=16))
 let v:qI:={ qZr t with size:=if fits then last.num else 0 }
 (jQ (!fits || decide (yV S.gs+max v.size 1<=64)) t 45).bind fun _=>(yF S t).bind fun _=>(jQ fits last 42).bind fun _=>.ok { S with gs:=S.gs++[v] }
def yH:List qQ->List qI->CR (List qI)
 | [],acc=>.ok acc
 | t :: r,acc=>(jQ (decide (acc.length < 64)) t 45).bind fun _=>(jQ (qQj t.text 0 acc).isNone t 40).bind fun _=>yH r (acc++[qZr t])
def wF(S:HdS)(t:qQ):CR HdS :=
 (jQ (decide (S.fs.length < 16)) t 45).bind fun _=>(yF S t).bind fun _ =>
  (yH (t.kids.dropLast.drop 1) []).bind fun ps=>.ok { S with fs:=S.fs++[⟨t.text,tyL ((t.kids.headD (.mk [] [] 0 0 0 [])).text),ps⟩] }
def yS:List qQ->HdS->CR HdS
 | [],S=>.ok S
 | t :: r,S=>(if t.kind == qC then wF S t else qZ9 S t).bind fun S'=>yS r S'
def vG(gs:List qI)(fs:List kI):List qQ->List kI->CR (List qQ2)
 | [],_=>.ok []
 | t :: r,hs =>
  if t.kind == qC then
   match hs with
   | []=>.ok []
   | h :: hs=>(blC gs fs h.t (t.kids.getLastD (.mk [] [] 0 0 0 [])) h.params).bind fun b=>(vG gs fs r hs).bind fun l=>.ok (⟨h.name,h.t,h.params.length,b.2,b.1⟩ :: l)
  else vG gs fs r hs
def qZf:List UInt8:=[109,97,105,110]
def qZb(t:qQ):CR PrD :=
 (yS t.kids ⟨[],[]⟩).bind fun S=>(vG S.gs S.fs t.kids S.fs).bind fun l =>
  match qQN qZf 0 S.fs with
  | some (h,i)=>if h.params.length=0 then .ok ⟨S.gs,l,i⟩else .bad 0 0 44
  | none=>.bad 0 0 44
def xO(ln co code:Int):Value:=.iface 97 (.agg #[.int .i64 ln, .int .i64 co, .int .i64 code])
def CPan(ln co code:Int)(w:World)(e:Ending)(w':World):Prop :=
 e=.panicked [{ v:=xO ln co code,recovered:=false }]/\Below w.1.size w w'
def Bx(N:Nat)(t:qQ)(v:Value)(w:World):Prop:=w.1[N]? = some (.cells (qS t v).toArray 57)
theorem qZF{w:World}{b:Nat}{o:Obj}(h:w.1[b]? = some o):b < w.1.size:=by
 rcases Nat.lt_or_ge b w.1.size with h' | h'
 ·exact h'
 ·rw[Array.getElem?_eq_none h']at h;cases h
section
variable {N:Nat} {t:qQ} {v:Value} {w w':World}
theorem Bx.new(t:qQ)(v:Value)(w:World):Bx w.1.size t v (w.alloc (.cells (qS t v).toArray 57)):=vL _ _
theorem Bx.lt(h:Bx N t v w):N < w.1.size:=qZF h
theorem Bx.below(h:Bx N t v w)(hb:Below w.1.size w w'):Bx N t v w':=(hb.block N h.lt).trans h
theorem Bx.cells{k x:List UInt8}{m ln co:Int}{ks:List qQ}(h:Bx N (.mk k x m ln co ks) v w) :
 w.cell? ⟨N,0,none⟩=some (.string ⟨k.toArray⟩)/\w.cell? ⟨N,1,none⟩=some (.string ⟨x.toArray⟩)/\w.cell? ⟨N,2,none⟩=some (.int .u64 m)/\w.cell? ⟨N,3,none⟩=some (.int .i64 ln)/\w.cell? ⟨N,4,none⟩=some (.int .i64 co)/\w.cell? ⟨N,5,none⟩=some v:=by
 refine⟨?_,?_,?_,?_,?_,?_⟩ <;> (rw[Lib.cell_of_heap h];rfl)
theorem bal(h:Below w.1.size w w')(o:Obj):Below w.1.size w (w'.alloc o):=h.alloc h.size o
end
theorem yP(s:ByteArray)(w:World)(hs:s.size<=1000000) :
 Calls prog 18 #[.string s] w fun e w'=>e=.returned (.string s)/\Below w.1.size w w':=by
 have H:=hI (Tryz.stringslite_Clone s w (by omega));go_enter func18,ntmps18
 go_wp2_with (go_at_call 38;refine(H.o).mono ?_;rintro e w' ⟨rfl,hb⟩)
 go_ret;exact⟨rfl,hb⟩
theorem qQl(t:qQ)(v:Value)(code:Int)(w:World) :
 Calls prog 88 #[.bool true,qZ t v, .int .i64 code] w fun e w'=>e=.returned (.tuple #[])/\Below w.1.size w w':=by
 obtain⟨k,x,m,ln,co,ks⟩:=t;simp only[qZ,qQ.kind,qQ.text,qQ.num,qQ.line,qQ.col,qQ.kids];go_enter func88,ntmps88
 go_wp2
 go_end0;exact⟨rfl,bal (Below.refl _ _) _⟩
theorem qQ5(t:qQ)(v:Value)(code:Int)(w:World) :
 Calls prog 88 #[.bool false,qZ t v, .int .i64 code] w (CPan t.line t.col code w):=by
 obtain⟨k,x,m,ln,co,ks⟩:=t;simp only[qZ,qQ.kind,qQ.text,qQ.num,qQ.line,qQ.col,qQ.kids];unfold CPan xO;go_enter func88,ntmps88
 go_wp2
 exact⟨rfl,rfl,bal (Below.refl _ _) _⟩
theorem qQk(b:Bool)(t:qQ)(v:Value)(code:Int)(w:World) :
 Calls prog 88 #[.bool b,qZ t v, .int .i64 code] w fun e w'=>(b=true/\e=.returned (.tuple #[])/\Below w.1.size w w')\/(b=false/\CPan t.line t.col code w e w'):=by
 cases b
 ·exact(qQ5 t v code w).mono fun e w' h=>.inr ⟨rfl,h⟩
 ·exact(qQl t v code w).mono fun e w' h=>.inl ⟨rfl,h⟩
def tyV(T:Ty):Value:=.agg #[.int .i64 T.1, .bool T.2]
theorem qKd(t:qQ)(v:Value)(w:World)(ht:qKi w) :
 Calls prog 99 #[qZ t v] w fun e w'=>e=.returned (tyV (tyL t.text))/\Below w.1.size w w':=by
 obtain⟨k,x,m,ln,co,ks⟩:=t;simp only[qZ,qQ.kind,qQ.text,qQ.num,qQ.line,qQ.col,qQ.kids];have H:=hI (of_any ⟨x.toArray⟩);have HT:=hI ((ht.alloc (.cells #[.string ⟨k.toArray⟩, .string ⟨x.toArray⟩, .int .u64 m, .int .i64 ln, .int .i64 co,v] 57)).alloc (.cells #[.int .i64 0, .bool false] 37));clear ht;go_enter func99,ntmps99
 go_wp2_with fail
 refine(H.o _ HT.o).mono ?_;rintro e w1 ⟨rfl,hb⟩;have hsz:=hb.size;simp at hsz;have HB:=hI ((bal (bal (Below.refl w.1.size w) (.cells #[.string ⟨k.toArray⟩, .string ⟨x.toArray⟩, .int .u64 m, .int .i64 ln, .int .i64 co,v] 57)) (.cells #[.int .i64 0, .bool false] 37)).trans (hb.mono (by simp;omega)));have b0:w1.cell? ⟨w.1.size+1,0,none⟩=some (.int .i64 0):=(hb.cell (p:=⟨w.1.size+1,0,none⟩) (by simp)).trans (by simp[go_sem]);have b1:w1.cell? ⟨w.1.size+1,1,none⟩=some (.bool false):=(hb.cell (p:=⟨w.1.size+1,1,none⟩) (by simp)).trans (by simp[go_sem]);have f0:w1.frozen? ⟨w.1.size+1,0,none⟩=false:=(hb.frozen (p:=⟨w.1.size+1,0,none⟩) (by simp)).trans (by simp[go_sem]);have f1:w1.frozen? ⟨w.1.size+1,1,none⟩=false:=(hb.frozen (p:=⟨w.1.size+1,1,none⟩) (by simp)).trans (by simp[go_sem]);have hlt:w.1.size+1 < w1.1.size:=by omega
 have hne:¬w1.1.size=w.1.size+1:=by omega
 clear hb H HT;unfold ofV;go_wp2
 refine bodyPost_ret (v:=tyV (tyL x)) (by simp[results,results99,go_sem,tyV,tyL,b0,b1,hne,hlt]) rfl ⟨rfl,?_⟩;exact bal ((HB.o.setCell (p:=⟨w.1.size+1,0,none⟩) (by simp) _).setCell (p:=⟨w.1.size+1,1,none⟩) (by simp) _) _
theorem qVy(x:ByteArray)(W:Int)(S:Bool)(n:Int)(w:World) :
 Calls prog 27 #[.agg #[.string x, .int .i64 W, .bool S, .int .i64 n]] w fun e w'=>e=.returned (.int .i64 (max n 1))/\Below w.1.size w w':=by
 go_enter func27,ntmps27
 go_wp2
 go_ret;exact⟨rfl,bal (Below.refl _ _) _⟩
theorem qVe(t:qQ)(v:Value)(w:World)(hx:t.text.length<=1000000) :
 Calls prog 132 #[qZ t v] w fun e w'=>e=.returned (.string ⟨(qXs t.kind t.text).toArray⟩)/\Below w.1.size w w':=by
 obtain⟨k,x,m,ln,co,ks⟩:=t;simp only[qZ,qQ.kind,qQ.text,qQ.num,qQ.line,qQ.col,qQ.kids]at *;have H:=hI (yP ⟨x.toArray⟩ (w.alloc (.cells #[.string ⟨k.toArray⟩, .string ⟨x.toArray⟩, .int .u64 m, .int .i64 ln, .int .i64 co,v] 57)) (by simpa[ByteArray.size]using hx));cases hk:(k == qT)
 ·have HK:=hI hk;unfold qT at hk;go_enter func132,ntmps132
  go_wp2_with fail
  refine(H.o).mono ?_;rintro e w1 ⟨rfl,hb⟩;have hB:=(bal (Below.refl w.1.size w) _).trans (hb.mono (by simp));go_wp2
  go_ret;exact⟨by simp only[qXs,HK.o];rfl,hB⟩
 ·have HK:=hI hk;unfold qT at hk;go_enter func132,ntmps132
  go_wp2
  go_ret;exact⟨by simp only[qXs,HK.o];rfl,bal (Below.refl _ _) _⟩
open Go Go.RowKit Go.Maps Go.WideMaps
def qZc(x:List UInt8)(i:Nat):List (List UInt8)->Option Nat
 | []=>none
 | y :: r=>if y == x then some i else qZc x (i+1) r
theorem qJP{x:List UInt8}:∀ {L:List (List UInt8)} {i:Nat},qZc x i L=none->qZc x i (L++[x])=some (i+L.length)
 | [],i,_=>by simp[qZc]
 | y :: r,i,h=>by
  rw[qZc]at h;split at h
  ·cases h
  ·rename_i hy;rw[lC,qZc,if_neg hy,qJP h];simp only[lO];congr 1;omega
theorem qJp{x y:List UInt8}(hne:y≠x):∀ {L:List (List UInt8)} {i:Nat},qZc x i (L++[y])=qZc x i L
 | [],i=>by simp[qZc,hne]
 | z :: r,i=>by
  rw[lC,qZc,qZc,qJp hne]
def qVh(x:List UInt8)(L:List (List UInt8)):Bool:=(qZc x 0 L).isSome
def qVi(x:List UInt8)(L:List (List UInt8)):Int:=((qZc x 0 L).getD 0:Nat)
theorem Tryz.strKey:Keyed prog 9:=string_keyed underlying9
theorem zero3(w:World):(zeroValue 3).run prog w=.ok (.int .i64 0) w:=by kernel_rfl
abbrev NMapD:=DataW Unit
def i64D(n:Int):NMapD:=.lit (.int .i64 n)
def wY(w:World)(b:Nat)(L:List (List UInt8)):Prop :=
 ∃ D:NMapD,w.ownsMap prog 9 (plainElem prog 3) b L.length D/\IsMap D /\
  ∀ x,(qZc x 0 L=none->has D (.string x)=false)/\∀ i,qZc x 0 L=some i->has D (.string x)=true/\∀ z,D.atKey (.string x) z=i64D i
theorem wY.lt{w:World}{b:Nat}{L:List (List UInt8)}(h:wY w b L):b < w.1.size:=by
 obtain⟨D,h1,_⟩:=h;exact h1.lt
theorem wY.kept{w w':World}{b:Nat}{L:List (List UInt8)}(h:wY w b L)(hb:w'.1[b]? = w.1[b]?):wY w' b L:=by
 obtain⟨D,⟨es,c,h1,h2⟩,h3⟩:=h;exact⟨D,⟨es,c,hb.trans h1,h2⟩,h3⟩
theorem wY.below{w w':World}{b:Nat}{L:List (List UInt8)}(h:wY w b L)(hb:Below w.1.size w w'):wY w' b L:=h.kept (hb.block b h.lt)
theorem wY.made(w:World):wY (w.alloc (.map #[] 0)) w.1.size [] :=
 ⟨.map [],World.ownsMap_made w _ _ _,isMap_empty,fun x=>⟨fun _=>rfl,fun i h=>by simp[qZc]at h⟩⟩
theorem wY.look{w:World}{b:Nat}{L:List (List UInt8)}(h:wY w b L)(x:List UInt8)(hx:x.length<=maxLen) :
 (Instr.lookup 117 (.map (some b)) (.string ⟨x.toArray⟩) true).run prog w=.ok (.tuple #[.int .i64 (qVi x L), .bool (qVh x L)]) w:=by
 obtain⟨D,h1,h2,h3⟩:=h;have hkey:keyOf prog 9 (.string ⟨x.toArray⟩)=some (.string x):=keyOf_string_mk underlying9 (by simpa[ByteArray.size]using hx);obtain⟨v,ps,hrun,hv⟩:=h1.look_ok Tryz.strKey underlying117 (zero3 w) (plainElem_int underlying3 (a:=0) (by decide)) hkey;obtain⟨c,rfl,hc,_⟩:=plainElem_int_inv underlying3 hv;simp only[Prod.mk.injEq]at hc;rw[hrun];unfold qVi qVh;cases hp:qZc x 0 L with
 | none =>
  have hn:=(h3 x).1 hp;rw[hn];have:=atKey_of_not_has hn (.lit (.int .i64 0):NMapD);rw[this]at hc;have hc0:=hc.1;simp at hc0;subst hc0;rfl
 | some i =>
  obtain⟨hn,ha⟩:=(h3 x).2 i hp;rw[hn];rw[ha]at hc;have hc0:=hc.1;simp only[i64D,DataW.lit.injEq,Lit.int.injEq]at hc0;rw[<-hc0.2];rfl
theorem wY.store{w:World}{b:Nat}{L:List (List UInt8)}(h:wY w b L)(x:List UInt8)(hx:x.length<=maxLen)(hn:qZc x 0 L=none)(hl:L.length < 1000000) :
 ∃ w',(Instr.mapUpdate 117 (.map (some b)) (.string ⟨x.toArray⟩) (.int .i64 L.length)).run prog w=.ok () w'/\wY w' b (L++[x])/\w.grownBy w' (some b):=by
 obtain⟨D,h1,h2,h3⟩:=h;have hkey:keyOf prog 9 (.string ⟨x.toArray⟩)=some (.string x):=keyOf_string_mk underlying9 (by simpa[ByteArray.size]using hx);obtain⟨w',hrun,hown,hg⟩:=h1.update Tryz.strKey underlying117 (by unfold maxLen;omega) hkey (plainElem_int underlying3 (a:=(L.length:Int)) (by simp[Lit.wf,IntKind.min,IntKind.max,IntKind.signed,IntKind.bits];omega));refine⟨w',hrun,⟨_,by simpa using hown,h2.put _ _,fun y=>?_⟩,hg⟩;by_cases hy:x=y
 ·subst hy;rw[qJP hn];refine⟨fun e=>by(cases e),fun i e=>?_⟩;injection e with e;subst e;exact⟨has_put_same (k:=.string x) h2 trivial _,fun z=>by rw[atKey_put_same (k:=.string x) h2 trivial];simp[i64D]⟩
 ·rw[qJp hy];have hne:(Lit.string y)≠.string x:=fun e=>hy (Lit.string.inj e).symm
  rw[has_put_other hne];refine⟨(h3 y).1,fun i e=>⟨((h3 y).2 i e).1,fun z=>by rw[atKey_put_other hne];exact((h3 y).2 i e).2 z⟩⟩
theorem qZI{x:List UInt8}:∀ {L:List qI} {i:Nat},(qQj x i L=none↔qZc x i (L.map (·.name))=none)/\∀ v j,qQj x i L=some (v,j)->qZc x i (L.map (·.name))=some j/\L[j - i]? = some v/\i<=j
 | [],i=>by simp[qQj,qZc]
 | u :: r,i=>by
  simp only[List.map_cons,qQj,qZc];by_cases hu:(u.name == x)=true
  ·simp only[hu,if_true];refine⟨by simp,fun v j h=>?_⟩;simp only[Option.some.injEq,Prod.mk.injEq]at h;obtain⟨rfl,rfl⟩:=h;simp
  ·simp only[hu,if_false,bF];refine⟨qZI.1,fun v j h=>?_⟩;obtain⟨h1,h2,h3⟩:=qZI.2 v j h;refine⟨h1,?_,by omega⟩;rw[show j - i=(j - (i+1))+1 by omega,List.getElem?_cons_succ];exact h2
theorem qX1{x:List UInt8}:∀ {L:List kI} {i:Nat},(qQN x i L=none↔qZc x i (L.map (·.name))=none)/\∀ v j,qQN x i L=some (v,j)->qZc x i (L.map (·.name))=some j/\L[j - i]? = some v/\i<=j
 | [],i=>by simp[qQN,qZc]
 | u :: r,i=>by
  simp only[List.map_cons,qQN,qZc];by_cases hu:(u.name == x)=true
  ·simp only[hu,if_true];refine⟨by simp,fun v j h=>?_⟩;simp only[Option.some.injEq,Prod.mk.injEq]at h;obtain⟨rfl,rfl⟩:=h;simp
  ·simp only[hu,if_false,bF];refine⟨qX1.1,fun v j h=>?_⟩;obtain⟨h1,h2,h3⟩:=qX1.2 v j h;refine⟨h1,?_,by omega⟩;rw[show j - i=(j - (i+1))+1 by omega,List.getElem?_cons_succ];exact h2
/-! ### Operators and their rules -/
structure vE where
 c:Nat      -- the variable that holds the checker
 eq:Nat     -- the variable that holds what tells of equality
def qUZ(c:vE):Nat->Value
 | 0=>.func (.func 78) #[] #[]
 | 1=>.func (.func 81) #[] #[.pointer (some ⟨c.c,0,none⟩)]
 | 2=>.func (.func 83) #[] #[.pointer (some ⟨c.eq,0,none⟩)]
 | 3=>.func (.func 79) #[] #[]
 | _=>.func (.func 80) #[] #[]
def qKr(c:vE)(r:Nat):Value:=.agg #[.bool (decide (r<=2)),qUZ c r]
def qWY(v:Value):Option (DataW Value×List MemPlace):=some (.held v,[])
def qJs(w:World)(b:Nat)(c:vE):Prop :=
 ∃ (n:Nat) (D:DataW Value),w.ownsMap prog 9 qWY b n D/\n<=100/\∀ x r,qXx x=some r->∀ z,D.atKey (.string x) z=.held (qKr c r)
theorem qJs.lt{w:World}{b:Nat}{c:vE}(h:qJs w b c):b < w.1.size:=by
 obtain⟨n,D,h1,_⟩:=h;exact h1.lt
theorem qJs.below{w w':World}{b:Nat}{c:vE}(h:qJs w b c)(hb:Below w.1.size w w'):qJs w' b c:=by
 obtain⟨n,D,⟨es,k,h1,h2⟩,h3⟩:=h;exact⟨n,D,⟨es,k,(hb.block b (qZF h1)).trans h1,h2⟩,h3⟩
theorem zero140(w:World):(zeroValue 140).run prog w=.ok (.agg #[.bool false, .nilFunc]) w:=by kernel_rfl
theorem qJs.look{w:World}{b:Nat}{c:vE}(h:qJs w b c){x:List UInt8}{r:Nat}(hr:qXx x=some r)(hx:x.length<=maxLen) :
 (Instr.lookup 118 (.map (some b)) (.string ⟨x.toArray⟩) false).run prog w=.ok (qKr c r) w:=by
 obtain⟨n,D,h1,_,h3⟩:=h;have hkey:keyOf prog 9 (.string ⟨x.toArray⟩)=some (.string x):=keyOf_string_mk underlying9 (by simpa[ByteArray.size]using hx);obtain⟨v,ps,hrun,hv⟩:=h1.lookup Tryz.strKey underlying118 (zero140 w) (by rfl) hkey;rw[hrun];rw[h3 x r hr]at hv;simp only[qWY,Option.some.injEq,Prod.mk.injEq,DataW.held.injEq]at hv;rw[hv.1]
def xD{α:Type}(f:α->List Value):List α->List Value
 | []=>[]
 | a :: r=>f a++xD f r
theorem qVB{α:Type}{f:α->List Value}{n:Nat}(hf:∀ a,(f a).length=n):∀ L:List α,(xD f L).length=L.length * n
 | []=>by simp[xD]
 | a :: r=>by rw[xD,lL,hf,qVB hf r,lO,Nat.add_mul];omega
theorem qZt{α:Type}(f:α->List Value):∀ L M:List α,xD f (L++M)=xD f L++xD f M
 | [],M=>rfl
 | a :: r,M=>by rw[lC,xD,xD,qZt f r M,List.append_assoc]
theorem qPD{α:Type}{f:α->List Value}{n:Nat}(hf:∀ a,(f a).length=n):∀ (L:List α) (i k:Nat) (hi:i < L.length),k < n->(xD f L)[i * n+k]? = (f L[i])[k]?
 | a :: r,0,k,_,hk=>by
  rw[xD,Nat.zero_mul,Nat.zero_add,List.getElem?_append_left (by rw[hf];exact hk)];rfl
 | a :: r,i+1,k,hi,hk=>by
  rw[xD,List.getElem?_append_right (by rw[hf,Nat.add_mul];omega)];have e:(i+1) * n+k - (f a).length=i * n+k:=by rw[hf,Nat.add_mul];omega
  rw[e];exact qPD hf r i k (by simpa using hi) hk
 | [],i,_,hi,_=>by simp at hi
theorem qQm{α:Type}{f:α->List Value}{n:Nat}(hf:∀ a,(f a).length=n){w:World}{base T:Nat}{v:Value}{L:List α}{g:Nat}(h:w.ownsRow base T n v L.length (xD f L))(hg:v.ownBlock=some g)
 {i k:Nat} (hi:i < L.length) (hk:k < n) {u:Value} (hu:(f L[i])[k]? = some u):w.cell? ⟨g,i * n+k,none⟩=some u:=by
 have:=h.cells hg (i * n+k) u (by rw[qPD hf L i k hi hk];exact hu);rw[Lib.add_plain,Nat.zero_add]at this;exact this
def qQe(v:qI):List Value:=[.string ⟨v.name.toArray⟩, .int .i64 v.t.1, .bool v.t.2, .int .i64 v.size]
def qXK(v:qI):Value:=.agg #[.string ⟨v.name.toArray⟩, .int .i64 v.t.1, .bool v.t.2, .int .i64 v.size]
theorem qJ0(v:qI):(qQe v).length=4:=rfl
def qQI(w:World)(base:Nat)(L:List qI)(v:Value):Prop:=w.ownsRow base 42 4 v L.length (xD qQe L)
def exC:Ex->Value->List Value
 | .mk op t n va g l c _,v=>[.string ⟨op.toArray⟩, .int .i64 t.1, .bool t.2, .int .u64 n, .int .i64 va, .bool g, .int .i64 l, .int .i64 c,v]
def exV:Ex->Value->Value
 | .mk op t n va g l c _,v=>.agg #[.string ⟨op.toArray⟩, .int .i64 t.1, .bool t.2, .int .u64 n, .int .i64 va, .bool g, .int .i64 l, .int .i64 c,v]
def Ex.kids:Ex->List Ex | .mk _ _ _ _ _ _ _ ks=>ks
theorem exC_len(e:Ex)(v:Value):(exC e v).length=9:=by cases e;rfl
def qVM:List Ex->List Value->List Value
 | t :: ts,v :: vs=>exC t v++qVM ts vs
 | _,_=>[]
mutual
def qQF(w:World)(ok:Nat->Prop):Ex->Value->Prop
 | .mk _ _ _ _ _ _ _ kids,v=>∃ vs,(∀ g,v.ownBlock=some g->ok g)/\w.ownsRow 0 76 9 v kids.length (qVM kids vs)/\yN w ok kids vs
def yN(w:World)(ok:Nat->Prop):List Ex->List Value->Prop
 | [],[]=>True
 | t :: ts,v :: vs=>qQF w ok t v/\yN w ok ts vs
 | _,_=>False
end
def qU(w:World)(ok:Nat->Prop)(es:List Ex)(v:Value):Prop:=∃ vs,(∀ g,v.ownBlock=some g->ok g)/\w.ownsRow 0 76 9 v es.length (qVM es vs)/\yN w ok es vs
theorem qVr{w:World}{ok:Nat->Prop}(e:Ex)(v:Value):qQF w ok e v↔qU w ok e.kids v:=by
 cases e;rw[qQF];exact Iff.rfl
theorem zU{w w':World}{base T size n:Nat}{v:Value}{xs:List Value}(h:w.ownsRow base T size v n xs)(hm:∀ g,v.ownBlock=some g->w'.1[g]? = w.1[g]?):w'.ownsRow base T size v n xs:=by
 refine⟨h.1,?_⟩;rcases h.2 with h | ⟨g,cap,cur,rfl,hb,hgg,rest⟩
 ·exact .inl h
 ·exact .inr ⟨g,cap,cur,rfl,hb,(hm g rfl).trans hgg,rest⟩
mutual
theorem qQF.move{w w':World}{ok ok':Nat->Prop}(hm:∀ g,g < w.1.size->ok g->ok' g/\w'.1[g]? = w.1[g]?):∀ (t:Ex) (v:Value),qQF w ok t v->qQF w' ok' t v
 | .mk _ _ _ _ _ _ _ kids,v,h=>by
  obtain⟨vs,h1,h2,h3⟩:=h;exact⟨vs,fun g hg=>(hm g (h2.lt g hg).2 (h1 g hg)).1,zU h2 (fun g hg=>(hm g (h2.lt g hg).2 (h1 g hg)).2),yN.move hm kids vs h3⟩
theorem yN.move{w w':World}{ok ok':Nat->Prop}(hm:∀ g,g < w.1.size->ok g->ok' g/\w'.1[g]? = w.1[g]?):∀ (ts:List Ex) (vs:List Value),yN w ok ts vs->yN w' ok' ts vs
 | [],[],_=>trivial
 | t :: ts,v :: vs,h=>⟨qQF.move hm t v h.1,yN.move hm ts vs h.2⟩
 | [],_ :: _,h=>h.elim
 | _ :: _,[],h=>h.elim
end
theorem qU.move{w w':World}{ok ok':Nat->Prop}{es:List Ex}{v:Value}(h:qU w ok es v)(hm:∀ g,g < w.1.size->ok g->ok' g/\w'.1[g]? = w.1[g]?):qU w' ok' es v:=by
 obtain⟨vs,h1,h2,h3⟩:=h;exact⟨vs,fun g hg=>(hm g (h2.lt g hg).2 (h1 g hg)).1,zU h2 (fun g hg=>(hm g (h2.lt g hg).2 (h1 g hg)).2),yN.move hm es vs h3⟩
theorem qU.below{w w':World}{ok:Nat->Prop}{es:List Ex}{v:Value}(h:qU w ok es v)(hb:Below w.1.size w w'):qU w' ok es v:=h.move fun g hg ho=>⟨ho,hb.block g hg⟩
theorem qU.mono{w:World}{ok ok':Nat->Prop}{es:List Ex}{v:Value}(h:qU w ok es v)(hm:∀ g,ok g->ok' g):qU w ok' es v:=h.move fun g _ ho=>⟨hm g ho,rfl⟩
theorem qU.nil(w:World)(ok:Nat->Prop):qU w ok [] (.slice none 0 0):=⟨[],fun g h=>by simp[Value.ownBlock]at h,World.ownsRow_nil _ _ _ _,trivial⟩
theorem qU.one{w:World}{ok:Nat->Prop}{es:List Ex}{v:Value}(h:qU w ok es v):v.oneCell'=true:=by
 obtain⟨vs,_,h2,_⟩:=h;rcases h2.2 with⟨rfl,_⟩ | ⟨g,cap,cur,rfl,_⟩ <;> rfl
theorem qU.shape{w:World}{ok:Nat->Prop}{es:List Ex}{v:Value}(h:qU w ok es v):∃ q c,v=.slice q es.length c:=by
 obtain⟨vs,_,h2,_⟩:=h;rcases h2.2 with⟨rfl,h0⟩ | ⟨g,cap,cur,rfl,_⟩
 ·exact⟨none,0,by rw[h0]⟩
 ·exact⟨_,_,rfl⟩
theorem yN.length{w:World}{ok:Nat->Prop}:∀ (ts:List Ex) (vs:List Value),yN w ok ts vs->ts.length=vs.length
 | [],[],_=>rfl
 | _ :: ts,_ :: vs,h=>by simp[yN.length ts vs h.2]
 | [],_ :: _,h=>h.elim
 | _ :: _,[],h=>h.elim
theorem qWa:∀ (ts us:List Ex) (vs xs:List Value),ts.length=vs.length->qVM (ts++us) (vs++xs)=qVM ts vs++qVM us xs
 | [],us,[],xs,_=>rfl
 | t :: ts,us,v :: vs,xs,h=>by simp only[lC,qVM,qWa ts us vs xs (by simpa using h),List.append_assoc]
 | [],_,_ :: _,_,h=>by simp at h
 | _ :: _,_,[],_,h=>by simp at h
theorem yN.append{w:World}{ok:Nat->Prop}:∀ (ts us:List Ex) (vs xs:List Value),yN w ok ts vs->yN w ok us xs->yN w ok (ts++us) (vs++xs)
 | [],_,[],_,_,h=>h
 | _ :: ts,us,_ :: vs,xs,h,h'=>⟨h.1,yN.append ts us vs xs h.2 h'⟩
 | [],_,_ :: _,_,h,_=>h.elim
 | _ :: _,_,[],_,h,_=>h.elim
def wC(w:World)(lo:Nat)(es:List Ex)(v:Value):Prop:=∃ vs,w.ownsRow lo 76 9 v es.length (qVM es vs)/\yN w (fun g=>lo<=g/\some g≠v.ownBlock) es vs
theorem wC.nil(w:World)(lo:Nat):wC w lo [] (.slice none 0 0):=⟨[],World.ownsRow_nil _ _ _ _,trivial⟩
theorem qX2{w:World}{base base' T size n:Nat}{v:Value}{xs:List Value}(h:w.ownsRow base T size v n xs)(hb:base'<=base):w.ownsRow base' T size v n xs:=qW2 h (fun g hg=>Nat.le_trans hb (h.lt g hg).1)
theorem wC.lies{w:World}{lo:Nat}{es:List Ex}{v:Value}(h:wC w lo es v):qU w (fun g=>lo<=g) es v:=by
 obtain⟨vs,h1,h2⟩:=h;exact⟨vs,fun g hg=>(h1.lt g hg).1,qX2 h1 (Nat.zero_le _),yN.move (fun g _ hg=>⟨hg.1,rfl⟩) _ vs h2⟩
theorem wC.below{w w':World}{lo:Nat}{es:List Ex}{v:Value}(h:wC w lo es v)(hb:Below w.1.size w w'):wC w' lo es v:=by
 obtain⟨vs,h1,h2⟩:=h;exact⟨vs,zU h1 (fun g hg=>hb.block g (h1.lt g hg).2),yN.move (fun g hg ho=>⟨ho,hb.block g hg⟩) _ vs h2⟩
theorem wC.lt{w:World}{lo:Nat}{es:List Ex}{v:Value}(h:wC w lo es v):∀ g,v.ownBlock=some g->lo<=g/\g < w.1.size:=by
 obtain⟨vs,h1,_⟩:=h;exact h1.lt
theorem exC_one(e:Ex){v:Value}(h:v.oneCell'=true):∀ u∈exC e v,u.oneCell'=true:=by
 cases e;intro u hu;simp[exC]at hu;rcases hu with rfl | rfl | rfl | rfl | rfl | rfl | rfl | rfl | rfl <;> first | rfl | exact h
theorem qQJ{S T size bytes:Nat}{zero:Value}(hu:prog.underlying S=some (.slice T))(hinf:(prog.info? T).map (fun i=>(i.zero,i.size,i.bytes))=some (some zero,size,bytes))(hby:bytes<=1000)(hzc:zero.cells.size=size)(hsp:0 < size)
 {o:Oper} {a:Act} {K:Act->World->Prop} {Q:Exit->Act->World->Prop} {w:World} {lo SZ dd n:Nat} {xs news:List Value} {v:Value} (s x:Operand)
 (ho:o.op=.call { callee:=.builtin .append,args:=#[s,x],argTypes:=#[S,S] }) (hd:o.dst=some dd) (hown:w.ownsRow lo T size v n xs) (hlo:lo<=w.1.size) (hs:a.eval s=v) (hS:w.1.size=SZ)
 (hx:a.eval x=.slice (some ⟨SZ,0,none⟩) 1 1) (hl:news.length=size) (hone:∀ u∈news,u.oneCell'=true) (hn:n < 1000000)
 (h:∀ v' w',w'.ownsRow lo T size v' (n+1) (xs++news)->(w.alloc (.cells news.toArray T)).grownBy w' v.ownBlock->(v'.ownBlock=v.ownBlock\/v'.ownBlock=some (w.1.size+1))->K (a.put (some dd) v') w') :
 o.wp prog a (w.alloc (.cells news.toArray T)) K Q:=by
 subst hS;obtain⟨i0,hi,hz0,hz1,hz2⟩:=info_parts hinf;have hnews:∀ (j:Nat) (u:Value),news[j]? = some u->(w.alloc (.cells news.toArray T)).cell? ((⟨w.1.size,0,none⟩:Addr).add j)=some u:=fun j u hj=>by
  rw[Lib.add_plain,Nat.zero_add,Lib.cell_of_heap (vL _ _)];simpa using hj
 have hbb:(n+1) * bytes<=1000000 * 1000:=Nat.mul_le_mul (by omega) hby
 obtain⟨v',w',hr,ho',hg',_⟩:=run_append_own (P:=prog) (w.alloc (.cells news.toArray T)) lo S o.type T i0 _ size bytes hu hi hz0 hz1 hz2 hzc hsp v n xs (hown.alloc _) ⟨w.1.size,0,none⟩ 1 1 news (by omega) hnews hone (by unfold maxLen;omega) (by omega) (by simp;omega);have hbk:=qX7 (P:=prog) (w.alloc (.cells news.toArray T)) lo S o.type T i0 _ size bytes hu hi hz0 hz1 hz2 v n xs (hown.alloc _) ⟨w.1.size,0,none⟩ 1 1 news (by omega) hnews hone (by unfold maxLen;omega) (by omega) (by omega) v' w' hr;have hK:K (a.put o.dst v') w':=by rw[hd];exact h v' w' ho' hg' (by simpa using hbk)
 unfold Oper.wp execOp;simp only[ho,resolve,invoke,builtin,Sem.run_bind,Sem.run_pure,Result.andThen_ok,List.map_toArray,List.map_cons,List.map_nil,hs,hx,hr];exact hK
theorem info42:(prog.info? 42).map (fun i=>(i.zero,i.size,i.bytes))=some (some (.agg #[.string ⟨#[]⟩, .int .i64 0, .bool false, .int .i64 0]),4,40):=by kernel_rfl
theorem info76:(prog.info? 76).map (fun i=>(i.zero,i.size,i.bytes))=some (some (.agg #[.string ⟨#[]⟩, .int .i64 0, .bool false, .int .u64 0, .int .i64 0, .bool false, .int .i64 0, .int .i64 0, .slice none 0 0]),9,96):=by kernel_rfl
theorem qYU{o:Oper}{a:Act}{K:Act->World->Prop}{Q:Exit->Act->World->Prop}{w:World}{lo SZ dd:Nat}{acc:List Ex}{e:Ex}{v u:Value}(s x:Operand)
 (ho:o.op=.call { callee:=.builtin .append,args:=#[s,x],argTypes:=#[71,71] }) (hd:o.dst=some dd) (hB:wC w lo acc v) (hE:qU w (fun g=>lo<=g/\some g≠v.ownBlock) e.kids u) (hlo:lo<=w.1.size)
 (hs:a.eval s=v) (hS:w.1.size=SZ) (hx:a.eval x=.slice (some ⟨SZ,0,none⟩) 1 1) (hn:acc.length < 1000000)
 (h:∀ v' w',wC w' lo (acc++[e]) v'->(w.alloc (.cells (exC e u).toArray 76)).grownBy w' v.ownBlock->K (a.put (some dd) v') w') :
 o.wp prog a (w.alloc (.cells (exC e u).toArray 76)) K Q:=by
 obtain⟨vs,h1,h2⟩:=hB;refine qQJ underlying71 info76 (by decide) rfl (by decide) s x ho hd h1 hlo hs hS hx (exC_len e u) (exC_one e hE.one) hn fun v' w' ho' hg' hbk=>h v' w' ?_ hg'
 have hlen:=yN.length acc vs h2;have hst:∀ g,g < w.1.size->lo<=g/\some g≠v.ownBlock->(lo<=g/\some g≠v'.ownBlock)/\w'.1[g]? = w.1[g]?:=fun g hg hok=>by
  refine⟨⟨hok.1,fun e=>?_⟩,(hg'.block g (by simp;omega) hok.2).trans (Below.heap_alloc w _ g hg)⟩;rcases hbk with h | h
  ·exact hok.2 (e.trans h)
  ·rw[h]at e;injection e with e;omega
 refine⟨vs++[u],?_,yN.append acc [e] vs [u] (yN.move hst acc vs h2) ⟨(qVr e u).2 (hE.move hst),trivial⟩⟩;rw[qWa acc [e] vs [u] hlen,lL];simpa[qVM]using ho'
structure EIn(B:Nat)(E:Env)(gv vv:Value)(Mg Mo Mr F o:Nat)(cl:vE)(w:World):Prop where
 c0:w.cell? ⟨B,0,none⟩=some gv
 c3:w.cell? ⟨B,3,none⟩=some (.map (some Mg))
 c6:w.cell? ⟨B,6,none⟩=some (.map (some Mr))
 c7:w.cell? ⟨B,7,none⟩=some (.pointer (some ⟨F,o,none⟩))
 c8:w.cell? ⟨B,8,none⟩=some (.map (some Mo))
 fv:w.cell? ⟨F,o+4,none⟩=some vv
 grow:qQI w 0 E.gs gv
 vrow:qQI w 0 E.own vv
 gm:wY w Mg (E.gs.map (·.name))
 om:wY w Mo (E.own.map (·.name))
 rm:qJs w Mr cl
 cc:w.cell? ⟨cl.c,0,none⟩=some (.pointer (some ⟨B,0,none⟩))
 ce:w.cell? ⟨cl.eq,0,none⟩=some (.func (.func 81) #[] #[.pointer (some ⟨cl.c,0,none⟩)])
 wt:qKi w
 b0:w.cell? ⟨1,0,none⟩=some (.int .i64 1)
 b1:w.cell? ⟨1,1,none⟩=some (.bool false)
 d0:w.cell? ⟨2,0,none⟩=some (.int .i64 64)
 d1:w.cell? ⟨2,1,none⟩=some (.bool false)
 gl:E.gs.length<=64
 ol:E.own.length<=64
theorem EIn.below{B:Nat}{E:Env}{gv vv:Value}{Mg Mo Mr F o:Nat}{cl:vE}{w w':World}(h:EIn B E gv vv Mg Mo Mr F o cl w)(hb:Below w.1.size w w'):EIn B E gv vv Mg Mo Mr F o cl w' :=
 have k:∀ {p:Addr} {v:Value},w.cell? p=some v->w'.cell? p=some v:=fun e=>kP hb e
 ⟨k h.c0,k h.c3,k h.c6,k h.c7,k h.c8,k h.fv,zU h.grow (fun g hg=>hb.block g (h.grow.lt g hg).2),zU h.vrow (fun g hg=>hb.block g (h.vrow.lt g hg).2),h.gm.below hb,h.om.below hb,h.rm.below hb,k h.cc,k h.ce,h.wt.below hb,k h.b0,k h.b1,k h.d0,k h.d1,h.gl,h.ol⟩
def EAt(B:Nat)(E:Env)(w:World):Prop:=∃ gv vv Mg Mo Mr F o cl,EIn B E gv vv Mg Mo Mr F o cl w
theorem EAt.below{B:Nat}{E:Env}{w w':World}(h:EAt B E w)(hb:Below w.1.size w w'):EAt B E w':=by
 obtain⟨gv,vv,Mg,Mo,Mr,F,o,cl,h⟩:=h;exact⟨gv,vv,Mg,Mo,Mr,F,o,cl,h.below hb⟩
theorem EAt.drew{B:Nat}{E:Env}{w:World}(h:EAt B E w):EAt B E w.drew:=h.below (Below.refl _ _).drew
def zP{α:Type}(p:CR α)(R:α->Value->World->Prop)(w:World)(e:Ending)(w':World):Prop :=
 match p with
 | .ok a=>∃ v,e=.returned v/\R a v w'/\Below w.1.size w w'
 | .bad ln co code=>CPan ln co code w e w'
theorem zP.okI{α:Type}{p:CR α}{R:α->Value->World->Prop}{w w':World}{a:α}{v:Value}(hp:p=.ok a)(hR:R a v w')(hb:Below w.1.size w w'):zP p R w (.returned v) w':=by
 rw[hp];exact⟨v,rfl,hR,hb⟩
theorem zP.badI{α:Type}{p:CR α}{R:α->Value->World->Prop}{w w':World}{e:Ending}{ln co code:Int}(hp:p=.bad ln co code)(h:CPan ln co code w e w'):zP p R w e w':=by
 rw[hp];exact h
theorem zP.cases{α:Type}{p:CR α}{R:α->Value->World->Prop}{w w':World}{e:Ending}(h:zP p R w e w') :
 (∃ a v,p=.ok a/\e=.returned v/\R a v w'/\Below w.1.size w w')\/∃ ln co code,p=.bad ln co code/\e=.panicked [{ v:=xO ln co code,recovered:=false }]/\Below w.1.size w w':=by
 cases p with
 | ok a=>obtain⟨v,h1,h2,h3⟩:=h;exact .inl ⟨a,v,rfl,h1,h2,h3⟩
 | bad ln co code=>exact .inr ⟨ln,co,code,rfl,h.1,h.2⟩
theorem qKe{w:World}{b:Nat}{L:List qI}{v:Value}(h:qQI w b L v){i:Nat}(hi:i < L.length):∃ g c,v=.slice (some ⟨g,0,none⟩) L.length c/\w.cell? ⟨g,i * 4,none⟩=some (.string ⟨L[i].name.toArray⟩)/\w.cell? ⟨g,i * 4+1,none⟩=some (.int .i64 L[i].t.1) /\
 w.cell? ⟨g,i * 4+2,none⟩=some (.bool L[i].t.2)/\w.cell? ⟨g,i * 4+3,none⟩=some (.int .i64 L[i].size):=by
 rcases h.2 with⟨_,h0⟩ | ⟨g,cap,cur,rfl,_⟩
 ·omega
 ·exact⟨g,cap,rfl,qQm qJ0 h rfl hi (k:=0) (by omega) rfl,qQm qJ0 h rfl hi (k:=1) (by omega) rfl,qQm qJ0 h rfl hi (k:=2) (by omega) rfl,qQm qJ0 h rfl hi (k:=3) (by omega) rfl⟩
def qWS(r:qI×Nat×Bool):Value:=.tuple #[qXK r.1, .int .i64 r.2.1, .bool r.2.2]
theorem zF{w w':World}(h:Below w.drew.1.size w.drew w'):Below w.1.size w w':=⟨h.os,h.tape,h.output,h.size,h.block⟩
structure qQB(N:Nat)(u:qI)(w:World):Prop where
 c0:w.cell? ⟨N,0,none⟩=some (.string ⟨u.name.toArray⟩)
 c1:w.cell? ⟨N,1,none⟩=some (.int .i64 u.t.1)
 c2:w.cell? ⟨N,2,none⟩=some (.bool u.t.2)
 c3:w.cell? ⟨N,3,none⟩=some (.int .i64 u.size)
 f:∀ k,k < 4->w.frozen? ⟨N,k,none⟩=false
theorem qQB.a{N:Nat}{u:qI}{w:World}(h:qQB N u w):w.cell? ⟨N,0,none⟩=some (.string ⟨u.name.toArray⟩)/\w.cell? ⟨N,1,none⟩=some (.int .i64 u.t.1)/\w.cell? ⟨N,2,none⟩=some (.bool u.t.2)/\w.cell? ⟨N,3,none⟩=some (.int .i64 u.size)/\True:=⟨h.c0,h.c1,h.c2,h.c3,trivial⟩
theorem qQB.b{N:Nat}{u:qI}{w:World}(h:qQB N u w):w.frozen? ⟨N,0,none⟩=false/\w.frozen? ⟨N,1,none⟩=false/\w.frozen? ⟨N,2,none⟩=false/\w.frozen? ⟨N,3,none⟩=false/\True:=⟨h.f 0 (by decide),h.f 1 (by decide),h.f 2 (by decide),h.f 3 (by decide),trivial⟩
theorem qQB.new(u:qI)(w:World):qQB w.1.size u (w.alloc (.cells (qQe u).toArray 42)):=by
 constructor
 case f=>intro k hk;match k,hk with | 0,_=>simp[go_sem,qQe] | 1,_=>simp[go_sem,qQe] | 2,_=>simp[go_sem,qQe] | 3,_=>simp[go_sem,qQe]
 all_goals simp[go_sem,qQe]
theorem qQB.lt{N:Nat}{u:qI}{w:World}(h:qQB N u w):N < w.1.size:=qJ h.c0
theorem qQB.below{N:Nat}{u:qI}{w w':World}(h:qQB N u w)(hb:Below w.1.size w w'):qQB N u w' :=
 ⟨(hb.cell h.lt).trans h.c0,(hb.cell h.lt).trans h.c1,(hb.cell h.lt).trans h.c2,(hb.cell h.lt).trans h.c3,fun k hk=>(hb.frozen h.lt).trans (h.f k hk)⟩
def qB(t:qQ)(v:Value):Obj:=.cells (qS t v).toArray 57
def qZU:qI:=⟨[],(0,false),0⟩
def qYx(u:qI):Obj:=.cells (qQe u).toArray 42
theorem qJL{x:List UInt8}{L:List qI}{v:qI}{j:Nat}(h:qQj x 0 L=some (v,j)):qVh x (L.map (·.name))=true/\qVi x (L.map (·.name))=j/\∃ hj:j < L.length,L[j]=v:=by
 obtain⟨hp,hi,_⟩:=qZI.2 v j h;obtain⟨hj,he⟩:=List.getElem?_eq_some_iff.1 hi;exact⟨by unfold qVh;rw[hp];rfl,by unfold qVi;rw[hp];rfl,by simpa using hj,by simpa using he⟩
theorem qXq{x:List UInt8}{L:List qI}(h:qQj x 0 L=none):qVh x (L.map (·.name))=false/\qVi x (L.map (·.name))=0:=by
 have hp:=qZI.1.1 h;exact⟨by unfold qVh;rw[hp];rfl,by unfold qVi;rw[hp];rfl⟩
theorem qJK{x:List UInt8}{L:List kI}{v:kI}{j:Nat}(h:qQN x 0 L=some (v,j)):qVh x (L.map (·.name))=true/\qVi x (L.map (·.name))=j/\∃ hj:j < L.length,L[j]=v:=by
 obtain⟨hp,hi,_⟩:=qX1.2 v j h;obtain⟨hj,he⟩:=List.getElem?_eq_some_iff.1 hi;exact⟨by unfold qVh;rw[hp];rfl,by unfold qVi;rw[hp];rfl,by simpa using hj,by simpa using he⟩
theorem qKJ{x:List UInt8}{L:List kI}(h:qQN x 0 L=none):qVh x (L.map (·.name))=false/\qVi x (L.map (·.name))=0:=by
 have hp:=qX1.1.1 h;exact⟨by unfold qVh;rw[hp];rfl,by unfold qVi;rw[hp];rfl⟩
theorem qPz(B:Nat)(E:Env)(t:qQ)(v:Value)(w:World)(h:EAt B E w)(hx:t.text.length<=1000000) :
 Calls prog 131 #[.pointer (some ⟨B,0,none⟩),qZ t v] w (zP (qZD E t) (fun a u _=>u=qWS a) w):=by
 have HB:=hI (bal (bal (Below.refl w.1.size w) (qB t v)) (qYx qZU));have H2:=hI (h.below HB.o);have HN:=hI ((Bx.new t v w).below (bal (Below.refl _ _) (qYx qZU)));have HV:=hI (qQB.new qZU (w.alloc (qB t v)));clear h;have hsz:((w.alloc (qB t v)).alloc (qYx qZU)).1.size=w.1.size+2:=by simp
 simp only[World.size_alloc]at HV;obtain⟨k,x,m,ln,co,ks⟩:=t;simp only[qZ,qB,qYx,qS,qQe,qZU,qQ.kind,qQ.text,qQ.num,qQ.line,qQ.col,qQ.kids]at *;go_enter func131,ntmps131
 go_wp2
 generalize ((w.alloc _).alloc _)=W at *;obtain⟨n0,n1,n2,n3,n4,n5⟩:=HN.o.cells;obtain⟨gv,vv,Mg,Mo,Mr,F,o,cl,h2⟩:=H2.o;have c0:=h2.c0;have c3:=h2.c3;have c7:=h2.c7;have c8:=h2.c8;have fv:=h2.fv;have hlk:=(h2.om.below (Below.refl _ _).drew).look x (by unfold maxLen;omega);have hlg:=(h2.gm.below ((Below.refl _ _).drew (w:=W)).drew).look x (by unfold maxLen;omega);cases hl:qQj x 0 E.own with
 | some r =>
  obtain⟨u,i⟩:=r;have hres:qZD E (.mk k x m ln co ks)=.ok (u,i,false):=by unfold qZD;simp only[qQ.text,hl]
  have HR:=hI hres;obtain⟨e1,e2,hiL,rfl⟩:=qJL hl;rw[e1,e2]at hlk;obtain⟨g,c,rfl,r0,r1,r2,r3⟩:=qKe h2.vrow hiL;have hol:=h2.ol;have hi63:(i:Int) < (E.own.length:Nat):=by omega
  have⟨v0,v1,v2,v3,_⟩:=HV.o.a;have⟨g0,g1,g2,g3,_⟩:=HV.o.b;clear h2 hlg c0 c3 e1 e2 hl hres;go_region
  go_wp2
  refine bodyPost_ret (v:=qWS (E.own[i],i,false)) (by simp[results,results131,go_sem,qWS,qXK,v0,v1,v2,v3]) rfl (zP.okI HR.o rfl ?_);exact(((((HB.o.setCell (p:=⟨w.1.size+1,0,none⟩) (by simp) _).setCell (p:=⟨w.1.size+1,1,none⟩) (by simp) _).setCell (p:=⟨w.1.size+1,2,none⟩) (by simp) _).setCell (p:=⟨w.1.size+1,3,none⟩) (by simp) _)).drew
 | none =>
  obtain⟨e1,e2⟩:=qXq hl;rw[e1,e2]at hlk;cases hlG:qQj x 0 E.gs with
  | some r =>
   obtain⟨u,i⟩:=r;have hres:qZD E (.mk k x m ln co ks)=.ok (u,i,true):=by unfold qZD;simp only[qQ.text,hl,hlG]
   have HR:=hI hres;obtain⟨e1,e2,hiL,rfl⟩:=qJL hlG;rw[e1,e2]at hlg;obtain⟨g,c,rfl,r0,r1,r2,r3⟩:=qKe h2.grow hiL;have hol:=h2.gl;have hi63:(i:Int) < (E.gs.length:Nat):=by omega
   have hN:=hI (qQl (.mk k x m ln co ks) v 40 W.drew.drew);simp only[qZ,qQ.kind,qQ.text,qQ.num,qQ.line,qQ.col,qQ.kids]at hN;clear c7 fv e1 e2 hl hlG hres;go_region
   go_wp2
   go_region
   go_wp2_with fail
   refine(hN.o).mono ?_;rintro e w3 ⟨rfl,hb3⟩;have hb3':Below W.1.size W w3:=zF (zF hb3);have c0:=kP hb3' h2.c0;obtain⟨r0,r1,r2,r3⟩:=kP4 hb3' r0 r1 r2 r3;have HV3:=HV.o.below hb3';have⟨v0,v1,v2,v3,_⟩:=HV3.a;have⟨g0,g1,g2,g3,_⟩:=HV3.b;have HB3:=hI (HB.o.trans (hb3'.mono (by omega)));clear h2 hb3 hb3' hlk hlg c3 c8 n0 n1 n2 n3 n4 n5;go_wp2
   refine bodyPost_ret (v:=qWS (E.gs[i],i,true)) (by simp[results,results131,go_sem,qWS,qXK,v0,v1,v2,v3]) rfl (zP.okI HR.o rfl ?_);exact((((HB3.o.setCell (p:=⟨w.1.size+1,0,none⟩) (by simp) _).setCell (p:=⟨w.1.size+1,1,none⟩) (by simp) _).setCell (p:=⟨w.1.size+1,2,none⟩) (by simp) _).setCell (p:=⟨w.1.size+1,3,none⟩) (by simp) _)
  | none =>
   have hres:qZD E (.mk k x m ln co ks)=.bad ln co 40:=by unfold qZD;simp only[qQ.text,hl,hlG];rfl
   have HR:=hI hres;obtain⟨e1,e2⟩:=qXq hlG;rw[e1,e2]at hlg;have hN:=hI (qQ5 (.mk k x m ln co ks) v 40 W.drew.drew);simp only[qZ,qQ.kind,qQ.text,qQ.num,qQ.line,qQ.col,qQ.kids]at hN;clear c7 fv e1 e2 hl hlG hres c0;go_region
   go_wp2
   go_region
   go_wp2_with fail
   refine(hN.o).mono ?_;rintro e w3 ⟨rfl,hb3⟩;exact⟨rfl,zP.badI HR.o ⟨rfl,HB.o.trans (Below.mono (zF (zF hb3)) (by omega))⟩⟩
mutual
def wfE:qQ->Bool
 | .mk k x m _ _ ks=>decide (x.length<=1000000/\0<=m/\m < 18446744073709551616) && ((k == zD || k == zL || k == qH || k == zM) && ks.isEmpty || (k == qL || k == zK) && ks.length == 1 || (k == qT || k == qM) && (qXx (qXs k x)).isSome && decide (ks.length<=2)) && qZV ks
def qZV:List qQ->Bool
 | []=>true
 | t :: r=>wfE t && qZV r
end
def tyO(T:Ty):Obj:=.cells #[.int .i64 T.1, .bool T.2] 37
structure qZ7(N:Nat)(T:Ty)(w:World):Prop where
 c0:w.cell? ⟨N,0,none⟩=some (.int .i64 T.1)
 c1:w.cell? ⟨N,1,none⟩=some (.bool T.2)
 f0:w.frozen? ⟨N,0,none⟩=false
 f1:w.frozen? ⟨N,1,none⟩=false
theorem qZ7.a{N:Nat}{T:Ty}{w:World}(h:qZ7 N T w):w.cell? ⟨N,0,none⟩=some (.int .i64 T.1)/\w.cell? ⟨N,1,none⟩=some (.bool T.2)/\True:=⟨h.c0,h.c1,trivial⟩
theorem qZ7.new(T:Ty)(w:World):qZ7 w.1.size T (w.alloc (tyO T)):=by
 unfold tyO;constructor <;> simp[go_sem]
theorem qZ7.lt{N:Nat}{T:Ty}{w:World}(h:qZ7 N T w):N < w.1.size:=qJ h.c0
theorem qZ7.below{N:Nat}{T:Ty}{w w':World}(h:qZ7 N T w)(hb:Below w.1.size w w'):qZ7 N T w' :=
 ⟨(hb.cell h.lt).trans h.c0,(hb.cell h.lt).trans h.c1,(hb.frozen h.lt).trans h.f0,(hb.frozen h.lt).trans h.f1⟩
def qYS(t:qQ):Prop:=∀ (B L:Nat) (E:Env) (v:Value) (w:World),EAt B E w->L<=w.1.size->xZ w (· < L) t v ->
 Calls prog 119 #[.pointer (some ⟨B,0,none⟩),qZ t v] w (zP (qJu E t) (fun a u _=>u=tyV a) w)
theorem firstC_at{E:Env}{ts:List qQ}{k:Nat}(h:k < ts.length):qQu E (ts.drop k)=(qJu E ts[k]).bind fun u=>if u=noT then qQu E (ts.drop (k+1))else .ok u:=by
 rw[List.drop_eq_getElem_cons h,qQu]
def FRel(E:Env)(ts:List qQ)(W:World)(i:Value)(wr:World):Prop :=
 ∃ k:Nat,k<=ts.length/\i=.int .i64 k/\qQu E (ts.drop k)=qQu E ts/\Below W.1.size W wr
theorem qWN(B L:Nat)(E:Env)(ts:List qQ)(q:Option Addr)(c:Nat)(w:World)(hrec:∀ t∈ts,qYS t)(h:EAt B E w)(hL:L<=w.1.size)(hK:yD L w ts q)(hn:ts.length<=1000000) :
 Calls prog 97 #[.pointer (some ⟨B,0,none⟩), .slice q ts.length c] w (zP (qQu E ts) (fun a u _=>u=tyV a) w):=by
 have HB:=hI (bal (Below.refl w.1.size w) (tyO noT));have H2:=hI (h.below HB.o);have HK2:=hI (hK.keep (HB.o.mono hL));have HT:=hI (qZ7.new noT w);have HR:=hI hrec;have hsz:(w.alloc (tyO noT)).1.size=w.1.size+1:=by simp
 clear h hK hrec;unfold tyO noT at *;simp only at *;go_enter func97,ntmps97
 go_wp2
 generalize (w.alloc _)=W at *;go_loopw [10] (fun i wr=>FRel E ts W i wr) (fun i _=>ts.length - (intOf i).toNat)
 case atStart=>exact⟨0,Nat.zero_le _,rfl,rfl,Below.refl _ _⟩
 case round =>
  obtain⟨k,hk,rfl,hf,hb⟩:=hrel;have HBr:=hI (HB.o.trans (hb.mono (by omega)));have HTr:=HT.o.below hb;have t0:=HTr.c0;have t1:=HTr.c1;have tf0:=HTr.f0;have tf1:=HTr.f1;have hNr:=HTr.lt;by_cases hlt:k < ts.length
  ·obtain⟨g,off,rfl,hR⟩:=(HK2.o.keep (hb.mono (by omega))).resolve_left (fun e=>by rw[e]at hlt;simp at hlt);obtain⟨qa,na,ca,hla,hca⟩:=hR.2 k hlt;have⟨k0,k1,k2,k3,k4,k5,_⟩:=hca.a;have hmem:ts[k]∈ts:=List.getElem_mem hlt;have hbs:=hb.size;have hba:=Below.alloc (a:=wr) (Below.refl wr.1.size wr) (Nat.le_refl _) (qB ts[k] (.slice qa na ca));have HC:=hI (HR.o _ hmem B L E (.slice qa na ca) _ ((H2.o.below hb).below hba) (by simp;omega) (hla.keep (hba.mono (by omega))));have HF:=hI ((firstC_at (E:=E) hlt).symm.trans hf);have HBA:=hI (hb.trans (hba.mono (by omega)));have HTA:=hI (HTr.below hba);have HWA:=hI (HBr.o.trans (hba.mono (by omega)));clear hca hla hR hf hmem hb hba HTr;generalize hu:ts[k]=u at *;simp only[qS,qZ,qB]at *;go_wp2_with fail
   refine(HC.o).mono ?_;rintro e w2 hX;rcases hX.cases with⟨T,a,hp,rfl,rfl,hb2⟩ | ⟨ln,co,code,hp,rfl,hb2⟩
   ·obtain⟨T0,T1⟩:=T;unfold tyV;have HT2:=HTA.o.below hb2;have t0:=HT2.c0;have t1:=HT2.c1;have tf0:=HT2.f0;have tf1:=HT2.f1;have hN2:=HT2.lt;have HB2:=hI (HBA.o.trans (hb2.mono (by have:=HBA.o.size;omega)));have HW2:=hI (HWA.o.trans (hb2.mono (by have:=HWA.o.size;omega)));have HP:=hI hp;clear hX HC hp hb2 HT2 k0 k1 k2 k3 k4 k5;by_cases hz:T0=0
    ·subst hz;cases T1
     ·go_wp2
      refine⟨⟨k+1,by omega,rfl,?_,bal HB2.o _⟩,by simp[intOf];omega⟩;have h1:=HF.o;rw[HP.o]at h1;simpa[CR.bind,noT]using h1
     ·go_wp2
      refine bodyPost_ret (v:=tyV (0,true)) (by simp[results,results97,go_sem,tyV,t0,t1,hN2]) rfl (zP.okI (by rw[<-HF.o,HP.o];rfl) rfl ?_);exact bal ((HW2.o.setCell (p:=⟨w.1.size,0,none⟩) (by simp) _).setCell (p:=⟨w.1.size,1,none⟩) (by simp) _) _
    ·have HZ:=hI hz;go_wp2
     refine bodyPost_ret (v:=tyV (T0,T1)) (by simp[results,results97,go_sem,tyV,t0,t1,hN2]) rfl (zP.okI (by rw[<-HF.o,HP.o];simp[CR.bind,noT,HZ.o]) rfl ?_);exact bal ((HW2.o.setCell (p:=⟨w.1.size,0,none⟩) (by simp) _).setCell (p:=⟨w.1.size,1,none⟩) (by simp) _) _
   ·have HP:=hI hp;refine⟨rfl,zP.badI (by rw[<-HF.o,HP.o];rfl) ⟨rfl,HWA.o.trans (hb2.mono (by have:=HWA.o.size;omega))⟩⟩
  ·have HE:=hI (show qQu E ts=.ok noT by rw[<-hf,List.drop_eq_nil_of_le (by omega)];rfl);clear hf hb HTr;go_wp2
   refine bodyPost_ret (v:=tyV noT) (by simp[results,results97,go_sem,tyV,noT,t0,t1]) rfl (zP.okI HE.o rfl ?_);exact(HBr.o.setCell (p:=⟨w.1.size,0,none⟩) (by simp) _).setCell (p:=⟨w.1.size,1,none⟩) (by simp) _
theorem qKD(B L:Nat)(E:Env)(ts:List qQ)(q:Option Addr)(c:Nat)(w:World)(hrec:∀ t∈ts,qYS t)(h:EAt B E w)(hL:L<=w.1.size)(hK:yD L w ts q)(hn:ts.length<=1000000) :
 Calls prog 82 #[.pointer (some ⟨B,0,none⟩), .slice q ts.length c] w (zP (yB E ts) (fun a u _=>u=tyV a) w):=by
 have HB:=hI (bal (Below.refl w.1.size w) (tyO noT));have H2:=hI (h.below HB.o);have HC:=hI (qWN B L E ts q c _ hrec H2.o (by simp;omega) (hK.keep (HB.o.mono hL)) hn);have HT:=hI (qZ7.new noT w);have hsz:(w.alloc (tyO noT)).1.size=w.1.size+1:=by simp
 clear h hK hrec;unfold tyO noT at *;simp only at *;go_enter func82,ntmps82
 go_wp2_with fail
 generalize (w.alloc _)=W at *;refine(HC.o).mono ?_;rintro e w2 hX;rcases hX.cases with⟨T,a,hp,rfl,rfl,hb2⟩ | ⟨ln,co,code,hp,rfl,hb2⟩
 ·obtain⟨T0,T1⟩:=T;unfold tyV;have HT2:=HT.o.below hb2;have t0:=HT2.c0;have t1:=HT2.c1;have tf0:=HT2.f0;have tf1:=HT2.f1;have hN2:=HT2.lt;have HW2:=hI (HB.o.trans (hb2.mono (by omega)));obtain⟨gv,vv,Mg,Mo,Mr,F,o,cl,h2⟩:=H2.o.below hb2;have d0:=h2.d0;have d1:=h2.d1;have hG:2 < w2.1.size:=qJ d0;have HP:=hI hp;clear hX HC hp hb2 HT2 h2 H2;by_cases hz:T0=0
  ·subst hz;cases T1
   ·go_wp2
    refine bodyPost_ret (v:=tyV (64,false)) (by simp[results,results82,go_sem,tyV,t0,t1,hN2]) rfl (zP.okI (by unfold yB;rw[HP.o];rfl) rfl ?_);exact bal ((HW2.o.setCell (p:=⟨w.1.size,0,none⟩) (by simp) _).setCell (p:=⟨w.1.size,1,none⟩) (by simp) _) _
   ·go_wp2
    refine bodyPost_ret (v:=tyV (0,true)) (by simp[results,results82,go_sem,tyV,t0,t1,hN2]) rfl (zP.okI (by unfold yB;rw[HP.o];rfl) rfl ?_);exact bal ((HW2.o.setCell (p:=⟨w.1.size,0,none⟩) (by simp) _).setCell (p:=⟨w.1.size,1,none⟩) (by simp) _) _
  ·have HZ:=hI hz;go_wp2
   refine bodyPost_ret (v:=tyV (T0,T1)) (by simp[results,results82,go_sem,tyV,t0,t1,hN2]) rfl (zP.okI (by unfold yB;rw[HP.o];simp[CR.bind,noT,HZ.o]) rfl ?_);exact bal ((HW2.o.setCell (p:=⟨w.1.size,0,none⟩) (by simp) _).setCell (p:=⟨w.1.size,1,none⟩) (by simp) _) _
 ·exact⟨rfl,zP.badI (by unfold yB;rw[hp];rfl) ⟨rfl,HB.o.trans (hb2.mono (by omega))⟩⟩
theorem qUg{x:List UInt8}:∀ {L:List (List (List UInt8))} {i:Int},0<=xE x i L->∃ g∈L,x∈g
 | [],_,h=>by simp[xE]at h
 | g :: gs,i,h=>by
  rw[xE]at h;split at h
  ·rename_i hc;exact⟨g,by simp,by simpa using hc⟩
  ·obtain⟨g',hg,hx⟩:=qUg h;exact⟨g',by simp[hg],hx⟩
theorem qU0{x:List UInt8}(h:0<=xL x):(qXx x).isSome=true:=by
 obtain⟨g,hg,hx⟩:=qUg h;simp only[jG,List.mem_cons,List.not_mem_nil,or_false]at hg;rcases hg with rfl | rfl | rfl | rfl | rfl | rfl | rfl | rfl | rfl | rfl <;> simp only[List.mem_cons,List.not_mem_nil,or_false]at hx
 all_goals first
  | (subst hx;decide)
  | (rcases hx with rfl | rfl <;> decide)
  | (rcases hx with rfl | rfl | rfl <;> decide)
  | (rcases hx with rfl | rfl | rfl | rfl <;> decide)
theorem qU1{x:List UInt8}(h:qXD x=true):(qXx (117 :: x)).isSome=true:=by
 simp only[qXD,Bool.or_eq_true,beq_iff_eq]at h;rcases h with(rfl | rfl) | rfl <;> decide
theorem qQx{k x:List UInt8}{m ln co:Int}{ks:List qQ}(h:qZl (.mk k x m ln co ks)):k.length<=1000000/\x.length<=1000000/\0<=m/\m < 18446744073709551616/\ks.length<=1000000/\qZn ks:=by
 rw[qZl]at h;exact h
theorem qXE{k x:List UInt8}{m ln co:Int}{ks:List qQ}(h:qZl (.mk k x m ln co ks))(hw:qZV ks=true)(hk:((k == zD || k == zL || k == qH || k == zM) && ks.isEmpty || (k == qL || k == zK) && ks.length == 1 || (k == qT || k == qM) && (qXx (qXs k x)).isSome && decide (ks.length<=2))=true):wfE (.mk k x m ln co ks)=true:=by
 obtain⟨_,h2,h3,h4,_,_⟩:=qQx h;rw[wfE,hw,hk,bW,bW];exact decide_eq_true ⟨h2,h3,h4⟩
theorem qZW:qZV []=true:=by rw[qZV]
theorem qXi{t:qQ}{r:List qQ}(h:wfE t=true)(k:qZV r=true):qZV (t :: r)=true:=by rw[qZV,h,k];rfl
theorem qMC{l:List qQ}(h:∀ t∈l,wfE t=true):qZV l=true:=by
 induction l with
 | nil=>exact qZW
 | cons t r ih=>exact qXi (h t (by simp)) (ih fun u hu=>h u (by simp[hu]))
theorem qP6{f:qQ->Ws}:∀ {l:List qQ} {ws:List (List UInt8)},qKp f l=some ws->∀ t∈l,∃ w,f t=some w
 | [],_,_,t,ht=>by simp at ht
 | u :: r,ws,h,t,ht=>by
  rw[qKp]at h;obtain⟨x,y,_,h2,_⟩:=qK h;obtain⟨x2,y2,h3,h4,_⟩:=qK h2;rcases List.mem_cons.1 ht with rfl | ht
  ·exact⟨_,h3⟩
  ·exact qP6 h4 t ht
theorem qKC{f:qQ->Ws}:∀ {l:List qQ} {ws:List (List UInt8)},wO f l=some ws->∀ t∈l,∃ w,f t=some w
 | [],_,_,t,ht=>by simp at ht
 | u :: r,ws,h,t,ht=>by
  rw[wO]at h;obtain⟨x,y,h1,h2,_⟩:=qK h;rcases List.mem_cons.1 ht with rfl | ht
  ·exact⟨_,h1⟩
  ·exact qP6 h2 t ht
theorem qJM{f:qQ->Ws}:∀ {l:List qQ} {ws:List (List UInt8)},qZP f l=some ws->∀ t∈l,∃ w,f t=some w/\w.length<=ws.length
 | [],_,_,t,ht=>by simp at ht
 | u :: r,ws,h,t,ht=>by
  rw[qZP]at h;obtain⟨x,y,h1,h2,rfl⟩:=qK h;rcases List.mem_cons.1 ht with rfl | ht
  ·exact⟨_,h1,by simp⟩
  ·obtain⟨w,h3,h4⟩:=qJM h2 t ht;exact⟨w,h3,by simp;omega⟩
def qMD(rec:WT->qQ->Ws):Prop:=∀ t ws,rec .expr t=some ws->qZl t->wfE t=true
section
variable {rec:WT->qQ->Ws} (hrec:qMD rec)
include hrec
theorem qKf{t:qQ}{ws:List (List UInt8)}(h:wU rec t=some ws)(hn:qZl t):wfE t=true:=by
 obtain⟨k,x,m,ln,co,ks⟩:=t;have hN:=qQx hn;rw[qKN]at h;split at h
 ·rename_i hk;rw[beq_iff_eq]at hk;subst hk;rcases ks with _ | ⟨e,_ | ⟨b,r⟩⟩
  ·simp at h
  ·obtain⟨_,h1⟩:=zN h;obtain⟨_,y,_,h2,_⟩:=qK h1;obtain⟨z,_,h3,_,_⟩:=qK h2;exact qXE hn (qXi (hrec _ _ h3 (hN.2.2.2.2.2.mem e (by simp))) qZW) (by rfl)
  ·simp at h
 ·obtain⟨h0,_⟩:=zN h;simp only[bE,beq_iff_eq]at h0;obtain⟨⟨rfl,_⟩,h2⟩:=h0;obtain rfl:ks=[]:=List.eq_nil_of_length_eq_zero h2;exact qXE hn qZW (by rfl)
theorem qJm{t:qQ}{ws:List (List UInt8)}(h:wZ rec t=some ws)(hn:qZl t):wfE t=true:=by
 unfold wZ at h;split at h
 ·obtain⟨_,y,_,h2,_⟩:=qK h;obtain⟨z,_,h3,_,_⟩:=qK h2;exact hrec _ _ h3 hn
 ·exact hrec _ _ h hn
theorem wf_expr{t:qQ}{ws:List (List UInt8)}(h:qY7 rec t=some ws)(hn:qZl t):wfE t=true:=by
 have hT:=fun h=>qKf hrec (t:=t) (ws:=ws) h hn
 obtain⟨k,x,m,ln,co,ks⟩:=t;have hN:=qQx hn;rw[qX0]at h;split at h
 ·rename_i hk;rw[beq_iff_eq]at hk;subst hk;rcases ks with _ | ⟨a,_ | ⟨b,_ | ⟨c,r⟩⟩⟩
  ·simp at h
  ·simp at h
  ·obtain⟨h0,h1⟩:=zN h;simp only[bE,decide_eq_true_eq]at h0;obtain⟨ya,y,h1,h2,_⟩:=qK h1;obtain⟨_,yb,_,h3,_⟩:=qK h2;refine qXE hn (qXi (qJm hrec h1 (hN.2.2.2.2.2.mem a (by simp))) (qXi (qJm hrec h3 (hN.2.2.2.2.2.mem b (by simp))) qZW)) ?_;have:=qU0 h0.1;rw[show qXs qM x=x from rfl,this];rfl
  ·simp at h
 split at h
 ·rename_i hk;rw[beq_iff_eq]at hk;subst hk;rcases ks with _ | ⟨a,_ | ⟨b,r⟩⟩
  ·simp at h
  ·obtain⟨h0,h1⟩:=zN h;simp only[bE]at h0;obtain⟨_,y,_,h2,_⟩:=qK h1;refine qXE hn (qXi (qJm hrec h2 (hN.2.2.2.2.2.mem a (by simp))) qZW) ?_;have:=qU1 h0.1;rw[show qXs qT x=117 :: x from rfl,this];rfl
  ·simp at h
 split at h
 ·rename_i hk;rw[beq_iff_eq]at hk;subst hk;rcases ks with _ | ⟨a,_ | ⟨b,r⟩⟩
  ·simp at h
  ·obtain⟨h0,h1⟩:=zN h;obtain⟨_,y,_,h2,_⟩:=qK h1;exact qXE hn (qXi (qJm hrec h2 (hN.2.2.2.2.2.mem a (by simp))) qZW) (by rfl)
  ·simp at h
 split at h
 ·rename_i hk;obtain⟨h0,_⟩:=zN h;simp only[bE,beq_iff_eq,Bool.or_eq_true]at h0 hk;obtain rfl:ks=[]:=List.eq_nil_of_length_eq_zero h0.2;refine qXE hn qZW ?_;rcases hk with rfl | rfl <;> rfl
 split at h
 ·rename_i hk;rw[qWZ]at h;obtain⟨h0,_⟩:=zN h;simp only[bE,beq_iff_eq,qQ.kind,qQ.kids]at h0 hk;subst hk;obtain rfl:ks=[]:=List.eq_nil_of_length_eq_zero h0.2.2;exact qXE hn qZW (by rfl)
 ·exact hT h
end
theorem qUs:∀ n,qMD (qZB n)
 | 0,t,ws,h,_=>by simp[qZB]at h
 | n+1,t,ws,h,hn=>wf_expr (qUs n) (by simpa[qZB,stepW]using h) hn
theorem qPQ{f:qQ->Ws}:∀ {l:List qQ} {ws:List (List UInt8)} (_:∀ t∈l,∀ w,f t=some w->1<=w.length),qZP f l=some ws->l.length<=ws.length
 | [],_,_,_=>by simp
 | u :: r,ws,hf,h=>by
  rw[qZP]at h;obtain⟨x,y,h1,h2,rfl⟩:=qK h;have:=qPQ (fun t ht=>hf t (by simp[ht])) h2;have:=hf u (by simp) _ h1;simp;omega
theorem qX4{a:Ws}{ws:List (List UInt8)}(h:qQn a=some ws):1<=ws.length:=by
 obtain⟨x,y,_,h2,rfl⟩:=qK h;injection h2 with h2;subst h2;simp
theorem qJd{rec:WT->qQ->Ws}{t:qQ}{ws:List (List UInt8)}(h:qQi rec t=some ws):1<=ws.length:=by
 obtain⟨k,x,m,ln,co,ks⟩:=t;rw[qJH]at h;rcases ks with _ | ⟨e,_ | ⟨b,r⟩⟩
 ·simp at h
 ·simp at h
 ·simp only at h;obtain⟨x,y,h1,_,rfl⟩:=qK h;injection h1 with h1;subst h1;simp
theorem stmtW_pos{rec:WT->qQ->Ws}{t:qQ}{ws:List (List UInt8)}(h:qJr rec t=some ws):1<=ws.length:=by
 obtain⟨k,x,m,ln,co,ks⟩:=t;rw[wX]at h;split at h
 ·rw[qJb]at h;obtain⟨_,h1⟩:=zN h;rcases ks with _ | ⟨e,_ | ⟨b,_ | ⟨c,_ | ⟨d,r⟩⟩⟩⟩
  ·simp at h1
  ·simp at h1
  ·exact qJd h1
  ·simp only at h1;obtain⟨y,z,h2,h3,rfl⟩:=qK h1;have:=qJd h2;simp;omega
  ·simp at h1
 split at h
 ·exact qJd (zN h).2
 split at h
 ·exact qX4 (zN h).2
 split at h
 ·exact qX4 h
 split at h
 ·exact qX4 (zN h).2
 split at h
 ·rcases ks with _ | ⟨e,_ | ⟨b,r⟩⟩
  ·simp at h
  ·exact qX4 (zN h).2
  ·simp at h
 ·exact qX4 h
theorem yQ{N:Nat}{w0 w:World}(h:Below w0.1.size w0 w)(hN:w0.1.size<=N)(a b:Value):Below w0.1.size w0 ((w.setCell ⟨N,0,none⟩ a).setCell ⟨N,1,none⟩ b) :=
 (h.setCell (p:=⟨N,0,none⟩) hN _).setCell (p:=⟨N,1,none⟩) hN _
theorem qQs{k x:List UInt8}{m ln co:Int}{ks:List qQ}(h:wfE (.mk k x m ln co ks)=true):x.length<=1000000/\(0<=m/\m < 18446744073709551616)/\qZV ks=true /\
 ((k == zD || k == zL || k == qH || k == zM)=true/\ks=[]\/(k == qL || k == zK)=true/\ks.length=1\/(k == qT || k == qM)=true/\(∃ r,qXx (qXs k x)=some r)/\ks.length<=2):=by
 simp only[wfE,bE,Bool.or_eq_true,decide_eq_true_eq,beq_iff_eq,List.isEmpty_iff,Option.isSome_iff_exists]at h;simp only[Bool.or_eq_true,beq_iff_eq];obtain⟨⟨⟨h1,h2,h3⟩,h4⟩,h5⟩:=h;refine⟨h1,⟨h2,h3⟩,h5,?_⟩;rcases h4 with(h4 | h4) | h4
 ·exact .inl h4
 ·exact .inr (.inl h4)
 ·exact .inr (.inr ⟨h4.1.1,h4.1.2,h4.2⟩)
theorem sugC_mk(E:Env)(k x:List UInt8)(m ln co:Int)(ks:List qQ):qJu E (.mk k x m ln co ks)=if k == zD then .ok noT else if k == zL || k == qH then .ok zO else if k == zM || k == qL then(qZD E (.mk k x m ln co ks)).bind fun r=>.ok r.1.t else if k == zK then .ok (tyL x)else if qYw (qXs k x)then .ok zO else qQu E ks:=by
 conv=>lhs;unfold qJu
theorem qL1(a b:Value)(w:World):(Instr.field 140 (.agg #[a,b]) 0).run prog w=.ok a w:=by kernel_rfl
theorem qWR(a b:Value)(w:World):(Instr.field 140 (.agg #[a,b]) 1).run prog w=.ok b w:=by kernel_rfl
theorem op_len(k x:List UInt8):(qXs k x).length<=x.length+1:=by
 unfold qXs;split <;> simp
theorem sug_step(t:qQ)(hw:wfE t=true)(hrec:∀ u∈t.kids,qYS u):qYS t:=by
 intro B L E v w h hL hl;obtain⟨q,c,rfl,hc1,hc2,hK⟩:=hl.kids;have HB:=hI (bal (bal (Below.refl w.1.size w) (qB t (.slice q t.kids.length c))) (tyO noT));have H2:=hI (h.below HB.o);have HN:=hI ((Bx.new t (.slice q t.kids.length c) w).below (bal (Below.refl _ _) (tyO noT)));have HT:=hI (qZ7.new noT (w.alloc (qB t (.slice q t.kids.length c))));have HK:=hI (hK.keep (HB.o.mono hL));have HR:=hI hrec;have H0:=hI h;have hsz:((w.alloc (qB t (.slice q t.kids.length c))).alloc (tyO noT)).1.size=w.1.size+2:=by simp
 simp only[World.size_alloc]at HT;clear h hl hK hrec;obtain⟨k,x,m,ln,co,ks⟩:=t;obtain⟨hx,⟨hm0,hm1⟩,hwk,hwf⟩:=qQs hw;have HWF:=hI hwf;have HWK:=hI hwk;clear hw hwf hwk;simp only[qZ,qB,tyO,qS,noT,qQ.kind,qQ.text,qQ.num,qQ.line,qQ.col,qQ.kids]at *;have HP:=hI (sugC_mk E k x m ln co ks);cases h1:(k == zD);case true =>
  have HP:=hI (show qJu E (.mk k x m ln co ks)=.ok (0,false) by rw[HP.o,h1];rfl);unfold zD at h1;go_enter func119,ntmps119
  go_wp2
  refine bodyPost_ret (v:=tyV (0,false)) (by simp[results,results119,go_sem,tyV]) rfl (zP.okI HP.o rfl ?_);first | exact HB.o | exact yQ HB.o (Nat.le_add_right _ _) _ _ | (refine bal ((bal (Below.refl _ _) _)) _)
 case false =>
 cases h2:(k == zL || k == qH);case true =>
  have HP:=hI (show qJu E (.mk k x m ln co ks)=.ok (1,false) by rw[HP.o,h1,h2];rfl);have HK2:=hI h2;unfold zD at h1;unfold zL qH at h2;cases h3:(k == [116,114,117,101]);all_goals
   simp only[h3,bO,bU]at h2;obtain⟨gv,vv,Mg,Mo,Mr,F,o,cl,hE⟩:=H0.o;have d0:=hE.b0;have d1:=hE.b1;have hG:1 < w.1.size:=qJ d0;have hG0:0 < w.1.size:=by omega
   have hG1:1 < w.1.size+1:=by omega
   clear hE;go_enter func119,ntmps119
   go_wp2
   refine bodyPost_ret (v:=tyV (1,false)) (by simp[results,results119,go_sem,tyV]) rfl (zP.okI HP.o rfl ?_);first | exact HB.o | exact yQ HB.o (Nat.le_add_right _ _) _ _ | (refine bal ((bal (Below.refl _ _) _)) _)
 case false =>
 cases h3:(k == zM || k == qL);case true =>
  have HP:=hI (show qJu E (.mk k x m ln co ks)=(qZD E (.mk k x m ln co ks)).bind fun r=>.ok r.1.t by rw[HP.o,h1,h2,h3];rfl);have HC:=hI (qPz B E (.mk k x m ln co ks) (.slice q ks.length c) _ H2.o hx);simp only[Bool.or_eq_false_iff]at h2;obtain⟨h2a,h2b⟩:=h2;simp only[qZ,qQ.kind,qQ.text,qQ.num,qQ.line,qQ.col,qQ.kids]at HC;unfold zD at h1;unfold zL at h2a;unfold qH at h2b;unfold zM qL at h3;cases h4:(k == [110,97,109,101]);all_goals
   simp only[h4,bO,bU]at h3;go_enter func119,ntmps119
   go_wp2_with fail
   refine(HC.o).mono ?_;rintro e w2 hX;rcases hX.cases with⟨a,u,hp,rfl,rfl,hb2⟩ | ⟨l',c',code,hp,rfl,hb2⟩
   ·obtain⟨⟨nm,⟨T0,T1⟩,sz⟩,i,g⟩:=a;unfold qWS qXK;have HP:=hI (show qJu E (.mk k x m ln co ks)=.ok (T0,T1) by rw[HP.o,hp];rfl);have HT2:=HT.o.below hb2;have t0:=HT2.c0;have t1:=HT2.c1;have tf0:=HT2.f0;have tf1:=HT2.f1;have hN2:=HT2.lt;have HB2:=hI (HB.o.trans (hb2.mono HB.o.size));clear hX HC hp hb2 HT2;go_wp2
    refine bodyPost_ret (v:=tyV (T0,T1)) (by simp[results,results119,go_sem,tyV,t0,t1,hN2]) rfl (zP.okI HP.o rfl ?_);exact bal (yQ HB2.o (Nat.le_add_right _ _) _ _) _
   ·exact⟨rfl,zP.badI (by rw[HP.o,hp];rfl) ⟨rfl,HB.o.trans (hb2.mono HB.o.size)⟩⟩
 case false =>
 cases h5:(k == zK);case true =>
  have HP:=hI (show qJu E (.mk k x m ln co ks)=.ok (tyL x) by rw[HP.o,h1,h2,h3,h5];rfl);obtain⟨gv,vv,Mg,Mo,Mr,F,o,cl,hE⟩:=H2.o;have HC:=hI (qKd (.mk k x m ln co ks) (.slice q ks.length c) _ hE.wt);simp only[Bool.or_eq_false_iff]at h2 h3;obtain⟨h2a,h2b⟩:=h2;obtain⟨h3a,h3b⟩:=h3;simp only[qZ,qQ.kind,qQ.text,qQ.num,qQ.line,qQ.col,qQ.kids]at HC;unfold zD at h1;unfold zL at h2a;unfold qH at h2b;unfold zM at h3a;unfold qL at h3b;unfold zK at h5;clear hE;go_enter func119,ntmps119
  go_wp2_with fail
  refine(HC.o).mono ?_;rintro e w2 ⟨rfl,hb2⟩;have HT2:=HT.o.below hb2;have t0:=HT2.c0;have t1:=HT2.c1;have tf0:=HT2.f0;have tf1:=HT2.f1;have hN2:=HT2.lt;have HB2:=hI (HB.o.trans (hb2.mono HB.o.size));clear HC hb2 HT2;generalize tyL x=T at *;obtain⟨T0,T1⟩:=T;unfold tyV at *;go_wp2
  refine bodyPost_ret (v:=tyV (T0,T1)) (by simp[results,results119,go_sem,tyV,t0,t1,hN2]) rfl (zP.okI HP.o rfl ?_);exact yQ HB2.o (Nat.le_add_right _ _) _ _
 case false =>
 obtain⟨hku,⟨r,hr⟩,hk2⟩:=(HWF.o.resolve_left (fun h=>by simp only[Bool.or_eq_true,Bool.or_eq_false_iff]at h h2 h3;rw[h1,h2.1,h2.2,h3.1]at h;simp at h)).resolve_left (fun h=>by simp only[Bool.or_eq_true,Bool.or_eq_false_iff]at h h3;rw[h3.2,h5]at h;simp at h);have HP:=hI (show qJu E (.mk k x m ln co ks)=if qYw (qXs k x)then .ok zO else qQu E ks by rw[HP.o,h1,h2,h3,h5];rfl);have htr:qYw (qXs k x)=decide (r<=2):=by unfold qYw;rw[hr]
 have HTR:=hI htr;have HC:=hI (qVe (.mk k x m ln co ks) (.slice q ks.length c) ((w.alloc (qB (.mk k x m ln co ks) (.slice q ks.length c))).alloc (tyO noT)).drew hx);simp only[Bool.or_eq_false_iff]at h2 h3;obtain⟨h2a,h2b⟩:=h2;obtain⟨h3a,h3b⟩:=h3;have HFI:=hI (fun w' (hb:Below ((w.alloc (qB (.mk k x m ln co ks) (.slice q ks.length c))).alloc (tyO noT)).1.size ((w.alloc (qB (.mk k x m ln co ks) (.slice q ks.length c))).alloc (tyO noT)) w')=>qWN B L E ks q c w' HR.o (H2.o.below hb) (by have:=hb.size;simp at this;omega) (HK.o.keep (hb.mono (by simp;omega))) (by unfold maxLen at hc2;omega));simp only[qZ,qB,tyO,qS,noT,qQ.kind,qQ.text,qQ.num,qQ.line,qQ.col,qQ.kids]at HC HFI;unfold zD at h1;unfold zL at h2a;unfold qH at h2b;unfold zM at h3a;unfold qL at h3b;unfold zK at h5;have HR2:=hI hr;clear htr hr hku;go_enter func119,ntmps119
 go_wp2
 generalize ((w.alloc (.cells #[.string ⟨k.toArray⟩, .string ⟨x.toArray⟩, .int .u64 m, .int .i64 ln, .int .i64 co, .slice q ks.length c] 57)).alloc (.cells #[.int .i64 0, .bool false] 37))=W at *;obtain⟨n0,n1,n2,n3,n4,n5⟩:=HN.o.cells;obtain⟨gv,vv,Mg,Mo,Mr,F,o,cl,hE⟩:=H2.o;have c6:=hE.c6;refine wRg (S:=fun w'=>Below W.1.size W w') 6 ?_;refine wTk 0 33 (.pointer (some ⟨B,0,none⟩)) ?_ (bD W) ?_
 ·intro _ y;go_simp
 refine wTk 1 34 (.pointer (some ⟨B,0,none⟩)) ?_ (bD W) ?_
 ·intro _ y;go_simp
 refine wTk 2 35 (.pointer (some ⟨B,6,none⟩)) ?_ (bD W) ?_
 ·intro _ y;go_simp
 refine wTk 3 36 (.map (some Mr)) ?_ (bD W) ?_
 ·intro _ y;obtain⟨c6,n0,n1,n2,n3,n4⟩:=kP6 y c6 n0 n1 n2 n3 n4;have n5:=kP y n5;go_simp
 refine wTk 4 37 (.agg #[.string ⟨k.toArray⟩, .string ⟨x.toArray⟩, .int .u64 m, .int .i64 ln, .int .i64 co, .slice q ks.length c]) ?_ (bD W) ?_
 ·intro _ y;obtain⟨c6,n0,n1,n2,n3,n4⟩:=kP6 y c6 n0 n1 n2 n3 n4;have n5:=kP y n5;go_simp
 refine wOn 5 fun K hK=>?_
 go_simp;refine(HC.o).mono ?_;rintro e w2 ⟨rfl,hb2⟩;refine kK hK (zF hb2) ?_;clear hK K;have hbW:=zF hb2;have hlk:=(hE.rm.below hbW).look HR2.o (by have:=op_len k x;unfold maxLen;omega);have hf0:=qL1;refine wOn 6 fun K hK=>?_
 go_simp;refine kD hK ?_;clear hK K;refine wOn 7 fun K hK=>?_
 unfold qKr at *;go_simp;refine kD hK ?_;clear hK K;refine wDn ?_ _;have HT2:=HT.o.below hbW;have t0:=HT2.c0;have t1:=HT2.c1;have tf0:=HT2.f0;have tf1:=HT2.f1;have hN2:=HT2.lt;have HB2:=hI (HB.o.trans (hbW.mono HB.o.size));have hE2:=hE.below hbW;have d0:=hE2.b0;have d1:=hE2.b1;have hG:1 < w2.1.size:=qJ d0;have hn5:=kP hbW n5;have HF:=hI (HFI.o w2 hbW);clear hE hE2 hlk hf0 hb2 HC n0 n1 n2 n3 n4 n5 c6;by_cases hr2:r<=2
 ·have hd:decide (r<=2)=true:=decide_eq_true hr2;have HP:=hI (show qJu E (.mk k x m ln co ks)=.ok (1,false) by rw[HP.o,HTR.o,hd];rfl);rw[hd];clear hr2 hd;go_wp2
  refine bodyPost_ret (v:=tyV (1,false)) (by simp[results,results119,go_sem,tyV,t0,t1,hN2]) rfl (zP.okI HP.o rfl ?_);exact yQ HB2.o (Nat.le_add_right _ _) _ _
 ·have hd:decide (r<=2)=false:=decide_eq_false hr2;have HP:=hI (show qJu E (.mk k x m ln co ks)=qQu E ks by rw[HP.o,HTR.o,hd];rfl);rw[hd];clear hr2 hd;go_wp2_with fail
  refine(HF.o).mono ?_;rintro e w3 hX;rcases hX.cases with⟨T,u,hp,rfl,rfl,hb3⟩ | ⟨l',c',code,hp,rfl,hb3⟩
  ·obtain⟨T0,T1⟩:=T;unfold tyV;have HP:=hI (show qJu E (.mk k x m ln co ks)=.ok (T0,T1) by rw[HP.o,hp]);have HT3:=(HT.o.below hbW).below hb3;have t0:=HT3.c0;have t1:=HT3.c1;have tf0:=HT3.f0;have tf1:=HT3.f1;have hN2:=HT3.lt;have HB3:=hI (HB2.o.trans (hb3.mono HB2.o.size));clear hX HF hp hb3 HT3 hbW;go_wp2
   refine bodyPost_ret (v:=tyV (T0,T1)) (by simp[results,results119,go_sem,tyV,t0,t1,hN2]) rfl (zP.okI HP.o rfl ?_);exact yQ HB3.o (Nat.le_add_right _ _) _ _
  ·exact⟨rfl,zP.badI (by rw[HP.o,hp]) ⟨rfl,HB2.o.trans (hb3.mono HB2.o.size)⟩⟩
mutual
theorem sug_all:∀ (t:qQ),wfE t=true->qYS t
 | .mk k x m ln co ks,h=>sug_step (.mk k x m ln co ks) h (qJV ks (qQs h).2.2.1)
theorem qJV:∀ (ts:List qQ),qZV ts=true->∀ u∈ts,qYS u
 | [],_,u,hu=>by simp at hu
 | t :: r,h,u,hu=>by
  rw[qZV,bE]at h;rcases List.mem_cons.1 hu with e | hu
  ·rw[e];exact sug_all t h.1
  ·exact qJV r h.2 u hu
end
def qQt(a:Ty×Bool):Value:=.tuple #[tyV a.1, .bool a.2]
structure qYP(T:Ty)(w W:World):Prop where
 bl:Below w.1.size w W
 t:qZ7 w.1.size T W
 r:qZ7 (w.1.size+1) noT W
 sz:W.1.size=w.1.size+2
theorem qYP.new(T:Ty)(w:World):qYP T w ((w.alloc (tyO T)).alloc (tyO noT)) :=
 ⟨bal (bal (Below.refl _ _) _) _,(qZ7.new T w).below (bal (Below.refl _ _) _),by have:=qZ7.new noT (w.alloc (tyO T));simpa using this,by simp⟩
theorem ask0(B:Nat)(E:Env)(u:Value)(T:Ty)(w:World)(h:EAt B E w) :
 Calls prog 78 #[u,tyV T] w (zP (.ok (zO,decide (T=zO))) (fun a v _=>v=qQt a) w):=by
 have A:=qYP.new T w;have HE:=hI (h.below A.bl);clear h;obtain⟨T0,T1⟩:=T;have hsz0:0 < w.1.size:=by
  obtain⟨gv,vv,Mg,Mo,Mr,F,o,cl,hE⟩:=HE.o;have:=A.sz;have:=qJ hE.d0;simp only at this;omega
 have hn0:¬w.1.size=0:=by omega
 have hn1:¬0=w.1.size:=by omega
 unfold tyV tyO noT at *;simp only at *;go_enter func78,ntmps78
 go_wp2
 generalize ((w.alloc _).alloc _)=W at *;obtain⟨gv,vv,Mg,Mo,Mr,F,o,cl,hE⟩:=HE.o;have d0:=hE.b0;have d1:=hE.b1;have hG:1 < W.1.size:=qJ d0;have t0:=A.t.c0;have t1:=A.t.c1;have r0:=A.r.c0;have r1:=A.r.c1;have rf0:=A.r.f0;have rf1:=A.r.f1;have HB:=hI A.bl;clear hE A HE;by_cases h0:T0=1
 ·subst h0;cases T1
  ·go_region
   go_wp2
   refine bodyPost_ret (v:=qQt (zO,true)) (by simp[results,results78,go_sem,qQt,tyV,zO,r0,r1]) rfl (zP.okI rfl rfl ?_);first | exact(yQ HB.o (Nat.le_add_right _ _) _ _).drew | exact(HB.o.setCell (p:=⟨w.1.size+1,0,none⟩) (Nat.le_add_right _ _) _).drew
  ·go_region
   go_wp2
   refine bodyPost_ret (v:=qQt (zO,false)) (by simp[results,results78,go_sem,qQt,tyV,zO,r0,r1]) rfl (zP.okI rfl rfl ?_);first | exact(yQ HB.o (Nat.le_add_right _ _) _ _).drew | exact(HB.o.setCell (p:=⟨w.1.size+1,0,none⟩) (Nat.le_add_right _ _) _).drew
 ·have hd:decide (((T0,T1):Ty)=zO)=false:=by simp[zO,h0]
  have hd2:decide (((T0,T1):Ty)≠zO)=true:=by simp[zO,h0]
  have HD:=hI hd;have HD2:=hI hd2;clear hd hd2;go_region
  go_wp2
  refine bodyPost_ret (v:=qQt (zO,false)) (by simp[results,results78,go_sem,qQt,tyV,zO,r0,r1,h0]) rfl (zP.okI (by rw[HD.o] <;> rfl) rfl ?_);exact(yQ HB.o (Nat.le_add_right _ _) _ _).drew
theorem ask3(B:Nat)(E:Env)(u:Value)(T:Ty)(w:World)(h:EAt B E w) :
 Calls prog 79 #[u,tyV T] w (zP (.ok (T,decide (T≠zO))) (fun a v _=>v=qQt a) w):=by
 have A:=qYP.new T w;have HE:=hI (h.below A.bl);clear h;obtain⟨T0,T1⟩:=T;have hsz0:0 < w.1.size:=by
  obtain⟨gv,vv,Mg,Mo,Mr,F,o,cl,hE⟩:=HE.o;have:=A.sz;have:=qJ hE.d0;simp only at this;omega
 have hn0:¬w.1.size=0:=by omega
 have hn1:¬0=w.1.size:=by omega
 unfold tyV tyO noT at *;simp only at *;go_enter func79,ntmps79
 go_wp2
 generalize ((w.alloc _).alloc _)=W at *;obtain⟨gv,vv,Mg,Mo,Mr,F,o,cl,hE⟩:=HE.o;have d0:=hE.b0;have d1:=hE.b1;have hG:1 < W.1.size:=qJ d0;have t0:=A.t.c0;have t1:=A.t.c1;have r0:=A.r.c0;have r1:=A.r.c1;have rf0:=A.r.f0;have rf1:=A.r.f1;have HB:=hI A.bl;clear hE A HE;by_cases h0:T0=1
 ·subst h0;cases T1
  ·go_region
   go_wp2
   refine bodyPost_ret (v:=qQt (zO,false)) (by simp[results,results79,go_sem,qQt,tyV,zO,r0,r1]) rfl (zP.okI rfl rfl ?_);first | exact(yQ HB.o (Nat.le_add_right _ _) _ _).drew | exact(HB.o.setCell (p:=⟨w.1.size+1,0,none⟩) (Nat.le_add_right _ _) _).drew
  ·go_region
   go_wp2
   refine bodyPost_ret (v:=qQt ((1,true),true)) (by simp[results,results79,go_sem,qQt,tyV,zO,r0,r1]) rfl (zP.okI rfl rfl ?_);first | exact(yQ HB.o (Nat.le_add_right _ _) _ _).drew | exact(HB.o.setCell (p:=⟨w.1.size+1,0,none⟩) (Nat.le_add_right _ _) _).drew
 ·have hd:decide (((T0,T1):Ty)=zO)=false:=by simp[zO,h0]
  have hd2:decide (((T0,T1):Ty)≠zO)=true:=by simp[zO,h0]
  have HD:=hI hd;have HD2:=hI hd2;clear hd hd2;go_region
  go_wp2
  refine bodyPost_ret (v:=qQt ((T0,T1),true)) (by simp[results,results79,go_sem,qQt,tyV,zO,r0,r1,h0]) rfl (zP.okI (by rw[HD.o] <;> rfl) rfl ?_);exact(yQ HB.o (Nat.le_add_right _ _) _ _).drew
theorem ask4(B:Nat)(E:Env)(u:Value)(T:Ty)(w:World)(h:EAt B E w) :
 Calls prog 80 #[u,tyV T] w (zP (.ok (T,true)) (fun a v _=>v=qQt a) w):=by
 obtain⟨T0,T1⟩:=T;unfold tyV;simp only;go_enter func80,ntmps80
 go_wp2
 refine bodyPost_ret (v:=qQt ((T0,T1),true)) (by simp[results,results80,go_sem,qQt,tyV]) rfl (zP.okI rfl rfl ?_);first | exact bal (bal (Below.refl _ _) _) _ | exact yQ (bal (bal (Below.refl _ _) _) _) (Nat.le_add_right _ _) _ _
def qYV(E:Env)(ks:List qQ)(T:Ty):CR (Ty×Bool):=if T≠zO then .ok (T,false)else(yB E ks).bind fun u=>.ok (u,true)
theorem ask1(B L cc:Nat)(E:Env)(ks:List qQ)(q:Option Addr)(c:Nat)(T:Ty)(w:World)(hw:qZV ks=true)(h:EAt B E w)(hcc:w.cell? ⟨cc,0,none⟩=some (.pointer (some ⟨B,0,none⟩)))(hL:L<=w.1.size)(hK:yD L w ks q)(hn:ks.length<=1000000) :
 Calls prog 81 #[.slice q ks.length c,tyV T, .pointer (some ⟨cc,0,none⟩)] w (zP (qYV E ks T) (fun a v _=>v=qQt a) w):=by
 have A:=qYP.new T w;have HC:=hI (qKD B L E ks q c _ (qJV ks hw) (h.below A.bl) (by simp;omega) (hK.keep (A.bl.mono hL)) hn);obtain⟨gv,vv,Mg,Mo,Mr,F,o,cl,hE⟩:=h;have d0:=hE.b0;have d1:=hE.b1;have hcl:=qJ hcc;simp only at hcl;have hG:2 < w.1.size:=qJ hE.d0;have hG0:0 < w.1.size:=by omega
 have hG1:1 < w.1.size:=by omega
 have hG2:1 < w.1.size+1:=by omega
 have hc1:cc < w.1.size+1:=by omega
 have HA:=hI A;clear hE hK A hw;obtain⟨T0,T1⟩:=T;unfold tyV;unfold tyO noT at *;simp only at *;by_cases h0:T0=1
 ·subst h0;cases T1
  ·go_enter func81,ntmps81
   go_wp2_with fail
   refine(HC.o).mono ?_;rintro e w2 hX;rcases hX.cases with⟨a,v,hp,rfl,rfl,hb2⟩ | ⟨l',c',code,hp,rfl,hb2⟩
   ·obtain⟨U0,U1⟩:=a;unfold tyV;have hR2:=HA.o.r.below hb2;have r0:=hR2.c0;have r1:=hR2.c1;have rf0:=hR2.f0;have rf1:=hR2.f1;have hN2:=hR2.lt;have HB2:=hI (HA.o.bl.trans (hb2.mono HA.o.bl.size));have HP:=hI hp;clear hX hb2 hR2 hp HC;go_wp2
    refine bodyPost_ret (v:=qQt ((U0,U1),true)) (by simp[results,results81,go_sem,qQt,tyV,r0,r1,hN2]) rfl (zP.okI (by show(yB E ks).bind _=_;rw[HP.o];rfl) rfl ?_);exact yQ HB2.o (Nat.le_add_right _ _) _ _
   ·exact⟨rfl,zP.badI (by show(yB E ks).bind _=_;rw[hp];rfl) ⟨rfl,HA.o.bl.trans (hb2.mono HA.o.bl.size)⟩⟩
  ·go_enter func81,ntmps81
   go_wp2
   refine bodyPost_ret (v:=qQt ((1,true),false)) (by simp[results,results81,go_sem,qQt,tyV]) rfl (zP.okI rfl rfl ?_);first | exact HA.o.bl | exact yQ HA.o.bl (Nat.le_add_right _ _) _ _ | exact bal (bal (Below.refl _ _) _) _
 ·have HZ:=hI (show qYV E ks (T0,T1)=.ok ((T0,T1),false) by unfold qYV;rw[if_pos (by simp[zO,h0])]);go_enter func81,ntmps81
  go_wp2
  refine bodyPost_ret (v:=qQt ((T0,T1),false)) (by simp[results,results81,go_sem,qQt,tyV]) rfl (zP.okI HZ.o rfl ?_);first | exact HA.o.bl | exact yQ HA.o.bl (Nat.le_add_right _ _) _ _ | exact bal (bal (Below.refl _ _) _) _
def qJx(E:Env)(ks:List qQ)(T:Ty):CR (Ty×Bool):=if T≠zO then .ok (T,false)else(yB E ks).bind fun u=>.ok (u,decide (u≠zO))
theorem askOrd_eq(E:Env)(ks:List qQ)(T:Ty):qJx E ks T=(qYV E ks T).bind fun a=>.ok (a.1,a.2 && decide (a.1≠zO)):=by
 unfold qJx qYV;split
 ·rfl
 ·cases yB E ks <;> simp[CR.bind]
theorem ask2(B L ce cc:Nat)(E:Env)(ks:List qQ)(q:Option Addr)(c:Nat)(T:Ty)(w:World)(hw:qZV ks=true)(h:EAt B E w)(hcc:w.cell? ⟨cc,0,none⟩=some (.pointer (some ⟨B,0,none⟩)))(hce:w.cell? ⟨ce,0,none⟩=some (.func (.func 81) #[] #[.pointer (some ⟨cc,0,none⟩)]))(hL:L<=w.1.size)(hK:yD L w ks q)(hn:ks.length<=1000000) :
 Calls prog 83 #[.slice q ks.length c,tyV T, .pointer (some ⟨ce,0,none⟩)] w (zP (qJx E ks T) (fun a v _=>v=qQt a) w):=by
 have A:=qYP.new T w;have HC:=hI (ask1 B L cc E ks q c T _ hw (h.below A.bl) (kP A.bl hcc) (by simp;omega) (hK.keep (A.bl.mono hL)) hn);obtain⟨gv,vv,Mg,Mo,Mr,F,o,cl,hE⟩:=h;have hcl:=qJ hce;simp only at hcl;have hc1:ce < w.1.size+1:=by omega
 have HA:=hI A;have HO:=hI (askOrd_eq E ks T);have HE:=hI hE;clear hK hw hE;obtain⟨T0,T1⟩:=T;unfold tyV at *;unfold tyO noT at *;simp only at *;have hcf:∀ (args:Array Value) (w:World),(callFunc 81 args).run prog w=.ok (.enter 81 args) w:=fun _ _=>rfl
 go_enter func83,ntmps83
 go_wp2_with fail
 refine(HC.o).mono ?_;rintro e w2 hX;rcases hX.cases with⟨a,v,hp,rfl,rfl,hb2⟩ | ⟨l',c',code,hp,rfl,hb2⟩
 ·obtain⟨⟨U0,U1⟩,b⟩:=a;unfold qQt tyV;have hR2:=HA.o.r.below hb2;have HB2:=hI (HA.o.bl.trans (hb2.mono HA.o.bl.size));have HP:=hI hp;have hE2:=HE.o.below HB2.o;have HBB:=hI (bal HB2.o (.cells #[.int .i64 U0, .bool U1] 37));have hE3:=HE.o.below HBB.o;have hR3:=hR2.below (bal (Below.refl _ _) (.cells #[.int .i64 U0, .bool U1] 37));have hU:=qZ7.new (U0,U1) w2;unfold tyO at hU;have HN2:=hR2.lt;have HU:=hI hU;have hN3:w2.1.size < (w2.alloc (.cells #[.int .i64 U0, .bool U1] 37)).1.size:=by simp
  have hNe:¬w2.1.size=w.1.size+1:=by omega
  have hNe':¬w.1.size+1=w2.1.size:=by omega
  clear hX hb2 hR2 hp HC hE2 hU;go_wp2
  generalize (w2.alloc _)=W at *;have d0:=hE3.b0;have d1:=hE3.b1;have hG:1 < W.1.size:=qJ d0;have r0:=hR3.c0;have r1:=hR3.c1;have rf0:=hR3.f0;have rf1:=hR3.f1;have u0:=HU.o.c0;have u1:=HU.o.c1;have hw0:¬w.1.size=0:=by have:=qJ HE.o.b0;simp only at this;omega
  have hw1:¬0=w.1.size:=by omega
  clear hE3 hR3;cases b
  ·have HQ:=hI (show qJx E ks (T0,T1)=.ok ((U0,U1),false) by rw[HO.o,HP.o];rfl);go_region
   go_wp2
   refine bodyPost_ret (v:=qQt ((U0,U1),false)) (by simp[results,results83,go_sem,qQt,tyV,r0,r1]) rfl (zP.okI HQ.o rfl ?_);exact(yQ HBB.o (Nat.le_add_right _ _) _ _).drew
  ·by_cases h0:U0=1
   ·subst h0;cases U1
    ·have HQ:=hI (show qJx E ks (T0,T1)=.ok (zO,false) by rw[HO.o,HP.o];rfl);go_region
     go_wp2
     refine bodyPost_ret (v:=qQt (zO,false)) (by simp[results,results83,go_sem,qQt,tyV,zO,r0,r1]) rfl (zP.okI HQ.o rfl ?_);exact(yQ HBB.o (Nat.le_add_right _ _) _ _).drew
    ·have HQ:=hI (show qJx E ks (T0,T1)=.ok ((1,true),true) by rw[HO.o,HP.o];rfl);go_region
     go_wp2
     refine bodyPost_ret (v:=qQt ((1,true),true)) (by simp[results,results83,go_sem,qQt,tyV,zO,r0,r1]) rfl (zP.okI HQ.o rfl ?_);exact(yQ HBB.o (Nat.le_add_right _ _) _ _).drew
   ·have HQ:=hI (show qJx E ks (T0,T1)=.ok ((U0,U1),true) by rw[HO.o,HP.o];simp[CR.bind,zO,h0]);go_region
    go_wp2
    refine bodyPost_ret (v:=qQt ((U0,U1),true)) (by simp[results,results83,go_sem,qQt,tyV,zO,r0,r1,h0]) rfl (zP.okI HQ.o rfl ?_);exact(yQ HBB.o (Nat.le_add_right _ _) _ _).drew
 ·exact⟨rfl,zP.badI (by rw[HO.o,hp];rfl) ⟨rfl,HA.o.bl.trans (hb2.mono HA.o.bl.size)⟩⟩
def ExpR(lo:Nat)(a:Ex)(u:Value)(w':World):Prop:=∃ kv,u=exV a kv/\qU w' (fun g=>lo<=g) a.kids kv
def qXL(t:qQ):Prop:=∀ (B L:Nat) (E:Env) (v:Value) (T:Ty) (w:World),EAt B E w->L<=w.1.size->xZ w (· < L) t v ->
 Calls prog 134 #[.pointer (some ⟨B,0,none⟩),qZ t v,tyV T] w (zP (qQT E t T) (ExpR w.1.size) w)
theorem qVS{ops:Array Oper}{rest:List Oper}{o:Oper}{a:Act}{Q:Exit->Act->World->Prop}{w:World}{lo SZ dd:Nat}{acc:List Ex}{e:Ex}{v u:Value}(hgd:o.guard=none)(s x:Operand)
 (ho:o.op=.call { callee:=.builtin .append,args:=#[s,x],argTypes:=#[71,71] }) (hd:o.dst=some dd) (hB:wC w lo acc v) (hE:qU w (fun g=>lo<=g/\some g≠v.ownBlock) e.kids u) (hlo:lo<=w.1.size)
 (hs:a.eval s=v) (hS:w.1.size=SZ) (hx:a.eval x=.slice (some ⟨SZ,0,none⟩) 1 1) (hn:acc.length < 1000000)
 (h:∀ v' w',wC w' lo (acc++[e]) v'->(w.alloc (.cells (exC e u).toArray 76)).grownBy w' v.ownBlock->wpList prog ops Q rest (a.put (some dd) v') w') :
 wpList prog ops Q (o :: rest) a (w.alloc (.cells (exC e u).toArray 76)) :=
 wpList_plain hgd fun _ hK'=>qYU s x ho hd hB hE hlo hs hS hx hn fun v' w' h1 h2=>hK' _ _ (h v' w' h1 h2)
theorem CR.bind_assoc{α β γ:Type}(p:CR α)(f:α->CR β)(g:β->CR γ):(p.bind f).bind g=p.bind fun a=>(f a).bind g:=by cases p <;> rfl
theorem expsC_at{E:Env}{ts:List qQ}{T:Ty}{k:Nat}(h:k < ts.length):vD E (ts.drop k) T=(qQT E ts[k] T).bind fun e=>(vD E (ts.drop (k+1)) T).bind fun es=>.ok (e :: es):=by
 rw[List.drop_eq_getElem_cons h,vD]
theorem wC.shape{w:World}{lo:Nat}{es:List Ex}{v:Value}(h:wC w lo es v):∃ q n c,v=.slice q n c:=by
 obtain⟨vs,h1,_⟩:=h;rcases h1.2 with⟨rfl,_⟩ | ⟨g,cap,cur,rfl,_⟩
 ·exact⟨none,0,0,rfl⟩
 ·exact⟨_,_,_,rfl⟩
def ERel(E:Env)(ts:List qQ)(T:Ty)(W:World)(v i:Value)(wr:World):Prop :=
 ∃ (k:Nat) (acc:List Ex),k<=ts.length/\i=.int .i64 k/\acc.length=k/\wC wr W.1.size acc v/\vD E ts T=((vD E (ts.drop k) T).bind fun es=>.ok (acc++es))/\Below W.1.size W wr
theorem qZs(B L:Nat)(E:Env)(ts:List qQ)(q:Option Addr)(c:Nat)(T:Ty)(w:World)(hrec:∀ t∈ts,qXL t)(h:EAt B E w)(hL:L<=w.1.size)(hK:yD L w ts q)(hn:ts.length<=900000) :
 Calls prog 156 #[.pointer (some ⟨B,0,none⟩), .slice q ts.length c,tyV T] w (zP (vD E ts T) (fun a u w'=>qU w' (fun g=>w.1.size<=g) a u) w):=by
 have HB:=hI (bal (Below.refl w.1.size w) (tyO T));have H2:=hI (h.below HB.o);have HK2:=hI (hK.keep (HB.o.mono hL));have HT:=hI (qZ7.new T w);have HR:=hI hrec;have hsz:(w.alloc (tyO T)).1.size=w.1.size+1:=by simp
 clear h hK hrec;obtain⟨T0,T1⟩:=T;unfold tyV;unfold tyO at *;simp only at *;go_enter func156,ntmps156
 go_wp2
 generalize (w.alloc _)=W at *;go_loopw [7,12] (fun v i wr=>ERel E ts (T0,T1) W v i wr) (fun _ i _=>ts.length - (intOf i).toNat)
 case atStart=>exact⟨0,[],Nat.zero_le _,rfl,rfl,wC.nil _ _,by rw[List.drop_zero];cases vD E ts (T0,T1) <;> rfl,Below.refl _ _⟩
 case round =>
  obtain⟨k,acc,hk,rfl,hacc,hbd,hf,hb⟩:=hrel;obtain⟨q7,n7,c7,rfl⟩:=hbd.shape;have HBr:=hI (HB.o.trans (hb.mono (by omega)));have HTr:=HT.o.below hb;have t0:=HTr.c0;have t1:=HTr.c1;have hNr:=HTr.lt;have HBD:=hI hbd;have HF:=hI hf;clear hbd hf;by_cases hlt:k < ts.length
  ·obtain⟨g,off,rfl,hR⟩:=(HK2.o.keep (hb.mono (by omega))).resolve_left (fun e=>by rw[e]at hlt;simp at hlt);obtain⟨qa,na,ca,hla,hca⟩:=hR.2 k hlt;have⟨k0,k1,k2,k3,k4,k5,_⟩:=hca.a;have hmem:ts[k]∈ts:=List.getElem_mem hlt;have hbs:=hb.size;have hba:=Below.alloc (a:=wr) (Below.refl wr.1.size wr) (Nat.le_refl _) (qB ts[k] (.slice qa na ca));have HC:=hI (HR.o _ hmem B L E (.slice qa na ca) (T0,T1) _ ((H2.o.below hb).below hba) (by simp;omega) (hla.keep (hba.mono (by omega))));have HA:=hI (expsC_at (E:=E) (T:=(T0,T1)) hlt);have HBA:=hI (hb.trans (hba.mono (by omega)));have HWA:=hI (HBr.o.trans (hba.mono (by omega)));have HBD2:=hI (HBD.o.below hba);clear hca hla hR hmem hb hba HTr;generalize hu:ts[k]=u at *;simp only[qS,qZ,qB,tyV]at *;go_wp2_with fail
   refine(HC.o).mono ?_;rintro e w2 hX;rcases hX.cases with⟨a,uu,hp,rfl,⟨kv,rfl,hkv⟩,hb2⟩ | ⟨ln,co,code,hp,rfl,hb2⟩
   ·obtain⟨aop,⟨aT0,aT1⟩,an,av,ag,al,ac,ak⟩:=a;have HBD3:=hI (HBD2.o.below hb2);have HB2:=hI (HBA.o.trans (hb2.mono (by have:=HBA.o.size;omega)));have HW2:=hI (HWA.o.trans (hb2.mono (by have:=HWA.o.size;omega)));have HP:=hI hp;have hlt3:=HBD2.o.lt;have HKV:=hI (hkv.mono (ok':=fun g=>W.1.size<=g/\some g≠(Value.slice q7 n7 c7).ownBlock) (fun g hg=>⟨by simp at hg;omega,fun e=>by have:=(hlt3 g e.symm).2;omega⟩));have hlw:=HB2.o.size;clear hX HC hp hb2 hkv k0 k1 k2 k3 k4 k5 hlt3;simp only[exV,Ex.kids]at *;go_wp2_with (at_builtin;refine qVS (dd:=22) (e:=.mk aop (aT0,aT1) an av ag al ac ak) (u:=kv) (acc:=acc) (lo:=W.1.size) rfl _ _ rfl rfl HBD3.o HKV.o (by omega) rfl rfl rfl (by omega) ?_)
    intro v9 w9 hb9 hg9;obtain⟨q9,n9,c9,rfl⟩:=hb9.shape;have hga:=hg9.size;simp at hga;have HB9:=hI (HB2.o.trans (((Below.refl w2.1.size w2).alloc (Nat.le_refl _) _).mono hlw) |>.grown hg9 (by simp;omega) (fun j e=>(HBD3.o.lt j e).1));have HP9:=hI hb9;clear hb9 hg9;go_wp2
    refine⟨⟨k+1,acc++[.mk aop (aT0,aT1) an av ag al ac ak],by omega,rfl,by simp;omega,HP9.o,?_,HB9.o⟩,by simp[intOf];omega⟩;rw[HF.o,HA.o,HP.o,CR.bind_assoc];generalize vD E (List.drop (k+1) ts) (T0,T1)=r;cases r <;> simp[CR.bind]
   ·refine⟨rfl,zP.badI (by rw[HF.o,HA.o,hp];rfl) ⟨rfl,HWA.o.trans (hb2.mono (by have:=HWA.o.size;omega))⟩⟩
  ·have HE:=hI (show vD E ts (T0,T1)=.ok acc by rw[HF.o,List.drop_eq_nil_of_le (by omega),vD];simp[CR.bind]);clear hb HTr;go_wp2
   go_ret;refine zP.okI HE.o (HBD.o.lies.mono (fun g hg=>by omega)) HBr.o
theorem jR{b N o:Nat}{a w:World}(h:Below b a w)(hN:b<=N)(u:Value):Below b a (w.setCell ⟨N,o,none⟩ u):=h.setCell (p:=⟨N,o,none⟩) hN u
theorem set9{b N:Nat}{a w:World}(h:Below b a w)(hN:b<=N)(u0 u1 u2 u3 u4 u5 u6 u7 u8:Value):Below b a (((((((((w.setCell ⟨N,0,none⟩ u0).setCell ⟨N,1,none⟩ u1).setCell ⟨N,2,none⟩ u2).setCell ⟨N,3,none⟩ u3).setCell ⟨N,4,none⟩ u4).setCell ⟨N,5,none⟩ u5).setCell ⟨N,6,none⟩ u6).setCell ⟨N,7,none⟩ u7).setCell ⟨N,8,none⟩ u8) :=
 jR (jR (jR (jR (jR (jR (jR (jR (jR h hN _) hN _) hN _) hN _) hN _) hN _) hN _) hN _) hN _
structure qQf(N:Nat)(op:List UInt8)(T:Ty)(n va:Int)(g:Bool)(l c:Int)(kv:Value)(w:World):Prop where
 c0:w.cell? ⟨N,0,none⟩=some (.string ⟨op.toArray⟩)
 c1:w.cell? ⟨N,1,none⟩=some (.int .i64 T.1)
 c2:w.cell? ⟨N,2,none⟩=some (.bool T.2)
 c3:w.cell? ⟨N,3,none⟩=some (.int .u64 n)
 c4:w.cell? ⟨N,4,none⟩=some (.int .i64 va)
 c5:w.cell? ⟨N,5,none⟩=some (.bool g)
 c6:w.cell? ⟨N,6,none⟩=some (.int .i64 l)
 c7:w.cell? ⟨N,7,none⟩=some (.int .i64 c)
 c8:w.cell? ⟨N,8,none⟩=some kv
 f:∀ k,k < 9->w.frozen? ⟨N,k,none⟩=false
theorem qQf.a{N:Nat}{op:List UInt8}{T:Ty}{n va:Int}{g:Bool}{l c:Int}{kv:Value}{w:World}(h:qQf N op T n va g l c kv w):w.cell? ⟨N,0,none⟩=some (.string ⟨op.toArray⟩)/\w.cell? ⟨N,1,none⟩=some (.int .i64 T.1)/\w.cell? ⟨N,2,none⟩=some (.bool T.2)/\w.cell? ⟨N,3,none⟩=some (.int .u64 n)/\w.cell? ⟨N,4,none⟩=some (.int .i64 va)/\w.cell? ⟨N,5,none⟩=some (.bool g)/\w.cell? ⟨N,6,none⟩=some (.int .i64 l)/\w.cell? ⟨N,7,none⟩=some (.int .i64 c)/\w.cell? ⟨N,8,none⟩=some kv/\True:=⟨h.c0,h.c1,h.c2,h.c3,h.c4,h.c5,h.c6,h.c7,h.c8,trivial⟩
theorem qQf.b{N:Nat}{op:List UInt8}{T:Ty}{n va:Int}{g:Bool}{l c:Int}{kv:Value}{w:World}(h:qQf N op T n va g l c kv w):w.frozen? ⟨N,0,none⟩=false/\w.frozen? ⟨N,1,none⟩=false/\w.frozen? ⟨N,2,none⟩=false/\w.frozen? ⟨N,3,none⟩=false/\w.frozen? ⟨N,4,none⟩=false/\w.frozen? ⟨N,5,none⟩=false/\w.frozen? ⟨N,6,none⟩=false/\w.frozen? ⟨N,7,none⟩=false/\w.frozen? ⟨N,8,none⟩=false/\True:=⟨h.f 0 (by decide),h.f 1 (by decide),h.f 2 (by decide),h.f 3 (by decide),h.f 4 (by decide),h.f 5 (by decide),h.f 6 (by decide),h.f 7 (by decide),h.f 8 (by decide),trivial⟩
def exO(op:List UInt8)(T:Ty)(n va:Int)(g:Bool)(l c:Int)(kv:Value):Obj:=.cells #[.string ⟨op.toArray⟩, .int .i64 T.1, .bool T.2, .int .u64 n, .int .i64 va, .bool g, .int .i64 l, .int .i64 c,kv] 76
section
variable {N:Nat} {op:List UInt8} {T:Ty} {n va:Int} {g:Bool} {l c:Int} {kv:Value} {w w':World}
theorem qQf.new(op:List UInt8)(T:Ty)(n va:Int)(g:Bool)(l c:Int)(kv:Value)(w:World):qQf w.1.size op T n va g l c kv (w.alloc (exO op T n va g l c kv)):=by
 unfold exO;constructor
 case f=>intro k hk;match k,hk with | 0,_=>simp[go_sem] | 1,_=>simp[go_sem] | 2,_=>simp[go_sem] | 3,_=>simp[go_sem] | 4,_=>simp[go_sem] | 5,_=>simp[go_sem] | 6,_=>simp[go_sem] | 7,_=>simp[go_sem] | 8,_=>simp[go_sem]
 all_goals simp[go_sem]
theorem qQf.lt(h:qQf N op T n va g l c kv w):N < w.1.size:=qJ h.c0
theorem qQf.below(h:qQf N op T n va g l c kv w)(hb:Below w.1.size w w'):qQf N op T n va g l c kv w' :=
 have k:∀ {p:Addr} {v:Value},w.cell? p=some v->w'.cell? p=some v:=fun e=>kP hb e
 ⟨k h.c0,k h.c1,k h.c2,k h.c3,k h.c4,k h.c5,k h.c6,k h.c7,k h.c8,fun j hj=>(hb.frozen h.lt).trans (h.f j hj)⟩
end
theorem qUq(B:Nat)(E:Env)(t:qQ)(v:Value)(w:World)(h:EAt B E w)(hx:t.text.length<=1000000) :
 Calls prog 153 #[.pointer (some ⟨B,0,none⟩),qZ t v] w (zP (qQ1 E t) (fun a u _=>u=exV a (.slice none 0 0)) w):=by
 have HB:=hI (bal (bal (Below.refl w.1.size w) (qB t v)) (exO [] noT 0 0 false 0 0 (.slice none 0 0)));have HC:=hI (qPz B E t v _ (h.below HB.o) hx);have HN:=hI ((Bx.new t v w).below (bal (Below.refl _ _) (exO [] noT 0 0 false 0 0 (.slice none 0 0))));have HT:=hI (qQf.new [] noT 0 0 false 0 0 (.slice none 0 0) (w.alloc (qB t v)));simp only[World.size_alloc]at HT;have hsz:((w.alloc (qB t v)).alloc (exO [] noT 0 0 false 0 0 (.slice none 0 0))).1.size=w.1.size+2:=by simp
 clear h;obtain⟨k,x,m,ln,co,ks⟩:=t;have HP:=hI (show qQ1 E (.mk k x m ln co ks)=(qZD E (.mk k x m ln co ks)).bind fun r=>(jQ ((k == qL) == decide (0 < r.1.size)) (.mk k x m ln co ks) 41).bind fun _=>.ok (.mk (if k == qL then qL else qMc) r.1.t 0 r.2.1 r.2.2 ln co [])from rfl);simp only[qZ,qB,exO,qS,noT,qQ.kind,qQ.text,qQ.num,qQ.line,qQ.col,qQ.kids]at *;go_enter func153,ntmps153
 go_wp2_with fail
 refine(HC.o).mono ?_;rintro e w2 hX;rcases hX.cases with⟨a,u,hp,rfl,rfl,hb2⟩ | ⟨l',c',code,hp,rfl,hb2⟩;rotate_left
 ·exact⟨rfl,zP.badI (by rw[HP.o,hp];rfl) ⟨rfl,HB.o.trans (hb2.mono HB.o.size)⟩⟩
 obtain⟨⟨nm,⟨T0,T1⟩,sz⟩,i,g⟩:=a;unfold qWS qXK;have HP:=hI (HP.o.trans (by rw[hp];rfl:_=(jQ ((k == qL) == decide (0 < sz)) (.mk k x m ln co ks) 41).bind fun _=>.ok (.mk (if k == qL then qL else qMc) (T0,T1) 0 i g ln co [])));have hN2:=HN.o.below hb2;have hT2:=HT.o.below hb2;have HW2:=hI (HB.o.trans (hb2.mono HB.o.size));have hl2:=hT2.lt;have hl1:=hN2.lt;have HY:=fun b=>hI (fun w'=>qQk b (.mk k x m ln co ks) v 41 w')
 simp only[qZ,qQ.kind,qQ.text,qQ.num,qQ.line,qQ.col,qQ.kids]at HY;have HN2:=hI hN2;have HT2:=hI hT2;obtain⟨n0,n1,n2,n3,n4,n5⟩:=hN2.cells;clear hX HC hp hb2 HN HT HB hN2 hT2;have HA:=hI (bal (Below.refl w2.1.size w2) (.cells #[.string ⟨nm.toArray⟩, .int .i64 T0, .bool T1, .int .i64 sz] 42));have HV:=hI (qQB.new ⟨nm,(T0,T1),sz⟩ w2);simp only[qQe]at HV;cases hk:(k == qL);case false =>
  have HK:=hI hk;unfold qL at hk;go_wp2_with fail
  refine((HY _).out _).mono ?_;rintro e w3 (⟨hbt,rfl,hb3⟩ | ⟨hbt,rfl,hb3⟩);rotate_left
  ·refine⟨rfl,zP.badI (ln:=ln) (co:=co) (code:=41) ?_ ⟨rfl,HW2.o.trans ((HA.o.trans (hb3.mono (by simp))).mono HW2.o.size)⟩⟩;rw[HP.o,HK.o];by_cases hs:0 < sz
   all_goals first | (exfalso;simp[hs]at hbt;done) | (exfalso;simp at hbt;omega) | simp[jQ,CR.bind,hs,qQ.line,qQ.col]
  have HQ:qQ1 E (.mk k x m ln co ks)=.ok (.mk (if k == qL then qL else qMc) (T0,T1) 0 i g ln co []):=by
   rw[HP.o,HK.o];by_cases hs:0 < sz
   all_goals first | (exfalso;simp[hs]at hbt;done) | (exfalso;simp at hbt;omega) | simp[jQ,CR.bind,hs,qQ.line,qQ.col]
  rw[HK.o]at HQ;simp only[bF,if_true,if_false,reduceIte]at HQ;have HQ:=hI HQ;have HB3:=hI (HA.o.trans (hb3.mono (by simp)));have hV3:=HV.o.below hb3;have⟨v0,v1,v2,v3,_⟩:=hV3.a;obtain⟨n0,n1,n2,n3,n4,n5⟩:=(HN2.o.below HB3.o).cells;have hT3:=HT2.o.below HB3.o;have⟨r0,r1,r2,r3,r4,r5,r6,r7,r8,_⟩:=hT3.a;have⟨g0,g1,g2,g3,g4,g5,g6,g7,g8,_⟩:=hT3.b;have HW3:=hI (HW2.o.trans (HB3.o.mono HW2.o.size));clear hbt hb3 hV3 hT3 HY HP;go_wp2
  refine bodyPost_ret (v:=exV (.mk qMc (T0,T1) 0 i g ln co []) (.slice none 0 0)) (by simp[results,results153,go_sem,exV,qMc,r0,r1,r2,r3,r4,r5,r6,r7,r8]) rfl (zP.okI HQ.o rfl ?_);exact set9 HW3.o (Nat.le_add_right _ _) _ _ _ _ _ _ _ _ _
 case true =>
  have HK:=hI hk;unfold qL at hk;go_wp2_with fail
  refine((HY _).out _).mono ?_;rintro e w3 (⟨hbt,rfl,hb3⟩ | ⟨hbt,rfl,hb3⟩);rotate_left
  ·refine⟨rfl,zP.badI (ln:=ln) (co:=co) (code:=41) ?_ ⟨rfl,HW2.o.trans ((HA.o.trans (hb3.mono (by simp))).mono HW2.o.size)⟩⟩;rw[HP.o,HK.o];by_cases hs:0 < sz
   all_goals first | (exfalso;simp[hs]at hbt;done) | (exfalso;simp at hbt;omega) | simp[jQ,CR.bind,hs,qQ.line,qQ.col]
  have HQ:qQ1 E (.mk k x m ln co ks)=.ok (.mk (if k == qL then qL else qMc) (T0,T1) 0 i g ln co []):=by
   rw[HP.o,HK.o];by_cases hs:0 < sz
   all_goals first | (exfalso;simp[hs]at hbt;done) | (exfalso;simp at hbt;omega) | simp[jQ,CR.bind,hs,qQ.line,qQ.col]
  rw[HK.o]at HQ;simp only[bF,if_true,if_false,reduceIte]at HQ;have HQ:=hI HQ;have HB3:=hI (HA.o.trans (hb3.mono (by simp)));have hV3:=HV.o.below hb3;have⟨v0,v1,v2,v3,_⟩:=hV3.a;obtain⟨n0,n1,n2,n3,n4,n5⟩:=(HN2.o.below HB3.o).cells;have hT3:=HT2.o.below HB3.o;have⟨r0,r1,r2,r3,r4,r5,r6,r7,r8,_⟩:=hT3.a;have⟨g0,g1,g2,g3,g4,g5,g6,g7,g8,_⟩:=hT3.b;have HW3:=hI (HW2.o.trans (HB3.o.mono HW2.o.size));clear hbt hb3 hV3 hT3 HY HP;go_wp2
  refine bodyPost_ret (v:=exV (.mk qL (T0,T1) 0 i g ln co []) (.slice none 0 0)) (by simp[results,results153,go_sem,exV,qL,r0,r1,r2,r3,r4,r5,r6,r7,r8]) rfl (zP.okI HQ.o rfl ?_);exact set9 HW3.o (Nat.le_add_right _ _) _ _ _ _ _ _ _ _ _
theorem qVE(B L:Nat)(E:Env)(ks:List qQ)(q:Option Addr)(c:Nat)(w:World)(hw:qZV ks=true)(hrec:∀ t∈ks,qXL t)(h:EAt B E w)(hL:L<=w.1.size)(hK:yD L w ks q)(hn:ks.length<=900000) :
 Calls prog 154 #[.pointer (some ⟨B,0,none⟩), .slice q ks.length c] w (zP (qQL E ks) (fun a u w'=>qU w' (fun g=>w.1.size<=g) a u) w):=by
 by_cases h0:ks.length=0
 ·have HP:=hI (show qQL E ks=.ok [] by unfold qQL;rw[if_pos h0]);rw[h0];go_enter func154,ntmps154
  go_wp2
  go_ret;exact zP.okI HP.o (qU.nil _ _) (Below.refl _ _)
 ·have HP:=hI (show qQL E ks=(yB E ks).bind fun u=>(jQ (decide (u≠zO)) (ks.headD (.mk [] [] 0 0 0 [])) 41).bind fun _=>vD E ks u by unfold qQL;rw[if_neg h0]);have HC:=hI (qKD B L E ks q c w (qJV ks hw) h hL hK (by omega));have H0:=hI h;have HK:=hI hK;have HR:=hI hrec;have hne:¬(ks.length:Int)=0:=by omega
  obtain⟨t,r,hks⟩:∃ t r,ks=t :: r:=by cases ks with | nil=>simp at h0 | cons t r=>exact⟨t,r,rfl⟩
  have HKS:=hI hks;have hlen:0 < ks.length:=by omega
  clear h hK hrec hw hks;go_enter func154,ntmps154
  go_wp2_with fail
  refine(HC.o).mono ?_;rintro e w2 hX;rcases hX.cases with⟨a,u,hp,rfl,rfl,hb2⟩ | ⟨l',c',code,hp,rfl,hb2⟩;rotate_left
  ·exact⟨rfl,zP.badI (by rw[HP.o,hp];rfl) ⟨rfl,hb2⟩⟩
  obtain⟨T0,T1⟩:=a;have HP:=hI (HP.o.trans (by rw[hp,show ks.headD (.mk [] [] 0 0 0 [])=t by rw[HKS.o];rfl];rfl:_=(jQ (decide (((T0,T1):Ty)≠zO)) t 41).bind fun _=>vD E ks (T0,T1)));have HB3:=hI (hb2.trans ((bal (Below.refl w2.1.size w2) (tyO (T0,T1))).mono hb2.size));have HT:=hI (qZ7.new (T0,T1) w2);have hs2:=hb2.size;have hsz:(w2.alloc (tyO (T0,T1))).1.size=w2.1.size+1:=by simp
  have HE:=hI (H0.o.below HB3.o);have HK3:=hI (HK.o.keep (HB3.o.mono hL));clear hX HC hp hb2;unfold tyV;unfold tyO at *;simp only at *;go_wp2
  generalize (w2.alloc _)=W at *;obtain⟨g,off,rfl,hR⟩:=HK3.o.resolve_left (fun e=>by rw[e]at hlen;simp at hlen);obtain⟨qa,na,ca,hla,hca⟩:=hR.2 0 hlen;have et:ks[0]=t:=by have:=HKS.o;subst this;rfl
  rw[et]at hca hla;simp only[Nat.zero_mul,Nat.add_zero]at hca;have⟨k0,k1,k2,k3,k4,k5,_⟩:=hca.a;have t0:=HT.o.c0;have t1:=HT.o.c1;obtain⟨gv,vv,Mg,Mo,Mr,F,o,cl,hE⟩:=HE.o;have d0:=hE.b0;have d1:=hE.b1;clear hE hca hla hR;have hG:1 < W.1.size:=qJ d0;have HNY:=hI (fun w'=>qQl t (.slice qa na ca) 41 w');have HNN:=hI (fun w'=>qQ5 t (.slice qa na ca) 41 w');unfold qZ at HNY HNN;by_cases hz:T0=1
  ·subst hz;cases T1
   ·skip
    refine wRg (S:=fun w'=>Below W.1.size W w') 6 ?_;refine wTk 0 12 (.agg #[.int .i64 1, .bool false]) ?_ (bD W) ?_
    ·intro _ y;obtain⟨t0,t1,d0,d1,k0,k1,k2,k3,k4,k5⟩:=kP10 y t0 t1 d0 d1 k0 k1 k2 k3 k4 k5;go_simp
    refine wTk 1 13 (.agg #[.int .i64 1, .bool false]) ?_ (bD W) ?_
    ·intro _ y;obtain⟨t0,t1,d0,d1,k0,k1,k2,k3,k4,k5⟩:=kP10 y t0 t1 d0 d1 k0 k1 k2 k3 k4 k5;go_simp
    refine wTk 2 14 (.bool false) ?_ (bD W) ?_
    ·intro _ y;obtain⟨t0,t1,d0,d1,k0,k1,k2,k3,k4,k5⟩:=kP10 y t0 t1 d0 d1 k0 k1 k2 k3 k4 k5;go_simp
    refine wTk 3 15 (.slice (some ⟨g,off,none⟩) ks.length c) ?_ (bD W) ?_
    ·intro _ y;go_simp
    refine wTk 4 16 (.pointer (some ⟨g,off,none⟩)) ?_ (bD W) ?_
    ·intro _ y;go_simp
    refine wTk 5 17 (.agg #[.string ⟨t.kind.toArray⟩, .string ⟨t.text.toArray⟩, .int .u64 t.num, .int .i64 t.line, .int .i64 t.col, .slice qa na ca]) ?_ (bD W) ?_
    ·intro _ y;obtain⟨t0,t1,d0,d1,k0,k1,k2,k3,k4,k5⟩:=kP10 y t0 t1 d0 d1 k0 k1 k2 k3 k4 k5;go_simp
    refine wOn 6 fun K hK=>?_
    go_simp;refine(HNN.o _).mono ?_;rintro e w3 ⟨rfl,hb3⟩;exact⟨rfl,zP.badI (by rw[HP.o];rfl) ⟨rfl,HB3.o.trans ((zF hb3).mono HB3.o.size)⟩⟩
   ·skip
    refine wRg (S:=fun w'=>Below W.1.size W w') 6 ?_;refine wTk 0 12 (.agg #[.int .i64 1, .bool true]) ?_ (bD W) ?_
    ·intro _ y;obtain⟨t0,t1,d0,d1,k0,k1,k2,k3,k4,k5⟩:=kP10 y t0 t1 d0 d1 k0 k1 k2 k3 k4 k5;go_simp
    refine wTk 1 13 (.agg #[.int .i64 1, .bool false]) ?_ (bD W) ?_
    ·intro _ y;obtain⟨t0,t1,d0,d1,k0,k1,k2,k3,k4,k5⟩:=kP10 y t0 t1 d0 d1 k0 k1 k2 k3 k4 k5;go_simp
    refine wTk 2 14 (.bool true) ?_ (bD W) ?_
    ·intro _ y;obtain⟨t0,t1,d0,d1,k0,k1,k2,k3,k4,k5⟩:=kP10 y t0 t1 d0 d1 k0 k1 k2 k3 k4 k5;go_simp
    refine wTk 3 15 (.slice (some ⟨g,off,none⟩) ks.length c) ?_ (bD W) ?_
    ·intro _ y;go_simp
    refine wTk 4 16 (.pointer (some ⟨g,off,none⟩)) ?_ (bD W) ?_
    ·intro _ y;go_simp
    refine wTk 5 17 (.agg #[.string ⟨t.kind.toArray⟩, .string ⟨t.text.toArray⟩, .int .u64 t.num, .int .i64 t.line, .int .i64 t.col, .slice qa na ca]) ?_ (bD W) ?_
    ·intro _ y;obtain⟨t0,t1,d0,d1,k0,k1,k2,k3,k4,k5⟩:=kP10 y t0 t1 d0 d1 k0 k1 k2 k3 k4 k5;go_simp
    refine wOn 6 fun K hK=>?_
    go_simp;refine(HNY.o _).mono ?_;rintro e w3 ⟨rfl,hb3⟩;refine kD hK ?_;clear hK K;refine wDn ?_ _;have hbW:=zF hb3;have HWW:=hI (HB3.o.trans (hbW.mono HB3.o.size));have HP:=hI (HP.o.trans (by rw[show decide (((1,true):Ty)≠zO)=true from by simp[zO]];rfl:_=vD E ks (1,true)));have HX:=hI (qZs B L E ks (some ⟨g,off,none⟩) c (1,true) w3 HR.o (HE.o.below hbW) (by have:=hbW.size;omega) (HK3.o.keep (hbW.mono (by omega))) hn);have tt:=HT.o.below hbW;have t0:=tt.c0;have t1:=tt.c1;have hsw:=HWW.o.size;unfold tyV at HX;clear hb3 hbW tt k0 k1 k2 k3 k4 k5 d0 d1 HE HK3 HNY HNN;go_wp2_with fail
    refine(HX.o).mono ?_;rintro e w4 hX;rcases hX.cases with⟨es,u,hp,rfl,hl,hb4⟩ | ⟨l',c',code,hp,rfl,hb4⟩
    ·have HL:=hI (hl.mono (ok':=fun g=>w.1.size<=g) (fun g hg=>by omega));have HW4:=hI (HWW.o.trans (hb4.mono hsw));have HQ:=hI (HP.o.trans hp);clear hX hl hb4 hp HX;go_wp2
     go_ret;exact zP.okI HQ.o HL.o HW4.o
    ·exact⟨rfl,zP.badI (by rw[HP.o,hp]) ⟨rfl,HWW.o.trans (hb4.mono hsw)⟩⟩
  ·have hd:decide (((T0,T1):Ty)≠zO)=true:=by simp[zO,hz]
   refine wRg (S:=fun w'=>Below W.1.size W w') 6 ?_;refine wTk 0 12 (.agg #[.int .i64 T0, .bool T1]) ?_ (bD W) ?_
   ·intro _ y;obtain⟨t0,t1,d0,d1,k0,k1,k2,k3,k4,k5⟩:=kP10 y t0 t1 d0 d1 k0 k1 k2 k3 k4 k5;go_simp
   refine wTk 1 13 (.agg #[.int .i64 1, .bool false]) ?_ (bD W) ?_
   ·intro _ y;obtain⟨t0,t1,d0,d1,k0,k1,k2,k3,k4,k5⟩:=kP10 y t0 t1 d0 d1 k0 k1 k2 k3 k4 k5;go_simp
   refine wTk 2 14 (.bool true) ?_ (bD W) ?_
   ·intro _ y;obtain⟨t0,t1,d0,d1,k0,k1,k2,k3,k4,k5⟩:=kP10 y t0 t1 d0 d1 k0 k1 k2 k3 k4 k5;go_simp
   refine wTk 3 15 (.slice (some ⟨g,off,none⟩) ks.length c) ?_ (bD W) ?_
   ·intro _ y;go_simp
   refine wTk 4 16 (.pointer (some ⟨g,off,none⟩)) ?_ (bD W) ?_
   ·intro _ y;go_simp
   refine wTk 5 17 (.agg #[.string ⟨t.kind.toArray⟩, .string ⟨t.text.toArray⟩, .int .u64 t.num, .int .i64 t.line, .int .i64 t.col, .slice qa na ca]) ?_ (bD W) ?_
   ·intro _ y;obtain⟨t0,t1,d0,d1,k0,k1,k2,k3,k4,k5⟩:=kP10 y t0 t1 d0 d1 k0 k1 k2 k3 k4 k5;go_simp
   refine wOn 6 fun K hK=>?_
   go_simp;refine(HNY.o _).mono ?_;rintro e w3 ⟨rfl,hb3⟩;refine kD hK ?_;clear hK K;refine wDn ?_ _;have hbW:=zF hb3;have HWW:=hI (HB3.o.trans (hbW.mono HB3.o.size));have HP:=hI (HP.o.trans (by rw[show decide (((T0,T1):Ty)≠zO)=true from hd];rfl:_=vD E ks (T0,T1)));have HX:=hI (qZs B L E ks (some ⟨g,off,none⟩) c (T0,T1) w3 HR.o (HE.o.below hbW) (by have:=hbW.size;omega) (HK3.o.keep (hbW.mono (by omega))) hn);have tt:=HT.o.below hbW;have t0:=tt.c0;have t1:=tt.c1;have hsw:=HWW.o.size;unfold tyV at HX;clear hb3 hbW tt k0 k1 k2 k3 k4 k5 d0 d1 HE HK3 HNY HNN;go_wp2_with fail
   refine(HX.o).mono ?_;rintro e w4 hX;rcases hX.cases with⟨es,u,hp,rfl,hl,hb4⟩ | ⟨l',c',code,hp,rfl,hb4⟩
   ·have HL:=hI (hl.mono (ok':=fun g=>w.1.size<=g) (fun g hg=>by omega));have HW4:=hI (HWW.o.trans (hb4.mono hsw));have HQ:=hI (HP.o.trans hp);clear hX hl hb4 hp HX;go_wp2
    go_ret;exact zP.okI HQ.o HL.o HW4.o
   ·exact⟨rfl,zP.badI (by rw[HP.o,hp]) ⟨rfl,HWW.o.trans (hb4.mono hsw)⟩⟩
end Go.Proofs.YtiajhekdhhhghaaGreatDoor
