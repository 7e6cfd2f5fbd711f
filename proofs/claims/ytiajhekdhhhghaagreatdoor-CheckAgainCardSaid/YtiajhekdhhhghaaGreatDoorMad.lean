/- Walks. -/
import Derived.Test.YtiajhekdhhhghaaGreatDoorMac
set_option linter.all false
set_option maxHeartbeats 8000000
set_option maxRecDepth 100000
namespace Go.Proofs.YtiajhekdhhhghaaGreatDoor
open Tryz
open Go Go.RowKit
structure LevAt(G T:Nat)(w:World):Prop where
 row:∀ k,k < 10->w.cell? ⟨T,k,none⟩=some (.slice (some ⟨G+k,0,none⟩) (jG.getD k []).length (jG.getD k []).length)
 str:∀ k,k < 10->∀ j,j < ((jG.getD k []).map fun x=>(⟨x.toArray⟩:ByteArray)).length->w.cell? ⟨G+k,0+j,none⟩=some (.string (((jG.getD k []).map fun x=>(⟨x.toArray⟩:ByteArray)).getD j ByteArray.empty))
def vH(w:World):World:=((((((((((w.alloc (.cells #[.string ⟨#[124,124]⟩] 9)).alloc (.cells #[.string ⟨#[38,38]⟩] 9)).alloc (.cells #[.string ⟨#[124]⟩] 9)).alloc (.cells #[.string ⟨#[94]⟩] 9)).alloc (.cells #[.string ⟨#[38]⟩] 9)).alloc (.cells #[.string ⟨#[61,61]⟩, .string ⟨#[33,61]⟩] 9)).alloc (.cells #[.string ⟨#[60]⟩, .string ⟨#[60,61]⟩, .string ⟨#[62]⟩, .string ⟨#[62,61]⟩] 9)).alloc (.cells #[.string ⟨#[60,60]⟩, .string ⟨#[62,62]⟩] 9)).alloc (.cells #[.string ⟨#[43]⟩, .string ⟨#[45]⟩] 9)).alloc (.cells #[.string ⟨#[42]⟩, .string ⟨#[47]⟩, .string ⟨#[37]⟩] 9)).alloc (.cells #[.slice (some ⟨w.1.size,0,none⟩) 1 1, .slice (some ⟨w.1.size+1,0,none⟩) 1 1, .slice (some ⟨w.1.size+1+1,0,none⟩) 1 1, .slice (some ⟨w.1.size+1+1+1,0,none⟩) 1 1, .slice (some ⟨w.1.size+1+1+1+1,0,none⟩) 1 1, .slice (some ⟨w.1.size+1+1+1+1+1,0,none⟩) 2 2, .slice (some ⟨w.1.size+1+1+1+1+1+1,0,none⟩) 4 4, .slice (some ⟨w.1.size+1+1+1+1+1+1+1,0,none⟩) 2 2, .slice (some ⟨w.1.size+1+1+1+1+1+1+1+1,0,none⟩) 2 2, .slice (some ⟨w.1.size+1+1+1+1+1+1+1+1+1,0,none⟩) 3 3] 113)
theorem lev_row(w:World)(k:Nat)(hk:k < 10):(vH w).cell? ⟨w.1.size+1+1+1+1+1+1+1+1+1+1,k,none⟩=some (.slice (some ⟨w.1.size+k,0,none⟩) (jG.getD k []).length (jG.getD k []).length):=by
 match k,hk with
 | 0,_=>exact(show(vH w).cell? ⟨w.1.size+1+1+1+1+1+1+1+1+1+1,0,none⟩=some (.slice (some ⟨w.1.size+0,0,none⟩) 1 1) by simp[vH,go_sem])
 | 1,_=>exact(show(vH w).cell? ⟨w.1.size+1+1+1+1+1+1+1+1+1+1,1,none⟩=some (.slice (some ⟨w.1.size+1,0,none⟩) 1 1) by simp[vH,go_sem])
 | 2,_=>exact(show(vH w).cell? ⟨w.1.size+1+1+1+1+1+1+1+1+1+1,2,none⟩=some (.slice (some ⟨w.1.size+2,0,none⟩) 1 1) by simp[vH,go_sem])
 | 3,_=>exact(show(vH w).cell? ⟨w.1.size+1+1+1+1+1+1+1+1+1+1,3,none⟩=some (.slice (some ⟨w.1.size+3,0,none⟩) 1 1) by simp[vH,go_sem])
 | 4,_=>exact(show(vH w).cell? ⟨w.1.size+1+1+1+1+1+1+1+1+1+1,4,none⟩=some (.slice (some ⟨w.1.size+4,0,none⟩) 1 1) by simp[vH,go_sem])
 | 5,_=>exact(show(vH w).cell? ⟨w.1.size+1+1+1+1+1+1+1+1+1+1,5,none⟩=some (.slice (some ⟨w.1.size+5,0,none⟩) 2 2) by simp[vH,go_sem])
 | 6,_=>exact(show(vH w).cell? ⟨w.1.size+1+1+1+1+1+1+1+1+1+1,6,none⟩=some (.slice (some ⟨w.1.size+6,0,none⟩) 4 4) by simp[vH,go_sem])
 | 7,_=>exact(show(vH w).cell? ⟨w.1.size+1+1+1+1+1+1+1+1+1+1,7,none⟩=some (.slice (some ⟨w.1.size+7,0,none⟩) 2 2) by simp[vH,go_sem])
 | 8,_=>exact(show(vH w).cell? ⟨w.1.size+1+1+1+1+1+1+1+1+1+1,8,none⟩=some (.slice (some ⟨w.1.size+8,0,none⟩) 2 2) by simp[vH,go_sem])
 | 9,_=>exact(show(vH w).cell? ⟨w.1.size+1+1+1+1+1+1+1+1+1+1,9,none⟩=some (.slice (some ⟨w.1.size+9,0,none⟩) 3 3) by simp[vH,go_sem])
theorem lev_str(w:World)(k:Nat)(hk:k < 10)(j:Nat)(hj:j < ((jG.getD k []).map fun x=>(⟨x.toArray⟩:ByteArray)).length):(vH w).cell? ⟨w.1.size+k,0+j,none⟩=some (.string (((jG.getD k []).map fun x=>(⟨x.toArray⟩:ByteArray)).getD j ByteArray.empty)):=by
 rw[Nat.zero_add];match k,hk with
 | 0,_ =>
  match j,hj with
  | 0,_=>exact(show(vH w).cell? ⟨w.1.size+0,0,none⟩=some (.string ⟨#[124,124]⟩) by simp[vH,go_sem])
  | j+1,hj=>exact absurd hj (by simp[jG])
 | 1,_ =>
  match j,hj with
  | 0,_=>exact(show(vH w).cell? ⟨w.1.size+1,0,none⟩=some (.string ⟨#[38,38]⟩) by simp[vH,go_sem])
  | j+1,hj=>exact absurd hj (by simp[jG])
 | 2,_ =>
  match j,hj with
  | 0,_=>exact(show(vH w).cell? ⟨w.1.size+2,0,none⟩=some (.string ⟨#[124]⟩) by simp[vH,go_sem])
  | j+1,hj=>exact absurd hj (by simp[jG])
 | 3,_ =>
  match j,hj with
  | 0,_=>exact(show(vH w).cell? ⟨w.1.size+3,0,none⟩=some (.string ⟨#[94]⟩) by simp[vH,go_sem])
  | j+1,hj=>exact absurd hj (by simp[jG])
 | 4,_ =>
  match j,hj with
  | 0,_=>exact(show(vH w).cell? ⟨w.1.size+4,0,none⟩=some (.string ⟨#[38]⟩) by simp[vH,go_sem])
  | j+1,hj=>exact absurd hj (by simp[jG])
 | 5,_ =>
  match j,hj with
  | 0,_=>exact(show(vH w).cell? ⟨w.1.size+5,0,none⟩=some (.string ⟨#[61,61]⟩) by simp[vH,go_sem])
  | 1,_=>exact(show(vH w).cell? ⟨w.1.size+5,1,none⟩=some (.string ⟨#[33,61]⟩) by simp[vH,go_sem])
  | j+2,hj=>exact absurd hj (by simp[jG])
 | 6,_ =>
  match j,hj with
  | 0,_=>exact(show(vH w).cell? ⟨w.1.size+6,0,none⟩=some (.string ⟨#[60]⟩) by simp[vH,go_sem])
  | 1,_=>exact(show(vH w).cell? ⟨w.1.size+6,1,none⟩=some (.string ⟨#[60,61]⟩) by simp[vH,go_sem])
  | 2,_=>exact(show(vH w).cell? ⟨w.1.size+6,2,none⟩=some (.string ⟨#[62]⟩) by simp[vH,go_sem])
  | 3,_=>exact(show(vH w).cell? ⟨w.1.size+6,3,none⟩=some (.string ⟨#[62,61]⟩) by simp[vH,go_sem])
  | j+4,hj=>exact absurd hj (by simp[jG])
 | 7,_ =>
  match j,hj with
  | 0,_=>exact(show(vH w).cell? ⟨w.1.size+7,0,none⟩=some (.string ⟨#[60,60]⟩) by simp[vH,go_sem])
  | 1,_=>exact(show(vH w).cell? ⟨w.1.size+7,1,none⟩=some (.string ⟨#[62,62]⟩) by simp[vH,go_sem])
  | j+2,hj=>exact absurd hj (by simp[jG])
 | 8,_ =>
  match j,hj with
  | 0,_=>exact(show(vH w).cell? ⟨w.1.size+8,0,none⟩=some (.string ⟨#[43]⟩) by simp[vH,go_sem])
  | 1,_=>exact(show(vH w).cell? ⟨w.1.size+8,1,none⟩=some (.string ⟨#[45]⟩) by simp[vH,go_sem])
  | j+2,hj=>exact absurd hj (by simp[jG])
 | 9,_ =>
  match j,hj with
  | 0,_=>exact(show(vH w).cell? ⟨w.1.size+9,0,none⟩=some (.string ⟨#[42]⟩) by simp[vH,go_sem])
  | 1,_=>exact(show(vH w).cell? ⟨w.1.size+9,1,none⟩=some (.string ⟨#[47]⟩) by simp[vH,go_sem])
  | 2,_=>exact(show(vH w).cell? ⟨w.1.size+9,2,none⟩=some (.string ⟨#[37]⟩) by simp[vH,go_sem])
  | j+3,hj=>exact absurd hj (by simp[jG])
theorem lev_below(w:World):Below w.1.size w (vH w):=by
 unfold vH;refine Below.alloc ?_ (by simp;try omega) _;refine Below.alloc ?_ (by simp;try omega) _;refine Below.alloc ?_ (by simp;try omega) _;refine Below.alloc ?_ (by simp;try omega) _;refine Below.alloc ?_ (by simp;try omega) _;refine Below.alloc ?_ (by simp;try omega) _;refine Below.alloc ?_ (by simp;try omega) _;refine Below.alloc ?_ (by simp;try omega) _;refine Below.alloc ?_ (by simp;try omega) _;refine Below.alloc ?_ (by simp;try omega) _;refine Below.alloc ?_ (by simp;try omega) _;exact Below.refl _ _
theorem lev_len:∀ k,k < 10->(jG.getD k []).length<=9223372036854775807:=by decide
theorem lev_at(w:World):LevAt w.1.size (w.1.size+1+1+1+1+1+1+1+1+1+1) (vH w):=⟨lev_row w,lev_str w⟩
theorem lev_hit{x:List UInt8}{k:Nat}(h:k < 10)(hp:(jG.getD k []).contains x=true)(hr:xE x k (jG.drop k)=xL x):(k:Int)=xL x:=by
 have hl:k < jG.length:=h;rw[List.drop_eq_getElem_cons hl,xE]at hr;rw[List.getD_eq_getElem?_getD,List.getElem?_eq_getElem hl,Option.getD_some]at hp;rw[if_pos hp]at hr;exact hr
theorem lev_miss{x:List UInt8}{k:Nat}(h:k < 10)(hp:(jG.getD k []).contains x=false)(hr:xE x k (jG.drop k)=xL x):xE x ((k+1:Nat):Int) (jG.drop (k+1))=xL x:=by
 have hl:k < jG.length:=h;rw[List.drop_eq_getElem_cons hl,xE]at hr;rw[List.getD_eq_getElem?_getD,List.getElem?_eq_getElem hl,Option.getD_some]at hp;rw[if_neg (by rw[hp];decide)]at hr;simpa using hr
theorem lev_end{x:List UInt8}{k:Nat}(h:k<=10)(h':¬k < 10)(hr:xE x k (jG.drop k)=xL x):(-1:Int)=xL x:=by
 obtain rfl:k=10:=by omega
 exact hr
theorem qUG(L:List (List UInt8))(x:List UInt8):Lib.containsS ((L.map fun y=>(⟨y.toArray⟩:ByteArray)).take L.length) ⟨x.toArray⟩=L.contains x:=by
 rw[List.take_of_length_le (by simp),Bool.eq_iff_iff,Lib.containsS_iff];simp
theorem qUf(x:List UInt8)(w:World):Calls prog 162 #[.string ⟨x.toArray⟩] w fun e w'=>e=.returned (.int .i64 (xL x))/\Below w.1.size w w':=by
 have HL:=hI (lev_at w);have HB:=hI (lev_below w);go_enter func162,ntmps162
 go_wp2_with fail
 change Code.wp _ _ _ _ (vH w);generalize vH w=W at *;generalize w.1.size+1+1+1+1+1+1+1+1+1+1=T at *;go_loop [18] (fun i=>∃ k:Nat,k<=10/\i=.int .i64 k/\xE x k (jG.drop k)=xL x) (fun i=>10 - (intOf i).toNat)
 case atStart=>exact⟨0,Nat.zero_le _,rfl,rfl⟩
 case round =>
  obtain⟨k,hk,rfl,hr⟩:=hrel;have Hr:=hI hr;clear hr;by_cases hlt:k < 10
  ·have hc:=HL.o.row k hlt;have HC:=hI (Tryz.slices_Contains_string (w.1.size+k) 0 (jG.getD k []).length (jG.getD k []).length ((jG.getD k []).map fun x=>(⟨x.toArray⟩:ByteArray)) ⟨x.toArray⟩ W (by simp) (lev_len k hlt) (HL.o.str k hlt));rw[qUG]at HC;have hlv:=HC;cases hp:(jG.getD k []).contains x
   ·rw[hp]at HC;have HP:=hI hp;clear hp hlv;generalize (jG.getD k []).length=m at *;go_wp2_with fail
    refine(HC.o).mono ?_;rintro e w' ⟨rfl,rfl⟩;go_wp2
    go_round
    case rel=>exact⟨k+1,by omega,by go_num,lev_miss hlt HP.o Hr.o⟩
    case measure=>simp[intOf];omega
   ·rw[hp]at HC;have HP:=hI hp;clear hp hlv;generalize (jG.getD k []).length=m at *;go_wp2_with fail
    refine(HC.o).mono ?_;rintro e w' ⟨rfl,rfl⟩;go_wp2
    go_ret;refine⟨?_,HB.o⟩;rw[<-lev_hit hlt HP.o Hr.o];rfl
  ·go_wp2
   go_ret;refine⟨?_,HB.o⟩;rw[<-lev_end hk hlt Hr.o];rfl
def xH(w:World)(ok:Nat->Prop)(ts:List qQ)(v:Value):Prop :=
 ∃ vs,w.ownsRow 0 57 6 v ts.length (qZK ts vs)/\(∀ g,v.ownBlock=some g->ok g)/\vV w (fun g=>ok g/\some g≠v.ownBlock) ts vs
theorem xH.move{w w':World}{ok ok':Nat->Prop}{ts:List qQ}{v:Value}(h:xH w ok ts v)(hm:∀ g,g < w.1.size->ok g->ok' g/\w'.1[g]? = w.1[g]?):xH w' ok' ts v:=by
 obtain⟨vs,h1,h2,h3⟩:=h;refine⟨vs,⟨h1.1,?_⟩,fun g hg=>(hm g (h1.lt g hg).2 (h2 g hg)).1,vV.move (fun g hg hok=>⟨⟨(hm g hg hok.1).1,hok.2⟩,(hm g hg hok.1).2⟩) ts vs h3⟩;rcases h1.2 with h | ⟨g,cap,cur,rfl,hb,hgg,rest⟩
 ·exact .inl h
 ·exact .inr ⟨g,cap,cur,rfl,hb,((hm g (Array.getElem?_eq_some_iff.1 hgg).1 (h2 g rfl)).2).trans hgg,rest⟩
theorem xH.of{w:World}{lo:Nat}{ts:List qQ}{v:Value}(h:zC w lo ts v):xH w (fun g=>lo<=g) ts v:=by
 obtain⟨vs,h1,h2⟩:=h;exact⟨vs,qKa h1 (Nat.zero_le _),fun g hg=>(h1.lt g hg).1,h2⟩
theorem xH.build{w:World}{ok:Nat->Prop}{lo:Nat}{ts:List qQ}{v:Value}(h:xH w ok ts v)(hl:∀ g,ok g->lo<=g):zC w lo ts v:=by
 obtain⟨vs,h1,h2,h3⟩:=h;exact⟨vs,qW2 h1 (fun g hg=>hl g (h2 g hg)),vV.move (fun g _ hok=>⟨⟨hl g hok.1,hok.2⟩,rfl⟩) ts vs h3⟩
theorem xH.lies{w:World}{ok:Nat->Prop}{t:qQ}{v:Value}(h:xH w ok t.kids v):xZ w ok t v:=by
 obtain⟨vs,h1,h2,h3⟩:=h;cases t with
 | mk k x n l c ks=>exact⟨vs,h2,h1,vV.move (fun g _ hg=>⟨hg.1,rfl⟩) _ vs h3⟩
theorem xH.grown{w w':World}{ok:Nat->Prop}{ts:List qQ}{v:Value}{r:Option Nat}(h:xH w ok ts v)(hg:w.grownBy w' r)(hr:∀ k,r=some k->¬ok k\/w.1.size<=k):xH w' ok ts v :=
 h.move fun g hlt hok=>⟨hok,hg.block g hlt (fun e=>by rcases hr g e.symm with h | h;exact h hok;omega)⟩
theorem xH.below{w w':World}{ok:Nat->Prop}{ts:List qQ}{v:Value}(h:xH w ok ts v)(hb:Below w.1.size w w'):xH w' ok ts v:=h.grown (zV hb none) (fun _ e=>by cases e)
theorem xH.shape{w:World}{ok:Nat->Prop}{ts:List qQ}{v:Value}(h:xH w ok ts v):∃ p n c,v=.slice p n c:=by
 obtain⟨vs,h1,_⟩:=h;rcases h1.2 with⟨rfl,_⟩ | ⟨g,cap,cur,rfl,_⟩
 ·exact⟨_,_,_,rfl⟩
 ·exact⟨_,_,_,rfl⟩
theorem xH.lit2{w:World}{ok:Nat->Prop}{t s:qQ}{u v:Value}(h:xH w ok t.kids u)(h':xH w ok s.kids v)(hn:ok w.1.size) :
 xH (w.alloc (.cells (qS t u++qS s v).toArray 57)) ok [t,s] (.slice (some ⟨w.1.size,0,none⟩) 2 2):=by
 refine⟨[u,v],?_,fun g hg=>by simp[Value.ownBlock]at hg;subst hg;exact hn,?_,?_,trivial⟩
 ·simpa[qZK]using World.ownsRow_lit (base:=0) (e:=57) (size:=6) w (qS t u++qS s v).toArray 2 (by omega) (by decide) (by simp[qS])
 ·exact xZ.move (fun g hg hok=>⟨⟨hok,by simp[Value.ownBlock];omega⟩,heap_alloc_old w _ hg⟩) t u h.lies
 ·exact xZ.move (fun g hg hok=>⟨⟨hok,by simp[Value.ownBlock];omega⟩,heap_alloc_old w _ hg⟩) s v h'.lies
theorem qVc(x:List UInt8):∀ (L:List (List (List UInt8))) (i:Int),0<=i->-1<=xE x i L/\xE x i L<=i+L.length
 | [],i,h=>by simp[xE];omega
 | g :: gs,i,h=>by
  rw[xE];split
  ·simp;omega
  ·have:=qVc x gs (i+1) (by omega);simp at *;omega
theorem levelI_bd(x:List UInt8):-1<=xL x/\xL x<=9:=by
 have h:=qVc x jG 0 (by omega);have hn:∀ (L:List (List (List UInt8))) (i:Int),xE x i L < i+L.length\/xE x i L=-1:=by
  intro L;induction L with
  | nil=>intro i;exact .inr rfl
  | cons g gs ih =>
   intro i;rw[xE];split
   ·left;simp;omega
   ·rcases ih (i+1)with h | h
    ·left;simp at *;omega
    ·right;exact h
 have h2:=hn jG 0;have h3:(jG.length:Int)=10:=rfl;unfold xL;omega
def BinRel(rec:NT->Int->List Tok->PR qQ)(k d:Int)(R:PR qQ)(w:World)(B Lb:Nat)(m:Nat)(wr:World):Prop :=
 ∃ left l v,St w B l d wr/\zI Lb left.kind left.text left.num left.line left.col v wr/\xH wr (fun g=>w.1.size+1<=g/\g≠Lb) left.kids v/\kX rec k d m left l=R
theorem qPi(rec:NT->Int->List Tok->PR qQ)(n:Nat)(k d:Int)(hk0:0<=k)(hk:k<=10)(hop:vM 181 (fun p=>#[p]) d (rec .operand d))(hbi:∀ j,0<=j->j<=10->vM 172 (fun p=>#[p, .int .i64 j]) d (rec (.binary j) d)) :
 vM 172 (fun p=>#[p, .int .i64 k]) d (qQy rec n k d):=by
 intro B l w h hno;have S0:=St.start h;have hBw:=S0.hB;have hno1:rec .operand d l≠.out:=qWG hno;have HC:=hI (hop B l _ S0.ps hno1);have HNO:=hI hno;have HNO1:=hI hno1;have HBI:=hI hbi;have HS:=hI S0;have hft:=vS;clear h S0 hno hno1 hop hbi;unfold jY at *;go_enter func172,ntmps172
 go_wp2_with fail
 refine(HC.o).mono ?_;intro e w1 hq;rcases hq.cases HNO1.o with⟨t1,l1,q1,n1,c1,he1,rfl,hb1,hP1,hg1⟩ | ⟨ln,c,code,he1,rfl,hg1⟩;rotate_left
 ·refine⟨rfl,?_⟩;rw[show qQy rec n k d l=.bad ln c code from qXl he1];exact HS.o.pan ⟨rfl,hg1⟩
 have hres:qQy rec n k d l=kX rec k d n t1 l1:=bind_ok he1;have HR:=hI hres;have S1:=HS.o.call hP1 hg1;have hwL:w.1.size < w1.1.size:=S1.lt;have HS1:=hI (S1.alloc (wD t1.kind t1.text t1.num t1.line t1.col (.slice q1 n1 c1)));have HL1:=hI (zI.new t1.kind t1.text t1.num t1.line t1.col (.slice q1 n1 c1) w1);have hbp:xH (w1.alloc (wD t1.kind t1.text t1.num t1.line t1.col (.slice q1 n1 c1))) (fun g=>w.1.size+1<=g/\g≠w1.1.size) t1.kids (.slice q1 n1 c1) :=
  (xH.of (hb1.mono (lo':=w.1.size+1) HS.o.lt)).move fun g hg hok=>⟨⟨hok,by omega⟩,heap_alloc_old w1 _ hg⟩
 have HB1:=hI hbp;clear hres S1 hP1 hg1 hb1 he1 hq HC HS hbp;unfold wD qZ at *;go_wp2_with fail
 go_loopg [] n (fun m wr=>BinRel rec k d (kX rec k d n t1 l1) w B w1.1.size m wr)
 case atStart=>exact⟨t1,l1,_,HS1.o,HL1.o,HB1.o,rfl⟩
 case round =>
  obtain⟨left,l2,v,S,L,Bp,hm⟩:=hrel;obtain⟨t,r,rfl⟩:=S.ps.ends.ne;obtain⟨q,vn,vc,rfl⟩:=Bp.shape;have HM:=hI hm;cases gk with
  | zero =>
   exact absurd (HR.o.trans HM.o.symm) HNO.o
  | succ m =>
  have H:=hI (kY B t r d _ S.ps);have HS:=hI S;have HL:=hI L;have HB:=hI Bp;clear S L Bp hm HS1 HL1 HB1;go_wp2_with fail
  refine(H.o).mono ?_;rintro e w3 ⟨rfl,hb3⟩;have HV:=hI (qUf t.text);have HS3:=hI (HS.o.below hb3);have HL3:=hI (HL.o.below hb3);have HB3:=hI (HB.o.below hb3);clear H HS HL HB hb3;unfold vT xA;go_wp2_with fail
  refine(HV.o _).mono ?_;rintro e w4 ⟨rfl,hb4⟩;have HS4:=hI (HS3.o.below hb4);have HL4:=hI (HL3.o.below hb4);have HB4:=hI (HB3.o.below hb4);have hbd:=levelI_bd t.text;clear HS3 HL3 HB3 hb4 HV;have hstep:kX rec k d (m+1) left (t :: r)=if xL t.text < k then .ok left (t :: r)else(rec (.binary (xL t.text+1)) d r).bind fun s l'=>kX rec k d m (.mk qM t.text 0 t.line t.col [left,s]) l':=by
   rw[kX,qX];simp only[jV,PR.bind,if_true]
  by_cases hlt:xL t.text < k
  ·rw[if_pos hlt]at hstep;have HST:=hI (HR.o.trans (HM.o.symm.trans hstep));have hlb:decide (xL t.text < k)=true:=by simpa using hlt
   have hs1:=HS4.o.lt;have hs2:=HL4.o.lt;have hr:=HS4.o.res;have⟨r0,r1',r2,r3,r4,r5,_⟩:=hr.a;have⟨g0,g1,g2,g3,g4,g5,_⟩:=hr.b;clear hr;have hq:=HL4.o;have⟨qn0,qn1,qn2,qn3,qn4,qn5,_⟩:=hq.a;clear hq hstep HL4;generalize hA:xL t.text=lv at *;go_wp2
   refine bodyPost_ret (v:=qZ left (.slice q vn vc)) (by simp[results,results172,go_sem,qZ, *]) rfl ?_;rw[HST.o];exact HS4.o.fin (HB4.o.build fun g hg=>hg.1) _ _ _ _ _ _
  ·rw[if_neg hlt]at hstep;have hlb:decide (xL t.text < k)=false:=by simpa using hlt
   have HST:=hI (HM.o.symm.trans hstep);have hte:t.text≠[]:=fun e=>hlt (by rw[e];exact(show xL [] < k from by have:xL []=-1:=rfl;omega))
   have H:=hI (vB B t r d _ HS4.o.ps hte);have HNb:=hI (jI t ⟨qM.toArray⟩ ⟨t.text.toArray⟩);have hno5:rec (.binary (xL t.text+1)) d r≠.out:=fun e=>HNO.o (HR.o.trans (HST.o.trans (by rw[e];rfl)))
   have HNO5:=hI hno5;have HC:=hI (HBI.o (xL t.text+1) (by omega) (by omega));have hwr:IntKind.i64.wrap (xL t.text+1)=xL t.text+1:=by rw[IntKind.wrap_i64];omega
   have hw64:wrap64 (xL t.text+1)=xL t.text+1:=by unfold wrap64;omega
   clear hstep hno5;generalize hA:xL t.text=lv at *;go_wp2_with fail
   refine(H.o).mono ?_;rintro e w5 ⟨rfl,hP5,hg5⟩;have HS5:=hI ((HS4.o.call hP5 hg5).alloc (qXT t));have HL5:=hI ((HL4.o.grown hg5 (by simp;omega)).alloc (qXT t));have HB5:=hI ((HB4.o.grown hg5 (fun j e=>by cases e;exact .inl (fun h=>by omega))).below ((Below.refl _ _).alloc (Nat.le_refl _) (qXT t)));have HT5:=hI (wH.newO t w5);have hw5:w.1.size < w5.1.size:=(HS4.o.call hP5 hg5).lt;have hl5:w1.1.size < w5.1.size:=(HL4.o.grown hg5 (by simp;omega)).lt;clear H HS4 HL4 HB4 hP5 hg5;unfold qXT vT xA at *;have⟨k0,k1,k2,k3,k4,_⟩:=HT5.o.a;go_wp2_with fail
   refine(HNb.o _).mono ?_;rintro e w6 ⟨rfl,hb6⟩;have HS6:=hI ((HS5.o.below hb6).alloc (wD qM t.text 0 t.line t.col (.slice none 0 0)));have HL6:=hI ((HL5.o.below hb6).alloc (wD qM t.text 0 t.line t.col (.slice none 0 0)));have hB6:xH (w6.alloc (wD qM t.text 0 t.line t.col (.slice none 0 0))) (fun g=>(w.1.size+1<=g/\g≠w1.1.size)/\g≠w6.1.size) left.kids (.slice q vn vc):=(HB5.o.below hb6).move fun g hg hok=>⟨⟨hok,by omega⟩,heap_alloc_old w6 _ hg⟩
   have HB6:=hI hB6;clear hB6;have HN6:=hI (zI.new qM t.text 0 t.line t.col (.slice none 0 0) w6);have hw6:w5.1.size < w6.1.size:=by have:=hb6.size;simp at this;omega
   clear HNb HS5 HL5 HB5 HT5 hb6 k0 k1 k2 k3 k4;unfold wD at *;go_wp2_with fail
   refine wRg (S:=fun w'=>zI w1.1.size left.kind left.text left.num left.line left.col (.slice q vn vc) w') 5 ?_;have SS:=hI HS6.o.drew;have LL:=hI (HL6.o.below (Below.refl _ _).drew);have BB:=hI (HB6.o.below (Below.refl _ _).drew);have NN:=hI (HN6.o.below (Below.refl _ _).drew);clear HS6 HL6 HB6 HN6;generalize World.drew _=wd at *;refine wTk 0 25 (.agg #[.string ⟨left.kind.toArray⟩, .string ⟨left.text.toArray⟩, .int .u64 left.num, .int .i64 left.line, .int .i64 left.col, .slice q vn vc]) ?_ LL.o ?_
   ·intro _ y;have⟨h0,h1,h2,h3,h4,h5,_⟩:=y.a;go_simp
   refine wTk 1 26 (.pointer (some ⟨B,0,none⟩)) ?_ LL.o ?_
   ·intro _ y;go_simp
   refine wTk 2 27 (.int .i64 lv) ?_ LL.o ?_
   ·intro _ y;go_simp
   refine wTk 3 28 (.int .i64 (lv+1)) ?_ LL.o ?_
   ·intro _ y;go_simp
   refine wOn 4 fun K hK=>?_
   go_simp;refine(HC.o B r _ SS.o.ps HNO5.o).mono ?_;intro e w7 hq;rcases hq.cases HNO5.o with⟨s7,l7,q7,n7,c7,he7,rfl,hb7,hP7,hg7⟩ | ⟨ln,c,code,he7,rfl,hg7⟩;rotate_left
   ·refine⟨rfl,?_⟩;rw[HR.o,HST.o,he7];exact SS.o.pan ⟨rfl,hg7⟩
   have hsd:=NN.o.lt;have S7:=hI (SS.o.call hP7 hg7);have L7:=hI (LL.o.grown hg7 (by simp;omega));have B7:=hI (BB.o.grown hg7 (fun j e=>by cases e;exact .inl (fun h=>by omega)));have N7:=hI (NN.o.grown hg7 (by simp;omega));have hsr:wd.1.size<=w7.1.size:=hg7.size;have K7:xH w7 (fun g=>(w.1.size+1<=g/\g≠w1.1.size)/\g≠w6.1.size) s7.kids (.slice q7 n7 c7):=(xH.of hb7).move fun g hg hok=>⟨⟨⟨by omega,by omega⟩,by omega⟩,rfl⟩
   have HK7:=hI K7;have HE7:=hI he7;have hfN:=N7.o.f 5 nL;have hdN:=N7.o.c5;have hlN:=N7.o.lt;clear hP7 hg7 hb7 K7 he7 hq SS LL BB NN HC;unfold qZ;refine kK hK L7.o ?_;clear hK K;refine wOn 5 fun K hK=>?_
   go_simp;refine kD hK ?_;clear hK K;refine wOn 6 fun K hK=>?_
   go_simp;refine kD hK ?_;clear hK K;refine wOn 7 fun K hK=>?_
   go_simp;refine kD hK ?_;clear hK K;refine wDn ?_ _;have⟨x0,x1,x2,x3,x4,_⟩:=N7.o.a;have⟨z0,z1,z2,z3,z4,z5,_⟩:=L7.o.a;have⟨y0,y1,y2,y3,y4,y5,_⟩:=L7.o.b;have hlL:=L7.o.lt;unfold qM at x0;go_wp2
   go_roundg m
   case measure=>omega
   case rel =>
    have h1:=(B7.o.grown (jM w7 w6.1.size 5 (.slice (some ⟨w7.1.size,0,none⟩) 2 2)) (fun j e=>by cases e;exact .inl (fun h=>h.2 rfl))).grown (vQ _ w1.1.size (.string ⟨qM.toArray⟩) (.string ⟨t.text.toArray⟩) (.int .u64 0) (.int .i64 t.line) (.int .i64 t.col) (.slice (some ⟨w7.1.size,0,none⟩) 2 2)) (fun j e=>by cases e;exact .inl (fun h=>h.1.2 rfl));have h2:=(HK7.o.grown (jM w7 w6.1.size 5 (.slice (some ⟨w7.1.size,0,none⟩) 2 2)) (fun j e=>by cases e;exact .inl (fun h=>h.2 rfl))).grown (vQ _ w1.1.size (.string ⟨qM.toArray⟩) (.string ⟨t.text.toArray⟩) (.int .u64 0) (.int .i64 t.line) (.int .i64 t.col) (.slice (some ⟨w7.1.size,0,none⟩) 2 2)) (fun j e=>by cases e;exact .inl (fun h=>h.1.2 rfl));have hsz:(six (w7.setCell ⟨w6.1.size,5,none⟩ (.slice (some ⟨w7.1.size,0,none⟩) 2 2)) w1.1.size (.string ⟨qM.toArray⟩) (.string ⟨t.text.toArray⟩) (.int .u64 0) (.int .i64 t.line) (.int .i64 t.col) (.slice (some ⟨w7.1.size,0,none⟩) 2 2)).1.size=w7.1.size:=by simp[six]
    have h3:=(h1.lit2 h2 (by rw[hsz];exact⟨⟨by omega,by omega⟩,by omega⟩)).move (ok':=fun g=>w.1.size+1<=g/\g≠w1.1.size) fun g _ hok=>⟨hok.1,rfl⟩
    rw[hsz]at h3;refine⟨.mk qM t.text 0 t.line t.col [left,s7],l7,_,((S7.o.setN (by omega) _ _).six hwL _ _ _ _ _ _).alloc _,((L7.o.grown (jM _ _ _ _) (by simp;omega)).six qM t.text 0 t.line t.col _).alloc _,h3,?_⟩;rw[HST.o,HE7.o];rfl
theorem qUK(rec:WT->qQ->Ws)(hex:kZ 150 (fun p n=>#[p,n]) (rec .expr)):kZ 150 (fun p n=>#[p,n]) (qY7 rec):=by
 intro lo B acc t v w ws hW hL hF he hlen;obtain⟨k,x,m,ln,co,ks⟩:=t;obtain⟨hFk,hFx,hFm0,hFm1,hFn,hFL⟩:=id hF;simp only[qY7,qY,qG,qC,qO,zB,zD,zX,qE,kIf,zS,qA,qV,qF,qD,qP,qW,qN,zW,zM,qL,qM,qT,zK,zL,qH,zA,qQ.kind,qQ.text,qQ.num,qQ.line,qQ.col,qQ.kids]at he;cases hq0:(k == [98,105,110,97,114,121]);case true =>
  simp only[hq0,bU,bV,bT,if_true,reduceIte]at he;obtain rfl:k=[98,105,110,97,114,121]:=by simpa using hq0
  clear hq0;rcases ks with _ | ⟨a0,_ | ⟨a1,_ | ⟨b,r⟩⟩⟩
  ·simp at he
  ·simp at he
  rotate_left
  ·simp at he
  simp only at he;obtain⟨hb,he1⟩:=zN he;clear he;simp only[bE,decide_eq_true_eq]at hb;obtain⟨hlv,hm0⟩:=hb;have hlv2:(0:Int)<=xL x:=of_decide_eq_true hlv;have hlv3:¬xL x < 0:=by omega
  obtain⟨ws1,wr1,hc1,hd1,hx1⟩:=qK he1;subst hx1;clear he1;obtain⟨ws2,wr2,hc2,hd2,hx2⟩:=qK hd1;subst hx2;clear hd1;injection hc2 with hc2;subst hc2;obtain⟨g0,vc,hv,hR⟩:=hL.row (by simp[qQ.kids]);have HR:=hI hR;clear hR;simp only[qQ.kind,qQ.text,qQ.num,qQ.line,qQ.col,qQ.kids,List.length]at hv;subst hv;have S0:=hI (Sw.start hW hL);have HF:=hI hF;have HFL:=hI hFL;have HLEN:=hI hlen;have hBw:=hW.lt;have HFX:=hI hFx;have HFN:=hI hFn;clear hW hF hL hFL hlen hFk hFx hFn;try simp only[qZ,qS,qQ.kind,qQ.text,qQ.num,qQ.line,qQ.col,qQ.kids]at *
  go_enter func150,ntmps150
  obtain⟨c0,c1,c2,c3,c4,c5⟩:=S0.o.cells;have hszN:=S0.o.lt;go_wp2_with fail
  try clear c0 c1 c2 c3 c4 c5
  try clear hszN
  refine(qUf x _).mono ?_;rintro e w3 ⟨rfl,hb3⟩;have S3:=hI (S0.o.below hb3);clear S0 hb3;obtain⟨c0,c1,c2,c3,c4,c5⟩:=S3.o.cells;have hszN:=S3.o.lt;go_wp2_with fail
  try clear c0 c1 c2 c3 c4 c5
  try clear hszN
  have HQ:=qXA (t:=(.mk [98,105,110,97,114,121] x m ln co [a0,a1])) (v:=.slice (some ⟨g0,0,none⟩) 2 vc) (lo:=2) (hi:=2) _ S3.o.wr.tab rfl (by simpa[qQ.num]using hm0) (by first | simp | omega | (have:=HFN.o;(try simp only[List.length]at this ⊢);omega)) (by first | simp | omega | (have:=HFN.o;(try simp only[List.length]at this ⊢);omega));simp only[qZ,qQ.kind,qQ.text,qQ.num,qQ.line,qQ.col,qQ.kids]at HQ;refine HQ.mono ?_;clear HQ;rintro e w4 ⟨rfl,hb4⟩;have S4:=hI (S3.o.below hb4);clear S3 hb4;obtain⟨c0,c1,c2,c3,c4,c5⟩:=S4.o.cells;have hszN:=S4.o.lt;go_wp2_with fail
  refine(jF _).mono ?_;rintro e w' ⟨rfl,rfl⟩;try clear c0 c1 c2 c3 c4 c5 hszN
  obtain⟨qa,na,ca,hla,hca⟩:=(HR.o.keep S4.o.kp.below).2 0 (by simp);simp only[Nat.zero_add,Nat.zero_mul,Nat.one_mul,Nat.reduceAdd,Nat.reduceMul,List.getElem_cons_zero,List.getElem_cons_succ]at hla hca;have⟨k0,k1,k2,k3,k4,k5,_⟩:=hca.a;simp only[Nat.zero_add,Nat.zero_mul,Nat.one_mul,Nat.reduceAdd,Nat.reduceMul,List.getElem_cons_zero,List.getElem_cons_succ]at k0 k1 k2 k3 k4 k5;have HC:=hI ((qJ9 rec hex) lo B acc a0 (.slice qa na ca) _ ws1 S4.o.wr hla (HFL.o.mem _ (by simp)) hc1 (by have:=HLEN.o;(try simp only[lL,lO,lZ]at this ⊢);omega));clear hca hla;try simp only[qZ]at HC
  obtain⟨c0,c1,c2,c3,c4,c5⟩:=S4.o.cells;have hszN:=S4.o.lt;go_wp2_with fail
  try clear c0 c1 c2 c3 c4 c5
  try clear hszN
  try clear k0 k1 k2 k3 k4 k5
  refine(HC.o).mono ?_;rintro e w5 ⟨rfl,hW5,hK5⟩;have S5:=hI (S4.o.call hW5 hK5);clear S4 hW5 hK5 HC;obtain⟨c0,c1,c2,c3,c4,c5⟩:=S5.o.cells;have hszN:=S5.o.lt;go_wp2_with fail
  try clear c0 c1 c2 c3 c4 c5
  try clear hszN
  have H:=jZ (S:=w5.1.size) [x] S5.o.wr (by simp) (by simp) (by have:=HLEN.o;(try simp only[lL,lO,lZ]at this ⊢);omega);simp only[jT,List.map,List.length]at H;refine H.mono ?_;clear H;rintro e w6 ⟨rfl,hW6,hK6⟩;have S6:=hI (S5.o.call hW6 hK6);clear S5 hW6 hK6;obtain⟨qa,na,ca,hla,hca⟩:=(HR.o.keep S6.o.kp.below).2 1 (by simp);simp only[Nat.zero_add,Nat.zero_mul,Nat.one_mul,Nat.reduceAdd,Nat.reduceMul,List.getElem_cons_zero,List.getElem_cons_succ]at hla hca;have⟨k0,k1,k2,k3,k4,k5,_⟩:=hca.a;simp only[Nat.zero_add,Nat.zero_mul,Nat.one_mul,Nat.reduceAdd,Nat.reduceMul,List.getElem_cons_zero,List.getElem_cons_succ]at k0 k1 k2 k3 k4 k5;have HC:=hI ((qJ9 rec hex) lo B ((acc++ws1)++[x]) a1 (.slice qa na ca) _ wr2 S6.o.wr hla (HFL.o.mem _ (by simp)) hd2 (by have:=HLEN.o;(try simp only[lL,lO,lZ]at this ⊢);omega));clear hca hla;try simp only[qZ]at HC
  obtain⟨c0,c1,c2,c3,c4,c5⟩:=S6.o.cells;have hszN:=S6.o.lt;go_wp2_with fail
  try clear c0 c1 c2 c3 c4 c5
  try clear hszN
  try clear k0 k1 k2 k3 k4 k5
  refine(HC.o).mono ?_;rintro e w7 ⟨rfl,hW7,hK7⟩;have S7:=hI (S6.o.call hW7 hK7);clear S6 hW7 hK7 HC;go_wp2
  first | go_end0 | refine bodyPost_ret (v:=.tuple #[]) (by simp[results,results150,go_sem]) rfl ?_
  exact⟨rfl,by simpa[List.append_assoc,qY,qG,qC,qO,zB,zD,zX,qE,kIf,zS,qA,qV,qF,qD,qP,qW,qN,zW,zM,qL,qM,qT,zK,zL,qH,zA]using S7.o.wr,S7.o.kp⟩
 case false =>
 simp only[hq0,bO,bP,bF,if_false,reduceIte]at he;cases hq1:(k == [117,110,97,114,121]);case true =>
  simp only[hq1,bU,bV,bT,if_true,reduceIte]at he;obtain rfl:k=[117,110,97,114,121]:=by simpa using hq1
  clear hq1;rcases ks with _ | ⟨a0,_ | ⟨b,r⟩⟩
  ·simp at he
  rotate_left
  ·simp at he
  simp only at he;obtain⟨hb,he1⟩:=zN he;clear he;simp only[bE,decide_eq_true_eq]at hb;obtain⟨hu,hm0⟩:=hb;obtain⟨ws1,wr1,hc1,hd1,hx1⟩:=qK he1;subst hx1;clear he1;injection hc1 with hc1;subst hc1;obtain⟨g0,vc,hv,hR⟩:=hL.row (by simp[qQ.kids]);have HR:=hI hR;clear hR;simp only[qQ.kind,qQ.text,qQ.num,qQ.line,qQ.col,qQ.kids,List.length]at hv;subst hv;have S0:=hI (Sw.start hW hL);have HF:=hI hF;have HFL:=hI hFL;have HLEN:=hI hlen;have hBw:=hW.lt;have HFX:=hI hFx;have HFN:=hI hFn;clear hW hF hL hFL hlen hFk hFx hFn;try simp only[qZ,qS,qQ.kind,qQ.text,qQ.num,qQ.line,qQ.col,qQ.kids]at *
  go_enter func150,ntmps150
  have HTY:=hI (qVR x);rw[hu]at HTY;obtain⟨c0,c1,c2,c3,c4,c5⟩:=S0.o.cells;have hszN:=S0.o.lt;go_wp2_with fail
  try clear c0 c1 c2 c3 c4 c5
  try clear hszN
  refine(HTY.o _).mono ?_;rintro e w' ⟨rfl,rfl⟩;obtain⟨c0,c1,c2,c3,c4,c5⟩:=S0.o.cells;have hszN:=S0.o.lt;go_wp2_with fail
  try clear c0 c1 c2 c3 c4 c5
  try clear hszN
  have HQ:=qXA (t:=(.mk [117,110,97,114,121] x m ln co [a0])) (v:=.slice (some ⟨g0,0,none⟩) 1 vc) (lo:=1) (hi:=1) _ S0.o.wr.tab rfl (by simpa[qQ.num]using hm0) (by first | simp | omega | (have:=HFN.o;(try simp only[List.length]at this ⊢);omega)) (by first | simp | omega | (have:=HFN.o;(try simp only[List.length]at this ⊢);omega));simp only[qZ,qQ.kind,qQ.text,qQ.num,qQ.line,qQ.col,qQ.kids]at HQ;refine HQ.mono ?_;clear HQ;rintro e w2 ⟨rfl,hb2⟩;have S2:=hI (S0.o.below hb2);clear S0 hb2;obtain⟨c0,c1,c2,c3,c4,c5⟩:=S2.o.cells;have hszN:=S2.o.lt;go_wp2_with fail
  refine(jF _).mono ?_;rintro e w' ⟨rfl,rfl⟩;try clear c0 c1 c2 c3 c4 c5 hszN
  obtain⟨c0,c1,c2,c3,c4,c5⟩:=S2.o.cells;have hszN:=S2.o.lt;go_wp2_with fail
  try clear c0 c1 c2 c3 c4 c5
  try clear hszN
  have H:=jZ (S:=w2.1.size) [x] S2.o.wr (by simp) (by simp) (by have:=HLEN.o;(try simp only[lL,lO,lZ]at this ⊢);omega);simp only[jT,List.map,List.length]at H;refine H.mono ?_;clear H;rintro e w3 ⟨rfl,hW3,hK3⟩;have S3:=hI (S2.o.call hW3 hK3);clear S2 hW3 hK3;obtain⟨qa,na,ca,hla,hca⟩:=(HR.o.keep S3.o.kp.below).2 0 (by simp);simp only[Nat.zero_add,Nat.zero_mul,Nat.one_mul,Nat.reduceAdd,Nat.reduceMul,List.getElem_cons_zero,List.getElem_cons_succ]at hla hca;have⟨k0,k1,k2,k3,k4,k5,_⟩:=hca.a;simp only[Nat.zero_add,Nat.zero_mul,Nat.one_mul,Nat.reduceAdd,Nat.reduceMul,List.getElem_cons_zero,List.getElem_cons_succ]at k0 k1 k2 k3 k4 k5;have HC:=hI ((qJ9 rec hex) lo B (acc++[x]) a0 (.slice qa na ca) _ wr1 S3.o.wr hla (HFL.o.mem _ (by simp)) hd1 (by have:=HLEN.o;(try simp only[lL,lO,lZ]at this ⊢);omega));clear hca hla;try simp only[qZ]at HC
  obtain⟨c0,c1,c2,c3,c4,c5⟩:=S3.o.cells;have hszN:=S3.o.lt;go_wp2_with fail
  try clear c0 c1 c2 c3 c4 c5
  try clear hszN
  try clear k0 k1 k2 k3 k4 k5
  refine(HC.o).mono ?_;rintro e w4 ⟨rfl,hW4,hK4⟩;have S4:=hI (S3.o.call hW4 hK4);clear S3 hW4 hK4 HC;go_wp2
  first | go_end0 | refine bodyPost_ret (v:=.tuple #[]) (by simp[results,results150,go_sem]) rfl ?_
  exact⟨rfl,by simpa[List.append_assoc,qY,qG,qC,qO,zB,zD,zX,qE,kIf,zS,qA,qV,qF,qD,qP,qW,qN,zW,zM,qL,qM,qT,zK,zL,qH,zA]using S4.o.wr,S4.o.kp⟩
 case false =>
 simp only[hq1,bO,bP,bF,if_false,reduceIte]at he;cases hq2:(k == [99,97,115,116]);case true =>
  simp only[hq2,bU,bV,bT,if_true,reduceIte]at he;obtain rfl:k=[99,97,115,116]:=by simpa using hq2
  clear hq2;rcases ks with _ | ⟨a0,_ | ⟨b,r⟩⟩
  ·simp at he
  rotate_left
  ·simp at he
  simp only at he;obtain⟨hb,he1⟩:=zN he;clear he;simp only[bE,decide_eq_true_eq]at hb;obtain⟨hu,hm0⟩:=hb;obtain⟨ws1,wr1,hc1,hd1,hx1⟩:=qK he1;subst hx1;clear he1;injection hc1 with hc1;subst hc1;obtain⟨g0,vc,hv,hR⟩:=hL.row (by simp[qQ.kids]);have HR:=hI hR;clear hR;simp only[qQ.kind,qQ.text,qQ.num,qQ.line,qQ.col,qQ.kids,List.length]at hv;subst hv;have S0:=hI (Sw.start hW hL);have HF:=hI hF;have HFL:=hI hFL;have HLEN:=hI hlen;have hBw:=hW.lt;have HFX:=hI hFx;have HFN:=hI hFn;clear hW hF hL hFL hlen hFk hFx hFn;try simp only[qZ,qS,qQ.kind,qQ.text,qQ.num,qQ.line,qQ.col,qQ.kids]at *
  go_enter func150,ntmps150
  have HTY:=hI (qXC ⟨x.toArray⟩ _ S0.o.wr.tab.types);have hdt:(⟨x.toArray⟩:ByteArray).data.toList=x:=by simp
  rw[hdt,hu]at HTY;clear hdt;obtain⟨c0,c1,c2,c3,c4,c5⟩:=S0.o.cells;have hszN:=S0.o.lt;go_wp2_with fail
  try clear c0 c1 c2 c3 c4 c5
  try clear hszN
  refine(HTY.o).mono ?_;rintro e w' ⟨rfl,rfl⟩;obtain⟨c0,c1,c2,c3,c4,c5⟩:=S0.o.cells;have hszN:=S0.o.lt;go_wp2_with fail
  try clear c0 c1 c2 c3 c4 c5
  try clear hszN
  have HQ:=qXA (t:=(.mk [99,97,115,116] x m ln co [a0])) (v:=.slice (some ⟨g0,0,none⟩) 1 vc) (lo:=1) (hi:=1) _ S0.o.wr.tab rfl (by simpa[qQ.num]using hm0) (by first | simp | omega | (have:=HFN.o;(try simp only[List.length]at this ⊢);omega)) (by first | simp | omega | (have:=HFN.o;(try simp only[List.length]at this ⊢);omega));simp only[qZ,qQ.kind,qQ.text,qQ.num,qQ.line,qQ.col,qQ.kids]at HQ;refine HQ.mono ?_;clear HQ;rintro e w2 ⟨rfl,hb2⟩;have S2:=hI (S0.o.below hb2);clear S0 hb2;obtain⟨c0,c1,c2,c3,c4,c5⟩:=S2.o.cells;have hszN:=S2.o.lt;go_wp2_with fail
  refine(jF _).mono ?_;rintro e w' ⟨rfl,rfl⟩;try clear c0 c1 c2 c3 c4 c5 hszN
  obtain⟨c0,c1,c2,c3,c4,c5⟩:=S2.o.cells;have hszN:=S2.o.lt;go_wp2_with fail
  try clear c0 c1 c2 c3 c4 c5
  try clear hszN
  have H:=jZ (S:=w2.1.size) [[40],x,[41]] S2.o.wr (by simp) (by simp) (by have:=HLEN.o;(try simp only[lL,lO,lZ]at this ⊢);omega);simp only[jT,List.map,List.length]at H;refine H.mono ?_;clear H;rintro e w3 ⟨rfl,hW3,hK3⟩;have S3:=hI (S2.o.call hW3 hK3);clear S2 hW3 hK3;obtain⟨qa,na,ca,hla,hca⟩:=(HR.o.keep S3.o.kp.below).2 0 (by simp);simp only[Nat.zero_add,Nat.zero_mul,Nat.one_mul,Nat.reduceAdd,Nat.reduceMul,List.getElem_cons_zero,List.getElem_cons_succ]at hla hca;have⟨k0,k1,k2,k3,k4,k5,_⟩:=hca.a;simp only[Nat.zero_add,Nat.zero_mul,Nat.one_mul,Nat.reduceAdd,Nat.reduceMul,List.getElem_cons_zero,List.getElem_cons_succ]at k0 k1 k2 k3 k4 k5;have HC:=hI ((qJ9 rec hex) lo B (acc++[[40],x,[41]]) a0 (.slice qa na ca) _ wr1 S3.o.wr hla (HFL.o.mem _ (by simp)) hd1 (by have:=HLEN.o;(try simp only[lL,lO,lZ]at this ⊢);omega));clear hca hla;try simp only[qZ]at HC
  obtain⟨c0,c1,c2,c3,c4,c5⟩:=S3.o.cells;have hszN:=S3.o.lt;go_wp2_with fail
  try clear c0 c1 c2 c3 c4 c5
  try clear hszN
  try clear k0 k1 k2 k3 k4 k5
  refine(HC.o).mono ?_;rintro e w4 ⟨rfl,hW4,hK4⟩;have S4:=hI (S3.o.call hW4 hK4);clear S3 hW4 hK4 HC;go_wp2
  first | go_end0 | refine bodyPost_ret (v:=.tuple #[]) (by simp[results,results150,go_sem]) rfl ?_
  exact⟨rfl,by simpa[List.append_assoc,qY,qG,qC,qO,zB,zD,zX,qE,kIf,zS,qA,qV,qF,qD,qP,qW,qN,zW,zM,qL,qM,qT,zK,zL,qH,zA]using S4.o.wr,S4.o.kp⟩
 case false =>
 simp only[hq2,bO,bP,bF,if_false,reduceIte]at he;cases hq3:(k == [116,114,117,101]);case true =>
  simp only[hq3,bU,bV,bT,if_true,reduceIte]at he;obtain rfl:k=[116,114,117,101]:=by simpa using hq3
  clear hq3;obtain⟨hb,he1⟩:=zN he;clear he;simp only[bE,decide_eq_true_eq]at hb;obtain⟨hbare,hl⟩:=hb;obtain rfl:ks=[]:=by simpa using hl
  injection he1 with he1;subst he1;clear hl;obtain⟨q0,vc,hv,hvc,hvm⟩:=hL.shape;simp only[qQ.kind,qQ.text,qQ.num,qQ.line,qQ.col,qQ.kids,List.length]at hv;subst hv;have S0:=hI (Sw.start hW hL);have HF:=hI hF;have HFL:=hI hFL;have HLEN:=hI hlen;have hBw:=hW.lt;have HFX:=hI hFx;have HFN:=hI hFn;clear hW hF hL hFL hlen hFk hFx hFn;try simp only[qZ,qS,qQ.kind,qQ.text,qQ.num,qQ.line,qQ.col,qQ.kids]at *
  go_enter func150,ntmps150
  obtain⟨c0,c1,c2,c3,c4,c5⟩:=S0.o.cells;have hszN:=S0.o.lt;go_wp2_with fail
  try clear c0 c1 c2 c3 c4 c5
  try clear hszN
  have HQ:=wB (t:=(.mk [116,114,117,101] x m ln co [])) (v:=.slice q0 0 vc) (lo:=0) (hi:=0) _ S0.o.wr.tab rfl hbare (by first | simp | omega | (have:=HFN.o;(try simp only[List.length]at this ⊢);omega)) (by first | simp | omega | (have:=HFN.o;(try simp only[List.length]at this ⊢);omega));simp only[qZ,qQ.kind,qQ.text,qQ.num,qQ.line,qQ.col,qQ.kids]at HQ;refine HQ.mono ?_;clear HQ;rintro e w1 ⟨rfl,hb1⟩;have S1:=hI (S0.o.below hb1);clear S0 hb1;obtain⟨c0,c1,c2,c3,c4,c5⟩:=S1.o.cells;have hszN:=S1.o.lt;go_wp2_with fail
  refine(jF _).mono ?_;rintro e w' ⟨rfl,rfl⟩;try clear c0 c1 c2 c3 c4 c5 hszN
  obtain⟨c0,c1,c2,c3,c4,c5⟩:=S1.o.cells;have hszN:=S1.o.lt;go_wp2_with fail
  try clear c0 c1 c2 c3 c4 c5
  try clear hszN
  have H:=jZ (S:=w1.1.size) [[116,114,117,101]] S1.o.wr (by simp) (by simp) (by have:=HLEN.o;(try simp only[lL,lO,lZ]at this ⊢);omega);simp only[jT,List.map,List.length]at H;refine H.mono ?_;clear H;rintro e w2 ⟨rfl,hW2,hK2⟩;have S2:=hI (S1.o.call hW2 hK2);clear S1 hW2 hK2;go_wp2
  first | go_end0 | refine bodyPost_ret (v:=.tuple #[]) (by simp[results,results150,go_sem]) rfl ?_
  exact⟨rfl,by simpa[List.append_assoc,qY,qG,qC,qO,zB,zD,zX,qE,kIf,zS,qA,qV,qF,qD,qP,qW,qN,zW,zM,qL,qM,qT,zK,zL,qH,zA]using S2.o.wr,S2.o.kp⟩
 case false =>
 simp only[hq3,bO,bP,bF,if_false,reduceIte]at he;cases hq4:(k == [102,97,108,115,101]);case true =>
  simp only[hq4,bU,bV,bT,if_true,reduceIte]at he;obtain rfl:k=[102,97,108,115,101]:=by simpa using hq4
  clear hq4;obtain⟨hb,he1⟩:=zN he;clear he;simp only[bE,decide_eq_true_eq]at hb;obtain⟨hbare,hl⟩:=hb;obtain rfl:ks=[]:=by simpa using hl
  injection he1 with he1;subst he1;clear hl;obtain⟨q0,vc,hv,hvc,hvm⟩:=hL.shape;simp only[qQ.kind,qQ.text,qQ.num,qQ.line,qQ.col,qQ.kids,List.length]at hv;subst hv;have S0:=hI (Sw.start hW hL);have HF:=hI hF;have HFL:=hI hFL;have HLEN:=hI hlen;have hBw:=hW.lt;have HFX:=hI hFx;have HFN:=hI hFn;clear hW hF hL hFL hlen hFk hFx hFn;try simp only[qZ,qS,qQ.kind,qQ.text,qQ.num,qQ.line,qQ.col,qQ.kids]at *
  go_enter func150,ntmps150
  obtain⟨c0,c1,c2,c3,c4,c5⟩:=S0.o.cells;have hszN:=S0.o.lt;go_wp2_with fail
  try clear c0 c1 c2 c3 c4 c5
  try clear hszN
  have HQ:=wB (t:=(.mk [102,97,108,115,101] x m ln co [])) (v:=.slice q0 0 vc) (lo:=0) (hi:=0) _ S0.o.wr.tab rfl hbare (by first | simp | omega | (have:=HFN.o;(try simp only[List.length]at this ⊢);omega)) (by first | simp | omega | (have:=HFN.o;(try simp only[List.length]at this ⊢);omega));simp only[qZ,qQ.kind,qQ.text,qQ.num,qQ.line,qQ.col,qQ.kids]at HQ;refine HQ.mono ?_;clear HQ;rintro e w1 ⟨rfl,hb1⟩;have S1:=hI (S0.o.below hb1);clear S0 hb1;obtain⟨c0,c1,c2,c3,c4,c5⟩:=S1.o.cells;have hszN:=S1.o.lt;go_wp2_with fail
  refine(jF _).mono ?_;rintro e w' ⟨rfl,rfl⟩;try clear c0 c1 c2 c3 c4 c5 hszN
  obtain⟨c0,c1,c2,c3,c4,c5⟩:=S1.o.cells;have hszN:=S1.o.lt;go_wp2_with fail
  try clear c0 c1 c2 c3 c4 c5
  try clear hszN
  have H:=jZ (S:=w1.1.size) [[102,97,108,115,101]] S1.o.wr (by simp) (by simp) (by have:=HLEN.o;(try simp only[lL,lO,lZ]at this ⊢);omega);simp only[jT,List.map,List.length]at H;refine H.mono ?_;clear H;rintro e w2 ⟨rfl,hW2,hK2⟩;have S2:=hI (S1.o.call hW2 hK2);clear S1 hW2 hK2;go_wp2
  first | go_end0 | refine bodyPost_ret (v:=.tuple #[]) (by simp[results,results150,go_sem]) rfl ?_
  exact⟨rfl,by simpa[List.append_assoc,qY,qG,qC,qO,zB,zD,zX,qE,kIf,zS,qA,qV,qF,qD,qP,qW,qN,zW,zM,qL,qM,qT,zK,zL,qH,zA]using S2.o.wr,S2.o.kp⟩
 case false =>
 simp only[hq4,bO,bP,bF,if_false,reduceIte]at he;cases hq5:(k == [110,117,109]);case true =>
  simp only[hq5,bU,bV,bT,if_true,reduceIte]at he;obtain rfl:k=[110,117,109]:=by simpa using hq5
  clear hq5;obtain⟨q0,vc,hv,hvc,hvm⟩:=hL.shape;simp only[qQ.kind,qQ.text,qQ.num,qQ.line,qQ.col,qQ.kids,List.length]at hv;subst hv;have S0:=hI (Sw.start hW hL);have HF:=hI hF;have HFL:=hI hFL;have HLEN:=hI hlen;have hBw:=hW.lt;have HFX:=hI hFx;have HFN:=hI hFn;clear hW hF hL hFL hlen hFk hFx hFn;try simp only[qZ,qS,qQ.kind,qQ.text,qQ.num,qQ.line,qQ.col,qQ.kids]at *
  go_enter func150,ntmps150
  have HC:=hI (qPT lo B acc (.mk [110,117,109] x m ln co ks) _ _ ws S0.o.wr S0.o.li HF.o he (by have:=HLEN.o;(try simp only[lL,lO,lZ]at this ⊢);omega));try simp only[qZ,qQ.kind,qQ.text,qQ.num,qQ.line,qQ.col,qQ.kids]at HC
  obtain⟨c0,c1,c2,c3,c4,c5⟩:=S0.o.cells;have hszN:=S0.o.lt;go_wp2_with fail
  try clear c0 c1 c2 c3 c4 c5
  try clear hszN
  refine(HC.o).mono ?_;rintro e w1 ⟨rfl,hW1,hK1⟩;have S1:=hI (S0.o.call hW1 hK1);clear S0 hW1 hK1 HC;go_wp2
  first | go_end0 | refine bodyPost_ret (v:=.tuple #[]) (by simp[results,results150,go_sem]) rfl ?_
  exact⟨rfl,by simpa[List.append_assoc,qY,qG,qC,qO,zB,zD,zX,qE,kIf,zS,qA,qV,qF,qD,qP,qW,qN,zW,zM,qL,qM,qT,zK,zL,qH,zA]using S1.o.wr,S1.o.kp⟩
 case false =>
 simp only[hq5,bO,bP,bF,if_false,reduceIte]at he;obtain⟨q0,vc,hv,hvc,hvm⟩:=hL.shape;simp only[qQ.kind,qQ.text,qQ.num,qQ.line,qQ.col,qQ.kids,List.length]at hv;subst hv;have S0:=hI (Sw.start hW hL);have HF:=hI hF;have HFL:=hI hFL;have HLEN:=hI hlen;have hBw:=hW.lt;have HFX:=hI hFx;have HFN:=hI hFn;clear hW hF hL hFL hlen hFk hFx hFn;try simp only[qZ,qS,qQ.kind,qQ.text,qQ.num,qQ.line,qQ.col,qQ.kids]at *
 go_enter func150,ntmps150
 have HC:=hI ((qVn rec hex) lo B acc (.mk k x m ln co ks) _ _ ws S0.o.wr S0.o.li HF.o he (by have:=HLEN.o;(try simp only[lL,lO,lZ]at this ⊢);omega));try simp only[qZ,qQ.kind,qQ.text,qQ.num,qQ.line,qQ.col,qQ.kids]at HC
 obtain⟨c0,c1,c2,c3,c4,c5⟩:=S0.o.cells;have hszN:=S0.o.lt;go_wp2_with fail
 try clear c0 c1 c2 c3 c4 c5
 try clear hszN
 refine(HC.o).mono ?_;rintro e w1 ⟨rfl,hW1,hK1⟩;have S1:=hI (S0.o.call hW1 hK1);clear S0 hW1 hK1 HC;go_wp2
 first | go_end0 | refine bodyPost_ret (v:=.tuple #[]) (by simp[results,results150,go_sem]) rfl ?_
 exact⟨rfl,by simpa[List.append_assoc,qY,qG,qC,qO,zB,zD,zX,qE,kIf,zS,qA,qV,qF,qD,qP,qW,qN,zW,zM,qL,qM,qT,zK,zL,qH,zA]using S1.o.wr,S1.o.kp⟩
theorem qVD(rec:WT->qQ->Ws)(hex:kZ 150 (fun p n=>#[p,n]) (rec .expr))(hbl:kZ 116 (fun p n=>#[p,n]) (rec .block)):kZ 148 (fun p n=>#[p,n]) (qQi rec):=by
 intro lo B acc t v w ws hW hL hF he hlen;obtain⟨k,x,m,ln,co,ks⟩:=t;obtain⟨hFk,hFx,hFm0,hFm1,hFn,hFL⟩:=id hF;simp only[qQi,qY,qG,qC,qO,zB,zD,zX,qE,kIf,zS,qA,qV,qF,qD,qP,qW,qN,zW,zM,qL,qM,qT,zK,zL,qH,zA,qQ.kind,qQ.text,qQ.num,qQ.line,qQ.col,qQ.kids]at he;rcases ks with _ | ⟨a0,_ | ⟨a1,r⟩⟩
 ·simp at he
 ·simp at he
 simp only at he;obtain⟨ws1,wr1,hc1,hd1,hx1⟩:=qK he;subst hx1;clear he;injection hc1 with hc1;subst hc1;obtain⟨ws2,wr2,hc2,hd2,hx2⟩:=qK hd1;subst hx2;clear hd1;obtain⟨ws3,wr3,hc3,hd3,hx3⟩:=qK hd2;subst hx3;clear hd2;injection hc3 with hc3;subst hc3;obtain⟨g0,vc,hv,hR⟩:=hL.row (by simp[qQ.kids]);have HR:=hI hR;clear hR;simp only[qQ.kind,qQ.text,qQ.num,qQ.line,qQ.col,qQ.kids,List.length]at hv;subst hv;have S0:=hI (Sw.start hW hL);have HF:=hI hF;have HFL:=hI hFL;have HLEN:=hI hlen;have hBw:=hW.lt;have HFX:=hI hFx;have HFN:=hI hFn;clear hW hF hL hFL hlen hFk hFx hFn;try simp only[qZ,qS,qQ.kind,qQ.text,qQ.num,qQ.line,qQ.col,qQ.kids]at *
 have hn0:(0:Int) < (r.length:Int)+1+1:=by omega
 have hn1:(1:Int) < (r.length:Int)+1+1:=by omega
 go_enter func148,ntmps148
 obtain⟨c0,c1,c2,c3,c4,c5⟩:=S0.o.cells;have hszN:=S0.o.lt;go_wp2_with fail
 try clear c0 c1 c2 c3 c4 c5
 try clear hszN
 have H:=jZ (S:=w.1.size+1) [k,[40]] S0.o.wr (by simp) (by simp) (by have:=HLEN.o;(try simp only[lL,lO,lZ]at this ⊢);omega);simp only[jT,List.map,List.length]at H;refine H.mono ?_;clear H;rintro e w4 ⟨rfl,hW4,hK4⟩;have S4:=hI (S0.o.call hW4 hK4);clear S0 hW4 hK4;obtain⟨qa,na,ca,hla,hca⟩:=(HR.o.keep S4.o.kp.below).2 0 (by simp);simp only[Nat.zero_add,Nat.zero_mul,Nat.one_mul,Nat.reduceAdd,Nat.reduceMul,List.getElem_cons_zero,List.getElem_cons_succ]at hla hca;have⟨k0,k1,k2,k3,k4,k5,_⟩:=hca.a;simp only[Nat.zero_add,Nat.zero_mul,Nat.one_mul,Nat.reduceAdd,Nat.reduceMul,List.getElem_cons_zero,List.getElem_cons_succ]at k0 k1 k2 k3 k4 k5;have HC:=hI (hex lo B (acc++[k,[40]]) a0 (.slice qa na ca) _ ws2 S4.o.wr hla (HFL.o.mem _ (by simp)) hc2 (by have:=HLEN.o;(try simp only[lL,lO,lZ]at this ⊢);omega));clear hca hla;try simp only[qZ]at HC
 obtain⟨c0,c1,c2,c3,c4,c5⟩:=S4.o.cells;have hszN:=S4.o.lt;go_wp2_with fail
 try clear c0 c1 c2 c3 c4 c5
 try clear hszN
 try clear k0 k1 k2 k3 k4 k5
 refine(HC.o).mono ?_;rintro e w5 ⟨rfl,hW5,hK5⟩;have S5:=hI (S4.o.call hW5 hK5);clear S4 hW5 hK5 HC;obtain⟨c0,c1,c2,c3,c4,c5⟩:=S5.o.cells;have hszN:=S5.o.lt;go_wp2_with fail
 try clear c0 c1 c2 c3 c4 c5
 try clear hszN
 have H:=jZ (S:=w5.1.size) [[41]] S5.o.wr (by simp) (by simp) (by have:=HLEN.o;(try simp only[lL,lO,lZ]at this ⊢);omega);simp only[jT,List.map,List.length]at H;refine H.mono ?_;clear H;rintro e w6 ⟨rfl,hW6,hK6⟩;have S6:=hI (S5.o.call hW6 hK6);clear S5 hW6 hK6;obtain⟨qa,na,ca,hla,hca⟩:=(HR.o.keep S6.o.kp.below).2 1 (by simp);simp only[Nat.zero_add,Nat.zero_mul,Nat.one_mul,Nat.reduceAdd,Nat.reduceMul,List.getElem_cons_zero,List.getElem_cons_succ]at hla hca;have⟨k0,k1,k2,k3,k4,k5,_⟩:=hca.a;simp only[Nat.zero_add,Nat.zero_mul,Nat.one_mul,Nat.reduceAdd,Nat.reduceMul,List.getElem_cons_zero,List.getElem_cons_succ]at k0 k1 k2 k3 k4 k5;have HC:=hI (hbl lo B (((acc++[k,[40]])++ws2)++[[41]]) a1 (.slice qa na ca) _ wr3 S6.o.wr hla (HFL.o.mem _ (by simp)) hd3 (by have:=HLEN.o;(try simp only[lL,lO,lZ]at this ⊢);omega));clear hca hla;try simp only[qZ]at HC
 obtain⟨c0,c1,c2,c3,c4,c5⟩:=S6.o.cells;have hszN:=S6.o.lt;go_wp2_with fail
 try clear c0 c1 c2 c3 c4 c5
 try clear hszN
 try clear k0 k1 k2 k3 k4 k5
 refine(HC.o).mono ?_;rintro e w7 ⟨rfl,hW7,hK7⟩;have S7:=hI (S6.o.call hW7 hK7);clear S6 hW7 hK7 HC;go_wp2
 first | go_end0 | refine bodyPost_ret (v:=.tuple #[]) (by simp[results,results148,go_sem]) rfl ?_
 exact⟨rfl,by simpa[List.append_assoc,qY,qG,qC,qO,zB,zD,zX,qE,kIf,zS,qA,qV,qF,qD,qP,qW,qN,zW,zM,qL,qM,qT,zK,zL,qH,zA]using S7.o.wr,S7.o.kp⟩
theorem choice_w(rec:WT->qQ->Ws)(hex:kZ 150 (fun p n=>#[p,n]) (rec .expr))(hbl:kZ 116 (fun p n=>#[p,n]) (rec .block)):kZ 147 (fun p n=>#[p,n]) (qK0 rec):=by
 intro lo B acc t v w ws hW hL hF he hlen;obtain⟨k,x,m,ln,co,ks⟩:=t;obtain⟨hFk,hFx,hFm0,hFm1,hFn,hFL⟩:=id hF;simp only[qK0,qY,qG,qC,qO,zB,zD,zX,qE,kIf,zS,qA,qV,qF,qD,qP,qW,qN,zW,zM,qL,qM,qT,zK,zL,qH,zA,qQ.kind,qQ.text,qQ.num,qQ.line,qQ.col,qQ.kids]at he;obtain⟨hbare,he1⟩:=zN he;clear he;rcases ks with _ | ⟨a0,_ | ⟨a1,_ | ⟨a2,_ | ⟨b,r⟩⟩⟩⟩
 ·simp at he1
 ·simp at he1
 rotate_right
 ·simp at he1
 ·simp only at he1;obtain⟨g0,vc,hv,hR⟩:=hL.row (by simp[qQ.kids]);have HR:=hI hR;clear hR;simp only[qQ.kind,qQ.text,qQ.num,qQ.line,qQ.col,qQ.kids,List.length]at hv;subst hv;have S0:=hI (Sw.start hW hL);have HF:=hI hF;have HFL:=hI hFL;have HLEN:=hI hlen;have hBw:=hW.lt;have HFX:=hI hFx;have HFN:=hI hFn;clear hW hF hL hFL hlen hFk hFx hFn;try simp only[qZ,qS,qQ.kind,qQ.text,qQ.num,qQ.line,qQ.col,qQ.kids]at *
  go_enter func147,ntmps147
  obtain⟨c0,c1,c2,c3,c4,c5⟩:=S0.o.cells;have hszN:=S0.o.lt;go_wp2_with fail
  try clear c0 c1 c2 c3 c4 c5
  try clear hszN
  have HQ:=wB (t:=(.mk k x m ln co [a0,a1])) (v:=.slice (some ⟨g0,0,none⟩) 2 vc) (lo:=2) (hi:=3) _ S0.o.wr.tab rfl hbare (by first | simp | omega | (have:=HFN.o;(try simp only[List.length]at this ⊢);omega)) (by first | simp | omega | (have:=HFN.o;(try simp only[List.length]at this ⊢);omega));simp only[qZ,qQ.kind,qQ.text,qQ.num,qQ.line,qQ.col,qQ.kids]at HQ;refine HQ.mono ?_;clear HQ;rintro e w1 ⟨rfl,hb1⟩;have S1:=hI (S0.o.below hb1);clear S0 hb1;obtain⟨c0,c1,c2,c3,c4,c5⟩:=S1.o.cells;have hszN:=S1.o.lt;go_wp2_with fail
  refine(jF _).mono ?_;rintro e w' ⟨rfl,rfl⟩;try clear c0 c1 c2 c3 c4 c5 hszN
  have HC:=hI ((qVD rec hex hbl) lo B acc (.mk k x m ln co [a0,a1]) _ _ ws S1.o.wr S1.o.li HF.o he1 (by have:=HLEN.o;(try simp only[lL,lO,lZ]at this ⊢);omega));try simp only[qZ,qQ.kind,qQ.text,qQ.num,qQ.line,qQ.col,qQ.kids]at HC
  obtain⟨c0,c1,c2,c3,c4,c5⟩:=S1.o.cells;have hszN:=S1.o.lt;go_wp2_with fail
  try clear c0 c1 c2 c3 c4 c5
  try clear hszN
  refine(HC.o).mono ?_;rintro e w2 ⟨rfl,hW2,hK2⟩;have S2:=hI (S1.o.call hW2 hK2);clear S1 hW2 hK2 HC;obtain⟨c0,c1,c2,c3,c4,c5⟩:=S2.o.cells;have hszN:=S2.o.lt;go_wp2
  first | go_end0 | refine bodyPost_ret (v:=.tuple #[]) (by simp[results,results147,go_sem]) rfl ?_
  exact⟨rfl,by simpa[List.append_assoc,qY,qG,qC,qO,zB,zD,zX,qE,kIf,zS,qA,qV,qF,qD,qP,qW,qN,zW,zM,qL,qM,qT,zK,zL,qH,zA]using S2.o.wr,S2.o.kp⟩
 ·simp only at he1;obtain⟨ws1,wr1,hc1,hd1,hx1⟩:=qK he1;subst hx1;clear he1;obtain⟨ws2,wr2,hc2,hd2,hx2⟩:=qK hd1;subst hx2;clear hd1;injection hc2 with hc2;subst hc2;obtain⟨g0,vc,hv,hR⟩:=hL.row (by simp[qQ.kids]);have HR:=hI hR;clear hR;simp only[qQ.kind,qQ.text,qQ.num,qQ.line,qQ.col,qQ.kids,List.length]at hv;subst hv;have S0:=hI (Sw.start hW hL);have HF:=hI hF;have HFL:=hI hFL;have HLEN:=hI hlen;have hBw:=hW.lt;have HFX:=hI hFx;have HFN:=hI hFn;clear hW hF hL hFL hlen hFk hFx hFn;try simp only[qZ,qS,qQ.kind,qQ.text,qQ.num,qQ.line,qQ.col,qQ.kids]at *
  go_enter func147,ntmps147
  obtain⟨c0,c1,c2,c3,c4,c5⟩:=S0.o.cells;have hszN:=S0.o.lt;go_wp2_with fail
  try clear c0 c1 c2 c3 c4 c5
  try clear hszN
  have HQ:=wB (t:=(.mk k x m ln co [a0,a1,a2])) (v:=.slice (some ⟨g0,0,none⟩) 3 vc) (lo:=2) (hi:=3) _ S0.o.wr.tab rfl hbare (by first | simp | omega | (have:=HFN.o;(try simp only[List.length]at this ⊢);omega)) (by first | simp | omega | (have:=HFN.o;(try simp only[List.length]at this ⊢);omega));simp only[qZ,qQ.kind,qQ.text,qQ.num,qQ.line,qQ.col,qQ.kids]at HQ;refine HQ.mono ?_;clear HQ;rintro e w3 ⟨rfl,hb3⟩;have S3:=hI (S0.o.below hb3);clear S0 hb3;obtain⟨c0,c1,c2,c3,c4,c5⟩:=S3.o.cells;have hszN:=S3.o.lt;go_wp2_with fail
  refine(jF _).mono ?_;rintro e w' ⟨rfl,rfl⟩;try clear c0 c1 c2 c3 c4 c5 hszN
  have HC:=hI ((qVD rec hex hbl) lo B acc (.mk k x m ln co [a0,a1,a2]) _ _ ws1 S3.o.wr S3.o.li HF.o hc1 (by have:=HLEN.o;(try simp only[lL,lO,lZ]at this ⊢);omega));try simp only[qZ,qQ.kind,qQ.text,qQ.num,qQ.line,qQ.col,qQ.kids]at HC
  obtain⟨c0,c1,c2,c3,c4,c5⟩:=S3.o.cells;have hszN:=S3.o.lt;go_wp2_with fail
  try clear c0 c1 c2 c3 c4 c5
  try clear hszN
  refine(HC.o).mono ?_;rintro e w4 ⟨rfl,hW4,hK4⟩;have S4:=hI (S3.o.call hW4 hK4);clear S3 hW4 hK4 HC;obtain⟨c0,c1,c2,c3,c4,c5⟩:=S4.o.cells;have hszN:=S4.o.lt;go_wp2_with fail
  try clear c0 c1 c2 c3 c4 c5
  try clear hszN
  have H:=jZ (S:=w4.1.size) [[101,108,115,101]] S4.o.wr (by simp) (by simp) (by have:=HLEN.o;(try simp only[lL,lO,lZ]at this ⊢);omega);simp only[jT,List.map,List.length]at H;refine H.mono ?_;clear H;rintro e w5 ⟨rfl,hW5,hK5⟩;have S5:=hI (S4.o.call hW5 hK5);clear S4 hW5 hK5;obtain⟨qa,na,ca,hla,hca⟩:=(HR.o.keep S5.o.kp.below).2 2 (by simp);simp only[Nat.zero_add,Nat.zero_mul,Nat.one_mul,Nat.reduceAdd,Nat.reduceMul,List.getElem_cons_zero,List.getElem_cons_succ]at hla hca;have⟨k0,k1,k2,k3,k4,k5,_⟩:=hca.a;simp only[Nat.zero_add,Nat.zero_mul,Nat.one_mul,Nat.reduceAdd,Nat.reduceMul,List.getElem_cons_zero,List.getElem_cons_succ]at k0 k1 k2 k3 k4 k5;have HC:=hI (hbl lo B ((acc++ws1)++[[101,108,115,101]]) a2 (.slice qa na ca) _ wr2 S5.o.wr hla (HFL.o.mem _ (by simp)) hd2 (by have:=HLEN.o;(try simp only[lL,lO,lZ]at this ⊢);omega));clear hca hla;try simp only[qZ]at HC
  obtain⟨c0,c1,c2,c3,c4,c5⟩:=S5.o.cells;have hszN:=S5.o.lt;go_wp2_with fail
  try clear c0 c1 c2 c3 c4 c5
  try clear hszN
  try clear k0 k1 k2 k3 k4 k5
  refine(HC.o).mono ?_;rintro e w6 ⟨rfl,hW6,hK6⟩;have S6:=hI (S5.o.call hW6 hK6);clear S5 hW6 hK6 HC;go_wp2
  first | go_end0 | refine bodyPost_ret (v:=.tuple #[]) (by simp[results,results147,go_sem]) rfl ?_
  exact⟨rfl,by simpa[List.append_assoc,qY,qG,qC,qO,zB,zD,zX,qE,kIf,zS,qA,qV,qF,qD,qP,qW,qN,zW,zM,qL,qM,qT,zK,zL,qH,zA]using S6.o.wr,S6.o.kp⟩
def qWe(p:qQ->Ws)(i:Nat)(ts:List qQ):Ws:=if i=0 then wO p ts else qKp p (ts.drop i)
theorem tailW_end(p:qQ->Ws)(ts:List qQ){i:Nat}(h:i<=ts.length)(h':¬i < ts.length):qWe p i ts=some []:=by
 unfold qWe;have:i=ts.length:=by omega
 subst this;split
 ·rename_i h0;rw[List.length_eq_zero_iff]at h0;rw[h0];rfl
 ·rw[List.drop_length];rfl
theorem tailW_zero{p:qQ->Ws}{ts:List qQ}(h:0 < ts.length){ws:List (List UInt8)}(he:qWe p 0 ts=some ws):∃ a b,p ts[0]=some a/\qWe p 1 ts=some b/\ws=a++b:=by
 cases ts with
 | nil=>simp at h
 | cons t r=>exact qK (show jD (p t) (qKp p r)=some ws from he)
theorem tailW_more{p:qQ->Ws}{ts:List qQ}{i:Nat}(h:i < ts.length)(h0:i≠0){ws:List (List UInt8)}(he:qWe p i ts=some ws):∃ a b,p ts[i]=some a/\qWe p (i+1) ts=some b/\ws=[[44]]++(a++b):=by
 unfold qWe at he ⊢;rw[if_neg h0,List.drop_eq_getElem_cons h]at he;obtain⟨x,y,h1,h2,rfl⟩:=qK (show jD (some [[44]]) (jD (p ts[i]) (qKp p (ts.drop (i+1))))=some ws from he);injection h1 with h1;subst h1;obtain⟨a,b,h3,h4,rfl⟩:=qK h2;exact⟨a,b,h3,by rw[if_neg (by omega)];exact h4,rfl⟩
def ComRel(lo B:Nat)(acc:List (List UInt8))(p:qQ->Ws)(ts:List qQ)(ws:List (List UInt8))(w:World)(i:Value)(wr:World):Prop :=
 ∃ (k:Nat) (pre post:List (List UInt8)),k<=ts.length/\i=.int .i64 k/\ws=pre++post/\qWe p k ts=some post/\WAt lo B (acc++pre) wr/\qZk B w wr
theorem qWO(f:Nat)(p:qQ->Ws)(hen:∀ (args:Array Value) (w:World),(callFunc f args).run prog w=.ok (.enter f args) w)(hp:kZ f (fun p n=>#[p,n]) p)(lo B:Nat)(acc:List (List UInt8))(ts:List qQ)(q:Option Addr)(c:Nat)(w:World)(ws:List (List UInt8))
 (hW:WAt lo B acc w) (hK:yD B w ts q) (hn:ts.length<=1000000) (hF:qZn ts) (he:wO p ts=some ws) (hlen:acc.length+ws.length<=1000000000) :
 Calls prog 114 #[.pointer (some ⟨B,0,none⟩), .slice q ts.length c, .func (.func f) #[.pointer (some ⟨B,0,none⟩)] #[]] w fun e w'=>e=.returned (.tuple #[])/\WAt lo B (acc++ws) w'/\qZk B w w':=by
 have HW:=hI hW;have HK:=hI hK;have HF:=hI hF;have HE:=hI he;have HP:=hI hp;have HLEN:=hI hlen;have hBw:=hW.lt;clear hW hK hF he hp hlen;go_enter func114,ntmps114
 go_wp2_with fail
 go_loopw [10] (fun i wr=>ComRel lo B acc p ts ws w i wr) (fun i _=>ts.length - (intOf i).toNat)
 case atStart=>exact⟨0,[],ws,Nat.zero_le _,rfl,rfl,HE.o,by simpa using HW.o,qZk.refl _ _⟩
 case round =>
  obtain⟨k,pre,post,hk,rfl,hws,hpost,hWr,hKr⟩:=hrel;have HWS:=hI hws;have HPO:=hI hpost;have HWR:=hI hWr;have HKR:=hI hKr;clear hws hpost hWr hKr;by_cases hlt:k < ts.length
  ·have hne:ts≠[]:=fun e=>by rw[e]at hlt;simp at hlt
   obtain⟨g,off,rfl,hR⟩:=(HK.o.keep HKR.o.below).resolve_left hne;obtain⟨qa,na,ca,hla,hca⟩:=hR.2 k hlt;have⟨k0,k1,k2,k3,k4,k5,_⟩:=hca.a;have HLA:=hI hla;have hneat:=hI (qZn.mem HF.o ts[k] (List.getElem_mem _));have T0:=hI (Hn.new ts[k] (.slice qa na ca) wr);have HW1:=hI (HWR.o.alloc (.cells (qS ts[k] (.slice qa na ca)).toArray 57));have HK1:=hI (HKR.o.alloc (Nat.le_of_lt hBw) (.cells (qS ts[k] (.slice qa na ca)).toArray 57));have hBr:=HWR.o.lt;have HLL:=hI (HLA.o.keep (((Below.refl _ _).alloc (Nat.le_refl _) (.cells (qS ts[k] (.slice qa na ca)).toArray 57)).mono (Nat.le_of_lt hBr)));clear hca hla hR hne HLA;by_cases hk0:k=0
   ·subst hk0;simp only[Nat.zero_mul,Nat.add_zero]at k0 k1 k2 k3 k4 k5;obtain⟨a,b,ha,hb,hpe⟩:=tailW_zero hlt HPO.o;have HC:=hI (HP.o lo B (acc++pre) ts[0] (.slice qa na ca) _ a HW1.o HLL.o hneat.o ha (by have:=HLEN.o;rw[HWS.o,hpe]at this;simp only[lL]at this ⊢;omega));have HA:=hI ha;have HB:=hI hb;have HPE:=hI hpe;clear ha hb hpe;generalize hu:ts[0]=u at *;simp only[qS,qZ]at *;go_wp2_with fail
    refine(HC.o).mono ?_;rintro e w2 ⟨rfl,hW2,hK2⟩;go_wp2
    go_roundw
    case rel=>exact⟨1,pre++a,b,by omega,by go_num,by rw[HWS.o,HPE.o,List.append_assoc],HB.o,by simpa[List.append_assoc]using hW2,HK1.o.trans hK2⟩
    case measure=>simp[intOf];omega
   ·obtain⟨a,b,ha,hb,hpe⟩:=tailW_more hlt hk0 HPO.o;have hk1:(0:Int) < (k:Int):=by omega
    have HA:=hI ha;have HB:=hI hb;have HPE:=hI hpe;have H:=hI (jZ (S:=wr.1.size+1) [[44]] HW1.o (by simp) (by simp) (by have:=HLEN.o;rw[HWS.o,hpe]at this;simp only[lL,lO,lZ]at this ⊢;omega));simp only[jT,List.map,List.length]at H;clear ha hb hpe;generalize hu:ts[k]=u at *;simp only[qS,qZ]at *;go_wp2_with fail
    refine(H.o).mono ?_;rintro e w2 ⟨rfl,hW2,hK2⟩;have T2:=hI (Hn.keep T0.o hK2 hBr);have HC:=hI (HP.o lo B (acc++pre++[[44]]) u (.slice qa na ca) w2 a hW2 (HLL.o.keep hK2.below) hneat.o HA.o (by have:=HLEN.o;rw[HWS.o,HPE.o]at this;simp only[lL,lO,lZ]at this ⊢;omega));obtain⟨c0,c1,c2,c3,c4,c5⟩:=T2.o.cells;have hl2:=T2.o.lt;have HK2:=hI (HK1.o.trans hK2);clear hW2 hK2 T0 T2 HW1 HK1 H k0 k1 k2 k3 k4 k5;unfold qZ at *;go_wp2_with fail
    refine(HC.o).mono ?_;rintro e w3 ⟨rfl,hW3,hK3⟩;go_wp2
    go_roundw
    case rel=>exact⟨k+1,pre++([[44]]++a),b,by omega,by go_num,by rw[HWS.o,HPE.o];simp only[List.append_assoc],HB.o,by simpa[List.append_assoc]using hW3,HK2.o.trans hK3⟩
    case measure=>simp[intOf];omega
  ·have hend:=tailW_end p ts hk hlt;go_wp2
   go_end0;have hp0:post=[]:=by have h:=HPO.o;rw[hend]at h;injection h with h;exact h.symm
   refine⟨rfl,?_,HKR.o⟩;rw[HWS.o,hp0,lA];exact HWR.o
theorem call_w(rec:WT->qQ->Ws)(hex:kZ 150 (fun p n=>#[p,n]) (rec .expr)):kZ 149 (fun p n=>#[p,n]) (qKY rec):=by
 intro lo B acc t v w ws hW hL hF he hlen;obtain⟨k,x,m,ln,co,ks⟩:=t;obtain⟨hFk,hFx,hFm0,hFm1,hFn,hFL⟩:=id hF;simp only[qKY,qY,qG,qC,qO,zB,zD,zX,qE,kIf,zS,qA,qV,qF,qD,qP,qW,qN,zW,zM,qL,qM,qT,zK,zL,qH,zA,qQ.kind,qQ.text,qQ.num,qQ.line,qQ.col,qQ.kids]at he;obtain⟨hb,he1⟩:=zN he;clear he;simp only[bE,beq_iff_eq]at hb;obtain⟨rfl,hnm⟩:=hb;obtain⟨ws1,wr1,hc1,hd1,hx1⟩:=qK he1;subst hx1;clear he1;injection hc1 with hc1;subst hc1;obtain⟨ws2,wr2,hc2,hd2,hx2⟩:=qK hd1;subst hx2;clear hd1;injection hd2 with hd2;subst hd2;obtain⟨q0,vc,hv,hvc,hvm,hka⟩:=hL.kids;have HKA:=hI hka;clear hka;simp only[qQ.kind,qQ.text,qQ.num,qQ.line,qQ.col,qQ.kids,List.length]at hv;subst hv;have S0:=hI (Sw.start hW hL);have HF:=hI hF;have HFL:=hI hFL;have HLEN:=hI hlen;have hBw:=hW.lt;have HFX:=hI hFx;have HFN:=hI hFn;clear hW hF hL hFL hlen hFk hFx hFn;try simp only[qZ,qS,qQ.kind,qQ.text,qQ.num,qQ.line,qQ.col,qQ.kids]at *
 have hmf:=zT;go_enter func149,ntmps149
 obtain⟨c0,c1,c2,c3,c4,c5⟩:=S0.o.cells;have hszN:=S0.o.lt;go_wp2_with fail
 try clear c0 c1 c2 c3 c4 c5
 try clear hszN
 have HQ:=qZg (t:=(.mk [99,97,108,108] x m ln co ks)) (v:=.slice q0 ks.length vc) (lo:=0) (hi:=9223372036854775807) _ S0.o.wr.tab HFX.o rfl hnm (by first | simp | omega | (have:=HFN.o;(try simp only[List.length]at this ⊢);omega)) (by first | simp | omega | (have:=HFN.o;(try simp only[List.length]at this ⊢);omega));simp only[qZ,qQ.kind,qQ.text,qQ.num,qQ.line,qQ.col,qQ.kids]at HQ;refine HQ.mono ?_;clear HQ;rintro e w3 ⟨rfl,hb3⟩;have S3:=hI (S0.o.below hb3);clear S0 hb3;obtain⟨c0,c1,c2,c3,c4,c5⟩:=S3.o.cells;have hszN:=S3.o.lt;go_wp2_with fail
 refine(jF _).mono ?_;rintro e w' ⟨rfl,rfl⟩;try clear c0 c1 c2 c3 c4 c5 hszN
 obtain⟨c0,c1,c2,c3,c4,c5⟩:=S3.o.cells;have hszN:=S3.o.lt;go_wp2_with fail
 try clear c0 c1 c2 c3 c4 c5
 try clear hszN
 have H:=jZ (S:=w3.1.size) [x,[40]] S3.o.wr (by simp) (by simp) (by have:=HLEN.o;(try simp only[lL,lO,lZ]at this ⊢);omega);simp only[jT,List.map,List.length]at H;refine H.mono ?_;clear H;rintro e w4 ⟨rfl,hW4,hK4⟩;have S4:=hI (S3.o.call hW4 hK4);clear S3 hW4 hK4;have HC:=hI (qWO 150 (rec .expr) (fun _ _=>rfl) hex lo B (acc++[x,[40]]) ks q0 vc _ ws2 S4.o.wr (HKA.o.keep S4.o.kp.below) (by first | (have:=HFN.o;simpa using this) | simp) HFL.o hc2 (by have:=HLEN.o;(try simp only[lL,lO,lZ]at this ⊢);omega));try simp only[List.length]at HC
 obtain⟨c0,c1,c2,c3,c4,c5⟩:=S4.o.cells;have hszN:=S4.o.lt;go_wp2_with fail
 try clear c0 c1 c2 c3 c4 c5
 try clear hszN
 refine(HC.o).mono ?_;rintro e w5 ⟨rfl,hW5,hK5⟩;have S5:=hI (S4.o.call hW5 hK5);clear S4 hW5 hK5 HC;obtain⟨c0,c1,c2,c3,c4,c5⟩:=S5.o.cells;have hszN:=S5.o.lt;go_wp2_with fail
 try clear c0 c1 c2 c3 c4 c5
 try clear hszN
 have H:=jZ (S:=w5.1.size) [[41]] S5.o.wr (by simp) (by simp) (by have:=HLEN.o;(try simp only[lL,lO,lZ]at this ⊢);omega);simp only[jT,List.map,List.length]at H;refine H.mono ?_;clear H;rintro e w6 ⟨rfl,hW6,hK6⟩;have S6:=hI (S5.o.call hW6 hK6);clear S5 hW6 hK6;go_wp2
 first | go_end0 | refine bodyPost_ret (v:=.tuple #[]) (by simp[results,results149,go_sem]) rfl ?_
 exact⟨rfl,by simpa[List.append_assoc,qY,qG,qC,qO,zB,zD,zX,qE,kIf,zS,qA,qV,qF,qD,qP,qW,qN,zW,zM,qL,qM,qT,zK,zL,qH,zA]using S6.o.wr,S6.o.kp⟩
theorem gift_w(rec:WT->qQ->Ws)(hex:kZ 150 (fun p n=>#[p,n]) (rec .expr)):kZ 151 (fun p n=>#[p,n]) (qPF rec):=by
 intro lo B acc t v w ws hW hL hF he hlen;obtain⟨k,x,m,ln,co,ks⟩:=t;obtain⟨hFk,hFx,hFm0,hFm1,hFn,hFL⟩:=id hF;simp only[qPF,qY,qG,qC,qO,zB,zD,zX,qE,kIf,zS,qA,qV,qF,qD,qP,qW,qN,zW,zM,qL,qM,qT,zK,zL,qH,zA,qQ.kind,qQ.text,qQ.num,qQ.line,qQ.col,qQ.kids]at he;obtain⟨hbare,he1⟩:=zN he;clear he;rcases ks with _ | ⟨a0,_ | ⟨a1,_ | ⟨b,r⟩⟩⟩
 ·simp at he1
 rotate_right
 ·simp at he1
 ·simp only at he1;obtain⟨hb,he2⟩:=zN he1;clear he1;obtain rfl:k=[110,111,110,100,101,116]:=by simpa using hb
  clear hb;obtain⟨ws1,wr1,hc1,hd1,hx1⟩:=qK he2;subst hx1;clear he2;injection hd1 with hd1;subst hd1;obtain⟨g0,vc,hv,hR⟩:=hL.row (by simp[qQ.kids]);have HR:=hI hR;clear hR;simp only[qQ.kind,qQ.text,qQ.num,qQ.line,qQ.col,qQ.kids,List.length]at hv;subst hv;have S0:=hI (Sw.start hW hL);have HF:=hI hF;have HFL:=hI hFL;have HLEN:=hI hlen;have hBw:=hW.lt;have HFX:=hI hFx;have HFN:=hI hFn;clear hW hF hL hFL hlen hFk hFx hFn;try simp only[qZ,qS,qQ.kind,qQ.text,qQ.num,qQ.line,qQ.col,qQ.kids]at *
  go_enter func151,ntmps151
  obtain⟨c0,c1,c2,c3,c4,c5⟩:=S0.o.cells;have hszN:=S0.o.lt;go_wp2_with fail
  try clear c0 c1 c2 c3 c4 c5
  try clear hszN
  have HQ:=wB (t:=(.mk [110,111,110,100,101,116] x m ln co [a0])) (v:=.slice (some ⟨g0,0,none⟩) 1 vc) (lo:=1) (hi:=1) _ S0.o.wr.tab rfl hbare (by first | simp | omega | (have:=HFN.o;(try simp only[List.length]at this ⊢);omega)) (by first | simp | omega | (have:=HFN.o;(try simp only[List.length]at this ⊢);omega));simp only[qZ,qQ.kind,qQ.text,qQ.num,qQ.line,qQ.col,qQ.kids]at HQ;refine HQ.mono ?_;clear HQ;rintro e w2 ⟨rfl,hb2⟩;have S2:=hI (S0.o.below hb2);clear S0 hb2;obtain⟨c0,c1,c2,c3,c4,c5⟩:=S2.o.cells;have hszN:=S2.o.lt;go_wp2_with fail
  refine(jF _).mono ?_;rintro e w' ⟨rfl,rfl⟩;try clear c0 c1 c2 c3 c4 c5 hszN
  obtain⟨qa,na,ca,hla,hca⟩:=(HR.o.keep S2.o.kp.below).2 0 (by simp);simp only[Nat.zero_add,Nat.zero_mul,Nat.one_mul,Nat.reduceAdd,Nat.reduceMul,List.getElem_cons_zero,List.getElem_cons_succ]at hla hca;have⟨k0,k1,k2,k3,k4,k5,_⟩:=hca.a;simp only[Nat.zero_add,Nat.zero_mul,Nat.one_mul,Nat.reduceAdd,Nat.reduceMul,List.getElem_cons_zero,List.getElem_cons_succ]at k0 k1 k2 k3 k4 k5;have HC:=hI ((qVn rec hex) lo B acc a0 (.slice qa na ca) _ ws1 S2.o.wr hla (HFL.o.mem _ (by simp)) hc1 (by have:=HLEN.o;(try simp only[lL,lO,lZ]at this ⊢);omega));clear hca hla;try simp only[qZ]at HC
  obtain⟨c0,c1,c2,c3,c4,c5⟩:=S2.o.cells;have hszN:=S2.o.lt;go_wp2_with fail
  try clear c0 c1 c2 c3 c4 c5
  try clear hszN
  try clear k0 k1 k2 k3 k4 k5
  refine(HC.o).mono ?_;rintro e w3 ⟨rfl,hW3,hK3⟩;have S3:=hI (S2.o.call hW3 hK3);clear S2 hW3 hK3 HC;obtain⟨c0,c1,c2,c3,c4,c5⟩:=S3.o.cells;have hszN:=S3.o.lt;go_wp2_with fail
  try clear c0 c1 c2 c3 c4 c5
  try clear hszN
  have H:=jZ (S:=w3.1.size) [[61]] S3.o.wr (by simp) (by simp) (by have:=HLEN.o;(try simp only[lL,lO,lZ]at this ⊢);omega);simp only[jT,List.map,List.length]at H;refine H.mono ?_;clear H;rintro e w4 ⟨rfl,hW4,hK4⟩;have S4:=hI (S3.o.call hW4 hK4);clear S3 hW4 hK4;obtain⟨c0,c1,c2,c3,c4,c5⟩:=S4.o.cells;have hszN:=S4.o.lt;go_wp2_with fail
  try clear c0 c1 c2 c3 c4 c5
  try clear hszN
  have H:=jZ (S:=w4.1.size) [[110,111,110,100,101,116],[40],[41]] S4.o.wr (by simp) (by simp) (by have:=HLEN.o;(try simp only[lL,lO,lZ]at this ⊢);omega);simp only[jT,List.map,List.length]at H;refine H.mono ?_;clear H;rintro e w5 ⟨rfl,hW5,hK5⟩;have S5:=hI (S4.o.call hW5 hK5);clear S4 hW5 hK5;go_wp2
  first | go_end0 | refine bodyPost_ret (v:=.tuple #[]) (by simp[results,results151,go_sem]) rfl ?_
  exact⟨rfl,by simpa[List.append_assoc,qY,qG,qC,qO,zB,zD,zX,qE,kIf,zS,qA,qV,qF,qD,qP,qW,qN,zW,zM,qL,qM,qT,zK,zL,qH,zA]using S5.o.wr,S5.o.kp⟩
 ·simp only at he1;have he:=he1;clear he1;cases hq1:(k == [97,115,115,105,103,110]);case true =>
   simp only[hq1,bU,bV,bT,if_true,reduceIte]at he;obtain rfl:k=[97,115,115,105,103,110]:=by simpa using hq1
   clear hq1;obtain⟨ws1,wr1,hc1,hd1,hx1⟩:=qK he;subst hx1;clear he;obtain⟨ws2,wr2,hc2,hd2,hx2⟩:=qK hd1;subst hx2;clear hd1;injection hc2 with hc2;subst hc2;obtain⟨g0,vc,hv,hR⟩:=hL.row (by simp[qQ.kids]);have HR:=hI hR;clear hR;simp only[qQ.kind,qQ.text,qQ.num,qQ.line,qQ.col,qQ.kids,List.length]at hv;subst hv;have S0:=hI (Sw.start hW hL);have HF:=hI hF;have HFL:=hI hFL;have HLEN:=hI hlen;have hBw:=hW.lt;have HFX:=hI hFx;have HFN:=hI hFn;clear hW hF hL hFL hlen hFk hFx hFn;try simp only[qZ,qS,qQ.kind,qQ.text,qQ.num,qQ.line,qQ.col,qQ.kids]at *
   go_enter func151,ntmps151
   obtain⟨c0,c1,c2,c3,c4,c5⟩:=S0.o.cells;have hszN:=S0.o.lt;go_wp2_with fail
   try clear c0 c1 c2 c3 c4 c5
   try clear hszN
   have HQ:=wB (t:=(.mk [97,115,115,105,103,110] x m ln co [a0,a1])) (v:=.slice (some ⟨g0,0,none⟩) 2 vc) (lo:=2) (hi:=2) _ S0.o.wr.tab rfl hbare (by first | simp | omega | (have:=HFN.o;(try simp only[List.length]at this ⊢);omega)) (by first | simp | omega | (have:=HFN.o;(try simp only[List.length]at this ⊢);omega));simp only[qZ,qQ.kind,qQ.text,qQ.num,qQ.line,qQ.col,qQ.kids]at HQ;refine HQ.mono ?_;clear HQ;rintro e w3 ⟨rfl,hb3⟩;have S3:=hI (S0.o.below hb3);clear S0 hb3;obtain⟨c0,c1,c2,c3,c4,c5⟩:=S3.o.cells;have hszN:=S3.o.lt;go_wp2_with fail
   refine(jF _).mono ?_;rintro e w' ⟨rfl,rfl⟩;try clear c0 c1 c2 c3 c4 c5 hszN
   obtain⟨qa,na,ca,hla,hca⟩:=(HR.o.keep S3.o.kp.below).2 0 (by simp);simp only[Nat.zero_add,Nat.zero_mul,Nat.one_mul,Nat.reduceAdd,Nat.reduceMul,List.getElem_cons_zero,List.getElem_cons_succ]at hla hca;have⟨k0,k1,k2,k3,k4,k5,_⟩:=hca.a;simp only[Nat.zero_add,Nat.zero_mul,Nat.one_mul,Nat.reduceAdd,Nat.reduceMul,List.getElem_cons_zero,List.getElem_cons_succ]at k0 k1 k2 k3 k4 k5;have HC:=hI ((qVn rec hex) lo B acc a0 (.slice qa na ca) _ ws1 S3.o.wr hla (HFL.o.mem _ (by simp)) hc1 (by have:=HLEN.o;(try simp only[lL,lO,lZ]at this ⊢);omega));clear hca hla;try simp only[qZ]at HC
   obtain⟨c0,c1,c2,c3,c4,c5⟩:=S3.o.cells;have hszN:=S3.o.lt;go_wp2_with fail
   try clear c0 c1 c2 c3 c4 c5
   try clear hszN
   try clear k0 k1 k2 k3 k4 k5
   refine(HC.o).mono ?_;rintro e w4 ⟨rfl,hW4,hK4⟩;have S4:=hI (S3.o.call hW4 hK4);clear S3 hW4 hK4 HC;obtain⟨c0,c1,c2,c3,c4,c5⟩:=S4.o.cells;have hszN:=S4.o.lt;go_wp2_with fail
   try clear c0 c1 c2 c3 c4 c5
   try clear hszN
   have H:=jZ (S:=w4.1.size) [[61]] S4.o.wr (by simp) (by simp) (by have:=HLEN.o;(try simp only[lL,lO,lZ]at this ⊢);omega);simp only[jT,List.map,List.length]at H;refine H.mono ?_;clear H;rintro e w5 ⟨rfl,hW5,hK5⟩;have S5:=hI (S4.o.call hW5 hK5);clear S4 hW5 hK5;obtain⟨qa,na,ca,hla,hca⟩:=(HR.o.keep S5.o.kp.below).2 1 (by simp);simp only[Nat.zero_add,Nat.zero_mul,Nat.one_mul,Nat.reduceAdd,Nat.reduceMul,List.getElem_cons_zero,List.getElem_cons_succ]at hla hca;have⟨k0,k1,k2,k3,k4,k5,_⟩:=hca.a;simp only[Nat.zero_add,Nat.zero_mul,Nat.one_mul,Nat.reduceAdd,Nat.reduceMul,List.getElem_cons_zero,List.getElem_cons_succ]at k0 k1 k2 k3 k4 k5;have HC:=hI (hex lo B ((acc++ws1)++[[61]]) a1 (.slice qa na ca) _ wr2 S5.o.wr hla (HFL.o.mem _ (by simp)) hd2 (by have:=HLEN.o;(try simp only[lL,lO,lZ]at this ⊢);omega));clear hca hla;try simp only[qZ]at HC
   obtain⟨c0,c1,c2,c3,c4,c5⟩:=S5.o.cells;have hszN:=S5.o.lt;go_wp2_with fail
   try clear c0 c1 c2 c3 c4 c5
   try clear hszN
   try clear k0 k1 k2 k3 k4 k5
   refine(HC.o).mono ?_;rintro e w6 ⟨rfl,hW6,hK6⟩;have S6:=hI (S5.o.call hW6 hK6);clear S5 hW6 hK6 HC;go_wp2
   first | go_end0 | refine bodyPost_ret (v:=.tuple #[]) (by simp[results,results151,go_sem]) rfl ?_
   exact⟨rfl,by simpa[List.append_assoc,qY,qG,qC,qO,zB,zD,zX,qE,kIf,zS,qA,qV,qF,qD,qP,qW,qN,zW,zM,qL,qM,qT,zK,zL,qH,zA]using S6.o.wr,S6.o.kp⟩
  case false =>
  simp only[hq1,bO,bP,bF,if_false,reduceIte]at he;obtain⟨hb,he2⟩:=zN he;clear he;obtain rfl:k=[114,101,115,117,108,116]:=by simpa using hb
  clear hb hq1;obtain⟨ws1,wr1,hc1,hd1,hx1⟩:=qK he2;subst hx1;clear he2;obtain⟨ws2,wr2,hc2,hd2,hx2⟩:=qK hd1;subst hx2;clear hd1;injection hc2 with hc2;subst hc2;obtain⟨g0,vc,hv,hR⟩:=hL.row (by simp[qQ.kids]);have HR:=hI hR;clear hR;simp only[qQ.kind,qQ.text,qQ.num,qQ.line,qQ.col,qQ.kids,List.length]at hv;subst hv;have S0:=hI (Sw.start hW hL);have HF:=hI hF;have HFL:=hI hFL;have HLEN:=hI hlen;have hBw:=hW.lt;have HFX:=hI hFx;have HFN:=hI hFn;clear hW hF hL hFL hlen hFk hFx hFn;try simp only[qZ,qS,qQ.kind,qQ.text,qQ.num,qQ.line,qQ.col,qQ.kids]at *
  go_enter func151,ntmps151
  obtain⟨c0,c1,c2,c3,c4,c5⟩:=S0.o.cells;have hszN:=S0.o.lt;go_wp2_with fail
  try clear c0 c1 c2 c3 c4 c5
  try clear hszN
  have HQ:=wB (t:=(.mk [114,101,115,117,108,116] x m ln co [a0,a1])) (v:=.slice (some ⟨g0,0,none⟩) 2 vc) (lo:=2) (hi:=2) _ S0.o.wr.tab rfl hbare (by first | simp | omega | (have:=HFN.o;(try simp only[List.length]at this ⊢);omega)) (by first | simp | omega | (have:=HFN.o;(try simp only[List.length]at this ⊢);omega));simp only[qZ,qQ.kind,qQ.text,qQ.num,qQ.line,qQ.col,qQ.kids]at HQ;refine HQ.mono ?_;clear HQ;rintro e w3 ⟨rfl,hb3⟩;have S3:=hI (S0.o.below hb3);clear S0 hb3;obtain⟨c0,c1,c2,c3,c4,c5⟩:=S3.o.cells;have hszN:=S3.o.lt;go_wp2_with fail
  refine(jF _).mono ?_;rintro e w' ⟨rfl,rfl⟩;try clear c0 c1 c2 c3 c4 c5 hszN
  obtain⟨qa,na,ca,hla,hca⟩:=(HR.o.keep S3.o.kp.below).2 0 (by simp);simp only[Nat.zero_add,Nat.zero_mul,Nat.one_mul,Nat.reduceAdd,Nat.reduceMul,List.getElem_cons_zero,List.getElem_cons_succ]at hla hca;have⟨k0,k1,k2,k3,k4,k5,_⟩:=hca.a;simp only[Nat.zero_add,Nat.zero_mul,Nat.one_mul,Nat.reduceAdd,Nat.reduceMul,List.getElem_cons_zero,List.getElem_cons_succ]at k0 k1 k2 k3 k4 k5;have HC:=hI ((qVn rec hex) lo B acc a0 (.slice qa na ca) _ ws1 S3.o.wr hla (HFL.o.mem _ (by simp)) hc1 (by have:=HLEN.o;(try simp only[lL,lO,lZ]at this ⊢);omega));clear hca hla;try simp only[qZ]at HC
  obtain⟨c0,c1,c2,c3,c4,c5⟩:=S3.o.cells;have hszN:=S3.o.lt;go_wp2_with fail
  try clear c0 c1 c2 c3 c4 c5
  try clear hszN
  try clear k0 k1 k2 k3 k4 k5
  refine(HC.o).mono ?_;rintro e w4 ⟨rfl,hW4,hK4⟩;have S4:=hI (S3.o.call hW4 hK4);clear S3 hW4 hK4 HC;obtain⟨c0,c1,c2,c3,c4,c5⟩:=S4.o.cells;have hszN:=S4.o.lt;go_wp2_with fail
  try clear c0 c1 c2 c3 c4 c5
  try clear hszN
  have H:=jZ (S:=w4.1.size) [[61]] S4.o.wr (by simp) (by simp) (by have:=HLEN.o;(try simp only[lL,lO,lZ]at this ⊢);omega);simp only[jT,List.map,List.length]at H;refine H.mono ?_;clear H;rintro e w5 ⟨rfl,hW5,hK5⟩;have S5:=hI (S4.o.call hW5 hK5);clear S4 hW5 hK5;obtain⟨qa,na,ca,hla,hca⟩:=(HR.o.keep S5.o.kp.below).2 1 (by simp);simp only[Nat.zero_add,Nat.zero_mul,Nat.one_mul,Nat.reduceAdd,Nat.reduceMul,List.getElem_cons_zero,List.getElem_cons_succ]at hla hca;have⟨k0,k1,k2,k3,k4,k5,_⟩:=hca.a;simp only[Nat.zero_add,Nat.zero_mul,Nat.one_mul,Nat.reduceAdd,Nat.reduceMul,List.getElem_cons_zero,List.getElem_cons_succ]at k0 k1 k2 k3 k4 k5;have HC:=hI ((call_w rec hex) lo B ((acc++ws1)++[[61]]) a1 (.slice qa na ca) _ wr2 S5.o.wr hla (HFL.o.mem _ (by simp)) hd2 (by have:=HLEN.o;(try simp only[lL,lO,lZ]at this ⊢);omega));clear hca hla;try simp only[qZ]at HC
  obtain⟨c0,c1,c2,c3,c4,c5⟩:=S5.o.cells;have hszN:=S5.o.lt;go_wp2_with fail
  try clear c0 c1 c2 c3 c4 c5
  try clear hszN
  try clear k0 k1 k2 k3 k4 k5
  refine(HC.o).mono ?_;rintro e w6 ⟨rfl,hW6,hK6⟩;have S6:=hI (S5.o.call hW6 hK6);clear S5 hW6 hK6 HC;go_wp2
  first | go_end0 | refine bodyPost_ret (v:=.tuple #[]) (by simp[results,results151,go_sem]) rfl ?_
  exact⟨rfl,by simpa[List.append_assoc,qY,qG,qC,qO,zB,zD,zX,qE,kIf,zS,qA,qV,qF,qD,qP,qW,qN,zW,zM,qL,qM,qT,zK,zL,qH,zA]using S6.o.wr,S6.o.kp⟩
theorem qLd(rec:WT->qQ->Ws)(hex:kZ 150 (fun p n=>#[p,n]) (rec .expr))(hbl:kZ 116 (fun p n=>#[p,n]) (rec .block)):kZ 129 (fun p n=>#[p,n]) (qJr rec):=by
 intro lo B acc t v w ws hW hL hF he hlen;obtain⟨k,x,m,ln,co,ks⟩:=t;obtain⟨hFk,hFx,hFm0,hFm1,hFn,hFL⟩:=id hF;unfold qJr qQn at he;simp only[qY,qG,qC,qO,zB,zD,zX,qE,kIf,zS,qA,qV,qF,qD,qP,qW,qN,zW,zM,qL,qM,qT,zK,zL,qH,zA,qQ.kind,qQ.text,qQ.num,qQ.line,qQ.col,qQ.kids]at he;cases hq0:(k == [105,102]);case true =>
  simp only[hq0,bU,bV,bT,if_true,reduceIte]at he;obtain rfl:k=[105,102]:=by simpa using hq0
  clear hq0;obtain⟨q0,vc,hv,hvc,hvm⟩:=hL.shape;simp only[qQ.kind,qQ.text,qQ.num,qQ.line,qQ.col,qQ.kids,List.length]at hv;subst hv;have S0:=hI (Sw.start hW hL);have HF:=hI hF;have HFL:=hI hFL;have HLEN:=hI hlen;have hBw:=hW.lt;have HFX:=hI hFx;have HFN:=hI hFn;clear hW hF hL hFL hlen hFk hFx hFn;try simp only[qZ,qS,qQ.kind,qQ.text,qQ.num,qQ.line,qQ.col,qQ.kids]at *
  go_enter func129,ntmps129
  have HC:=hI ((choice_w rec hex hbl) lo B acc (.mk [105,102] x m ln co ks) _ _ ws S0.o.wr S0.o.li HF.o he (by have:=HLEN.o;(try simp only[lL,lO,lZ]at this ⊢);omega));try simp only[qZ,qQ.kind,qQ.text,qQ.num,qQ.line,qQ.col,qQ.kids]at HC
  obtain⟨c0,c1,c2,c3,c4,c5⟩:=S0.o.cells;have hszN:=S0.o.lt;go_wp2_with fail
  try clear c0 c1 c2 c3 c4 c5
  try clear hszN
  refine(HC.o).mono ?_;rintro e w1 ⟨rfl,hW1,hK1⟩;have S1:=hI (S0.o.call hW1 hK1);clear S0 hW1 hK1 HC;go_wp2
  first | go_end0 | refine bodyPost_ret (v:=.tuple #[]) (by simp[results,results129,go_sem]) rfl ?_
  exact⟨rfl,by simpa[List.append_assoc,qY,qG,qC,qO,zB,zD,zX,qE,kIf,zS,qA,qV,qF,qD,qP,qW,qN,zW,zM,qL,qM,qT,zK,zL,qH,zA]using S1.o.wr,S1.o.kp⟩
 case false =>
 simp only[hq0,bO,bP,bF,if_false,reduceIte]at he;cases hq1:(k == [119,104,105,108,101]);case true =>
  simp only[hq1,bU,bV,bT,if_true,reduceIte]at he;obtain rfl:k=[119,104,105,108,101]:=by simpa using hq1
  clear hq1;obtain⟨hb,he1⟩:=zN he;clear he;simp only[bE,decide_eq_true_eq]at hb;obtain⟨hbare,hl⟩:=hb;simp only[beq_iff_eq]at hl;obtain⟨a0,a1,rfl⟩:∃ a b,ks=[a,b]:=⟨_,_,List.eq_getElem_of_length_eq_two ks hl⟩;clear hl;obtain⟨g0,vc,hv,hR⟩:=hL.row (by simp[qQ.kids]);have HR:=hI hR;clear hR;simp only[qQ.kind,qQ.text,qQ.num,qQ.line,qQ.col,qQ.kids,List.length]at hv;subst hv;have S0:=hI (Sw.start hW hL);have HF:=hI hF;have HFL:=hI hFL;have HLEN:=hI hlen;have hBw:=hW.lt;have HFX:=hI hFx;have HFN:=hI hFn;clear hW hF hL hFL hlen hFk hFx hFn;try simp only[qZ,qS,qQ.kind,qQ.text,qQ.num,qQ.line,qQ.col,qQ.kids]at *
  go_enter func129,ntmps129
  obtain⟨c0,c1,c2,c3,c4,c5⟩:=S0.o.cells;have hszN:=S0.o.lt;go_wp2_with fail
  try clear c0 c1 c2 c3 c4 c5
  try clear hszN
  have HQ:=wB (t:=(.mk [119,104,105,108,101] x m ln co [a0,a1])) (v:=.slice (some ⟨g0,0,none⟩) 2 vc) (lo:=2) (hi:=2) _ S0.o.wr.tab rfl hbare (by first | simp | omega | (have:=HFN.o;(try simp only[List.length]at this ⊢);omega)) (by first | simp | omega | (have:=HFN.o;(try simp only[List.length]at this ⊢);omega));simp only[qZ,qQ.kind,qQ.text,qQ.num,qQ.line,qQ.col,qQ.kids]at HQ;refine HQ.mono ?_;clear HQ;rintro e w1 ⟨rfl,hb1⟩;have S1:=hI (S0.o.below hb1);clear S0 hb1;obtain⟨c0,c1,c2,c3,c4,c5⟩:=S1.o.cells;have hszN:=S1.o.lt;go_wp2_with fail
  refine(jF _).mono ?_;rintro e w' ⟨rfl,rfl⟩;try clear c0 c1 c2 c3 c4 c5 hszN
  have HC:=hI ((qVD rec hex hbl) lo B acc (.mk [119,104,105,108,101] x m ln co [a0,a1]) _ _ ws S1.o.wr S1.o.li HF.o he1 (by have:=HLEN.o;(try simp only[lL,lO,lZ]at this ⊢);omega));try simp only[qZ,qQ.kind,qQ.text,qQ.num,qQ.line,qQ.col,qQ.kids]at HC
  obtain⟨c0,c1,c2,c3,c4,c5⟩:=S1.o.cells;have hszN:=S1.o.lt;go_wp2_with fail
  try clear c0 c1 c2 c3 c4 c5
  try clear hszN
  refine(HC.o).mono ?_;rintro e w2 ⟨rfl,hW2,hK2⟩;have S2:=hI (S1.o.call hW2 hK2);clear S1 hW2 hK2 HC;go_wp2
  first | go_end0 | refine bodyPost_ret (v:=.tuple #[]) (by simp[results,results129,go_sem]) rfl ?_
  exact⟨rfl,by simpa[List.append_assoc,qY,qG,qC,qO,zB,zD,zX,qE,kIf,zS,qA,qV,qF,qD,qP,qW,qN,zW,zM,qL,qM,qT,zK,zL,qH,zA]using S2.o.wr,S2.o.kp⟩
 case false =>
 simp only[hq1,bO,bP,bF,if_false,reduceIte]at he;cases hq2:(k == [108,111,99,97,108]);case true =>
  simp only[hq2,bU,bV,bT,if_true,reduceIte]at he;obtain rfl:k=[108,111,99,97,108]:=by simpa using hq2
  clear hq2;obtain⟨hb,he1⟩:=zN he;clear he;simp only[bE,decide_eq_true_eq]at hb;obtain⟨hnm,hl⟩:=hb;simp only[beq_iff_eq]at hl;obtain⟨a0,rfl⟩:=List.length_eq_one_iff.1 hl;clear hl;obtain⟨ws1,wr1,hc1,hd1,hx1⟩:=qK he1;subst hx1;clear he1;injection hd1 with hd1;subst hd1;obtain⟨g0,vc,hv,hR⟩:=hL.row (by simp[qQ.kids]);have HR:=hI hR;clear hR;simp only[qQ.kind,qQ.text,qQ.num,qQ.line,qQ.col,qQ.kids,List.length]at hv;subst hv;have S0:=hI (Sw.start hW hL);have HF:=hI hF;have HFL:=hI hFL;have HLEN:=hI hlen;have hBw:=hW.lt;have HFX:=hI hFx;have HFN:=hI hFn;clear hW hF hL hFL hlen hFk hFx hFn;try simp only[qZ,qS,qQ.kind,qQ.text,qQ.num,qQ.line,qQ.col,qQ.kids]at *
  go_enter func129,ntmps129
  obtain⟨c0,c1,c2,c3,c4,c5⟩:=S0.o.cells;have hszN:=S0.o.lt;go_wp2_with fail
  try clear c0 c1 c2 c3 c4 c5
  try clear hszN
  have HQ:=qZg (t:=(.mk [108,111,99,97,108] x m ln co [a0])) (v:=.slice (some ⟨g0,0,none⟩) 1 vc) (lo:=1) (hi:=1) _ S0.o.wr.tab HFX.o rfl hnm (by first | simp | omega | (have:=HFN.o;(try simp only[List.length]at this ⊢);omega)) (by first | simp | omega | (have:=HFN.o;(try simp only[List.length]at this ⊢);omega));simp only[qZ,qQ.kind,qQ.text,qQ.num,qQ.line,qQ.col,qQ.kids]at HQ;refine HQ.mono ?_;clear HQ;rintro e w2 ⟨rfl,hb2⟩;have S2:=hI (S0.o.below hb2);clear S0 hb2;obtain⟨c0,c1,c2,c3,c4,c5⟩:=S2.o.cells;have hszN:=S2.o.lt;go_wp2_with fail
  refine(jF _).mono ?_;rintro e w' ⟨rfl,rfl⟩;try clear c0 c1 c2 c3 c4 c5 hszN
  have HC:=hI ((qXn false) lo B acc (.mk [108,111,99,97,108] x m ln co [a0]) _ _ ws1 S2.o.wr S2.o.li HF.o hc1 (by have:=HLEN.o;(try simp only[lL,lO,lZ]at this ⊢);omega));try simp only[qZ,qQ.kind,qQ.text,qQ.num,qQ.line,qQ.col,qQ.kids]at HC
  obtain⟨c0,c1,c2,c3,c4,c5⟩:=S2.o.cells;have hszN:=S2.o.lt;go_wp2_with fail
  try clear c0 c1 c2 c3 c4 c5
  try clear hszN
  refine(HC.o).mono ?_;rintro e w3 ⟨rfl,hW3,hK3⟩;have S3:=hI (S2.o.call hW3 hK3);clear S2 hW3 hK3 HC;obtain⟨c0,c1,c2,c3,c4,c5⟩:=S3.o.cells;have hszN:=S3.o.lt;go_wp2_with fail
  try clear c0 c1 c2 c3 c4 c5
  try clear hszN
  have H:=jZ (S:=w3.1.size) [[59]] S3.o.wr (by simp) (by simp) (by have:=HLEN.o;(try simp only[lL,lO,lZ]at this ⊢);omega);simp only[jT,List.map,List.length]at H;refine H.mono ?_;clear H;rintro e w4 ⟨rfl,hW4,hK4⟩;have S4:=hI (S3.o.call hW4 hK4);clear S3 hW4 hK4;go_wp2
  first | go_end0 | refine bodyPost_ret (v:=.tuple #[]) (by simp[results,results129,go_sem]) rfl ?_
  exact⟨rfl,by simpa[List.append_assoc,qY,qG,qC,qO,zB,zD,zX,qE,kIf,zS,qA,qV,qF,qD,qP,qW,qN,zW,zM,qL,qM,qT,zK,zL,qH,zA]using S4.o.wr,S4.o.kp⟩
 case false =>
 simp only[hq2,bO,bP,bF,if_false,reduceIte]at he;cases hq3:(k == [99,97,108,108]);case true =>
  simp only[hq3,bU,bV,bT,if_true,reduceIte]at he;obtain rfl:k=[99,97,108,108]:=by simpa using hq3
  clear hq3;obtain⟨ws1,wr1,hc1,hd1,hx1⟩:=qK he;subst hx1;clear he;injection hd1 with hd1;subst hd1;obtain⟨q0,vc,hv,hvc,hvm⟩:=hL.shape;simp only[qQ.kind,qQ.text,qQ.num,qQ.line,qQ.col,qQ.kids,List.length]at hv;subst hv;have S0:=hI (Sw.start hW hL);have HF:=hI hF;have HFL:=hI hFL;have HLEN:=hI hlen;have hBw:=hW.lt;have HFX:=hI hFx;have HFN:=hI hFn;clear hW hF hL hFL hlen hFk hFx hFn;try simp only[qZ,qS,qQ.kind,qQ.text,qQ.num,qQ.line,qQ.col,qQ.kids]at *
  go_enter func129,ntmps129
  have HC:=hI ((call_w rec hex) lo B acc (.mk [99,97,108,108] x m ln co ks) _ _ ws1 S0.o.wr S0.o.li HF.o hc1 (by have:=HLEN.o;(try simp only[lL,lO,lZ]at this ⊢);omega));try simp only[qZ,qQ.kind,qQ.text,qQ.num,qQ.line,qQ.col,qQ.kids]at HC
  obtain⟨c0,c1,c2,c3,c4,c5⟩:=S0.o.cells;have hszN:=S0.o.lt;go_wp2_with fail
  try clear c0 c1 c2 c3 c4 c5
  try clear hszN
  refine(HC.o).mono ?_;rintro e w2 ⟨rfl,hW2,hK2⟩;have S2:=hI (S0.o.call hW2 hK2);clear S0 hW2 hK2 HC;obtain⟨c0,c1,c2,c3,c4,c5⟩:=S2.o.cells;have hszN:=S2.o.lt;go_wp2_with fail
  try clear c0 c1 c2 c3 c4 c5
  try clear hszN
  have H:=jZ (S:=w2.1.size) [[59]] S2.o.wr (by simp) (by simp) (by have:=HLEN.o;(try simp only[lL,lO,lZ]at this ⊢);omega);simp only[jT,List.map,List.length]at H;refine H.mono ?_;clear H;rintro e w3 ⟨rfl,hW3,hK3⟩;have S3:=hI (S2.o.call hW3 hK3);clear S2 hW3 hK3;go_wp2
  first | go_end0 | refine bodyPost_ret (v:=.tuple #[]) (by simp[results,results129,go_sem]) rfl ?_
  exact⟨rfl,by simpa[List.append_assoc,qY,qG,qC,qO,zB,zD,zX,qE,kIf,zS,qA,qV,qF,qD,qP,qW,qN,zW,zM,qL,qM,qT,zK,zL,qH,zA]using S3.o.wr,S3.o.kp⟩
 case false =>
 simp only[hq3,bO,bP,bF,if_false,reduceIte]at he;cases hq4:(k == [114,101,116,117,114,110]);case true =>
  simp only[hq4,bU,bV,bT,if_true,reduceIte]at he;obtain rfl:k=[114,101,116,117,114,110]:=by simpa using hq4
  clear hq4;obtain⟨hb,he1⟩:=zN he;clear he;simp only[bE,decide_eq_true_eq]at hb;obtain⟨hbare,hl⟩:=hb;have hl1:ks.length<=1:=of_decide_eq_true hl;obtain⟨wsA,wrA,hA,hS,hxA⟩:=qK he1;subst hxA;clear he1;injection hS with hS;subst hS;obtain⟨ws1,wr1,hc1,hd1,hx1⟩:=qK hA;subst hx1;clear hA;injection hc1 with hc1;subst hc1;obtain⟨q0,vc,hv,hvc,hvm,hka⟩:=hL.kids;have HKA:=hI hka;clear hka;simp only[qQ.kind,qQ.text,qQ.num,qQ.line,qQ.col,qQ.kids,List.length]at hv;subst hv;have S0:=hI (Sw.start hW hL);have HF:=hI hF;have HFL:=hI hFL;have HLEN:=hI hlen;have hBw:=hW.lt;have HFX:=hI hFx;have HFN:=hI hFn;clear hW hF hL hFL hlen hFk hFx hFn;try simp only[qZ,qS,qQ.kind,qQ.text,qQ.num,qQ.line,qQ.col,qQ.kids]at *
  have hmf:=zT;go_enter func129,ntmps129
  obtain⟨c0,c1,c2,c3,c4,c5⟩:=S0.o.cells;have hszN:=S0.o.lt;go_wp2_with fail
  try clear c0 c1 c2 c3 c4 c5
  try clear hszN
  have HQ:=wB (t:=(.mk [114,101,116,117,114,110] x m ln co ks)) (v:=.slice q0 ks.length vc) (lo:=0) (hi:=1) _ S0.o.wr.tab rfl hbare (by first | simp | omega | (have:=HFN.o;(try simp only[List.length]at this ⊢);omega)) (by first | simp | omega | (have:=HFN.o;(try simp only[List.length]at this ⊢);omega));simp only[qZ,qQ.kind,qQ.text,qQ.num,qQ.line,qQ.col,qQ.kids]at HQ;refine HQ.mono ?_;clear HQ;rintro e w2 ⟨rfl,hb2⟩;have S2:=hI (S0.o.below hb2);clear S0 hb2;obtain⟨c0,c1,c2,c3,c4,c5⟩:=S2.o.cells;have hszN:=S2.o.lt;go_wp2_with fail
  refine(jF _).mono ?_;rintro e w' ⟨rfl,rfl⟩;try clear c0 c1 c2 c3 c4 c5 hszN
  obtain⟨c0,c1,c2,c3,c4,c5⟩:=S2.o.cells;have hszN:=S2.o.lt;go_wp2_with fail
  try clear c0 c1 c2 c3 c4 c5
  try clear hszN
  have H:=jZ (S:=w2.1.size) [[114,101,116,117,114,110]] S2.o.wr (by simp) (by simp) (by have:=HLEN.o;(try simp only[lL,lO,lZ]at this ⊢);omega);simp only[jT,List.map,List.length]at H;refine H.mono ?_;clear H;rintro e w3 ⟨rfl,hW3,hK3⟩;have S3:=hI (S2.o.call hW3 hK3);clear S2 hW3 hK3;have HC:=hI (qWO 150 (rec .expr) (fun _ _=>rfl) hex lo B (acc++[[114,101,116,117,114,110]]) ks q0 vc _ wr1 S3.o.wr (HKA.o.keep S3.o.kp.below) (by first | (have:=HFN.o;simpa using this) | simp) HFL.o hd1 (by have:=HLEN.o;(try simp only[lL,lO,lZ]at this ⊢);omega));try simp only[List.length]at HC
  obtain⟨c0,c1,c2,c3,c4,c5⟩:=S3.o.cells;have hszN:=S3.o.lt;go_wp2_with fail
  try clear c0 c1 c2 c3 c4 c5
  try clear hszN
  refine(HC.o).mono ?_;rintro e w4 ⟨rfl,hW4,hK4⟩;have S4:=hI (S3.o.call hW4 hK4);clear S3 hW4 hK4 HC;obtain⟨c0,c1,c2,c3,c4,c5⟩:=S4.o.cells;have hszN:=S4.o.lt;go_wp2_with fail
  try clear c0 c1 c2 c3 c4 c5
  try clear hszN
  have H:=jZ (S:=w4.1.size) [[59]] S4.o.wr (by simp) (by simp) (by have:=HLEN.o;(try simp only[lL,lO,lZ]at this ⊢);omega);simp only[jT,List.map,List.length]at H;refine H.mono ?_;clear H;rintro e w5 ⟨rfl,hW5,hK5⟩;have S5:=hI (S4.o.call hW5 hK5);clear S4 hW5 hK5;go_wp2
  first | go_end0 | refine bodyPost_ret (v:=.tuple #[]) (by simp[results,results129,go_sem]) rfl ?_
  exact⟨rfl,by simpa[List.append_assoc,qY,qG,qC,qO,zB,zD,zX,qE,kIf,zS,qA,qV,qF,qD,qP,qW,qN,zW,zM,qL,qM,qT,zK,zL,qH,zA]using S5.o.wr,S5.o.kp⟩
 case false =>
 simp only[hq4,bO,bP,bF,if_false,reduceIte]at he;cases hq5:(k == [97,115,115,101,114,116]);case true =>
  simp only[hq5,bU,bV,bT,if_true,reduceIte]at he;obtain rfl:k=[97,115,115,101,114,116]:=by simpa using hq5
  clear hq5;rcases ks with _ | ⟨a0,_ | ⟨b,r⟩⟩
  ·simp at he
  rotate_left
  ·simp at he
  simp only at he;obtain⟨hbare,he1⟩:=zN he;clear he;obtain⟨wsA,wrA,hA,hS,hxA⟩:=qK he1;subst hxA;clear he1;injection hS with hS;subst hS;obtain⟨ws1,wr1,hc1,hd1,hx1⟩:=qK hA;subst hx1;clear hA;injection hc1 with hc1;subst hc1;obtain⟨ws2,wr2,hc2,hd2,hx2⟩:=qK hd1;subst hx2;clear hd1;injection hd2 with hd2;subst hd2;obtain⟨g0,vc,hv,hR⟩:=hL.row (by simp[qQ.kids]);have HR:=hI hR;clear hR;simp only[qQ.kind,qQ.text,qQ.num,qQ.line,qQ.col,qQ.kids,List.length]at hv;subst hv;have S0:=hI (Sw.start hW hL);have HF:=hI hF;have HFL:=hI hFL;have HLEN:=hI hlen;have hBw:=hW.lt;have HFX:=hI hFx;have HFN:=hI hFn;clear hW hF hL hFL hlen hFk hFx hFn;try simp only[qZ,qS,qQ.kind,qQ.text,qQ.num,qQ.line,qQ.col,qQ.kids]at *
  go_enter func129,ntmps129
  obtain⟨c0,c1,c2,c3,c4,c5⟩:=S0.o.cells;have hszN:=S0.o.lt;go_wp2_with fail
  try clear c0 c1 c2 c3 c4 c5
  try clear hszN
  have HQ:=wB (t:=(.mk [97,115,115,101,114,116] x m ln co [a0])) (v:=.slice (some ⟨g0,0,none⟩) 1 vc) (lo:=1) (hi:=1) _ S0.o.wr.tab rfl hbare (by first | simp | omega | (have:=HFN.o;(try simp only[List.length]at this ⊢);omega)) (by first | simp | omega | (have:=HFN.o;(try simp only[List.length]at this ⊢);omega));simp only[qZ,qQ.kind,qQ.text,qQ.num,qQ.line,qQ.col,qQ.kids]at HQ;refine HQ.mono ?_;clear HQ;rintro e w3 ⟨rfl,hb3⟩;have S3:=hI (S0.o.below hb3);clear S0 hb3;obtain⟨c0,c1,c2,c3,c4,c5⟩:=S3.o.cells;have hszN:=S3.o.lt;go_wp2_with fail
  refine(jF _).mono ?_;rintro e w' ⟨rfl,rfl⟩;try clear c0 c1 c2 c3 c4 c5 hszN
  obtain⟨c0,c1,c2,c3,c4,c5⟩:=S3.o.cells;have hszN:=S3.o.lt;go_wp2_with fail
  try clear c0 c1 c2 c3 c4 c5
  try clear hszN
  have H:=jZ (S:=w3.1.size) [[97,115,115,101,114,116],[40]] S3.o.wr (by simp) (by simp) (by have:=HLEN.o;(try simp only[lL,lO,lZ]at this ⊢);omega);simp only[jT,List.map,List.length]at H;refine H.mono ?_;clear H;rintro e w4 ⟨rfl,hW4,hK4⟩;have S4:=hI (S3.o.call hW4 hK4);clear S3 hW4 hK4;obtain⟨qa,na,ca,hla,hca⟩:=(HR.o.keep S4.o.kp.below).2 0 (by simp);simp only[Nat.zero_add,Nat.zero_mul,Nat.one_mul,Nat.reduceAdd,Nat.reduceMul,List.getElem_cons_zero,List.getElem_cons_succ]at hla hca;have⟨k0,k1,k2,k3,k4,k5,_⟩:=hca.a;simp only[Nat.zero_add,Nat.zero_mul,Nat.one_mul,Nat.reduceAdd,Nat.reduceMul,List.getElem_cons_zero,List.getElem_cons_succ]at k0 k1 k2 k3 k4 k5;have HC:=hI (hex lo B (acc++[[97,115,115,101,114,116],[40]]) a0 (.slice qa na ca) _ ws2 S4.o.wr hla (HFL.o.mem _ (by simp)) hc2 (by have:=HLEN.o;(try simp only[lL,lO,lZ]at this ⊢);omega));clear hca hla;try simp only[qZ]at HC
  obtain⟨c0,c1,c2,c3,c4,c5⟩:=S4.o.cells;have hszN:=S4.o.lt;go_wp2_with fail
  try clear c0 c1 c2 c3 c4 c5
  try clear hszN
  try clear k0 k1 k2 k3 k4 k5
  refine(HC.o).mono ?_;rintro e w5 ⟨rfl,hW5,hK5⟩;have S5:=hI (S4.o.call hW5 hK5);clear S4 hW5 hK5 HC;obtain⟨c0,c1,c2,c3,c4,c5⟩:=S5.o.cells;have hszN:=S5.o.lt;go_wp2_with fail
  try clear c0 c1 c2 c3 c4 c5
  try clear hszN
  have H:=jZ (S:=w5.1.size) [[41]] S5.o.wr (by simp) (by simp) (by have:=HLEN.o;(try simp only[lL,lO,lZ]at this ⊢);omega);simp only[jT,List.map,List.length]at H;refine H.mono ?_;clear H;rintro e w6 ⟨rfl,hW6,hK6⟩;have S6:=hI (S5.o.call hW6 hK6);clear S5 hW6 hK6;obtain⟨c0,c1,c2,c3,c4,c5⟩:=S6.o.cells;have hszN:=S6.o.lt;go_wp2_with fail
  try clear c0 c1 c2 c3 c4 c5
  try clear hszN
  have H:=jZ (S:=w6.1.size) [[59]] S6.o.wr (by simp) (by simp) (by have:=HLEN.o;(try simp only[lL,lO,lZ]at this ⊢);omega);simp only[jT,List.map,List.length]at H;refine H.mono ?_;clear H;rintro e w7 ⟨rfl,hW7,hK7⟩;have S7:=hI (S6.o.call hW7 hK7);clear S6 hW7 hK7;go_wp2
  first | go_end0 | refine bodyPost_ret (v:=.tuple #[]) (by simp[results,results129,go_sem]) rfl ?_
  exact⟨rfl,by simpa[List.append_assoc,qY,qG,qC,qO,zB,zD,zX,qE,kIf,zS,qA,qV,qF,qD,qP,qW,qN,zW,zM,qL,qM,qT,zK,zL,qH,zA]using S7.o.wr,S7.o.kp⟩
 case false =>
 simp only[hq5,bO,bP,bF,if_false,reduceIte]at he;cases hq6:(k == [97,115,115,117,109,101]);case true =>
  simp only[hq6,bU,bV,bT,if_true,reduceIte]at he;obtain rfl:k=[97,115,115,117,109,101]:=by simpa using hq6
  clear hq6;rcases ks with _ | ⟨a0,_ | ⟨b,r⟩⟩
  ·simp at he
  rotate_left
  ·simp at he
  simp only at he;obtain⟨hbare,he1⟩:=zN he;clear he;obtain⟨wsA,wrA,hA,hS,hxA⟩:=qK he1;subst hxA;clear he1;injection hS with hS;subst hS;obtain⟨ws1,wr1,hc1,hd1,hx1⟩:=qK hA;subst hx1;clear hA;injection hc1 with hc1;subst hc1;obtain⟨ws2,wr2,hc2,hd2,hx2⟩:=qK hd1;subst hx2;clear hd1;injection hd2 with hd2;subst hd2;obtain⟨g0,vc,hv,hR⟩:=hL.row (by simp[qQ.kids]);have HR:=hI hR;clear hR;simp only[qQ.kind,qQ.text,qQ.num,qQ.line,qQ.col,qQ.kids,List.length]at hv;subst hv;have S0:=hI (Sw.start hW hL);have HF:=hI hF;have HFL:=hI hFL;have HLEN:=hI hlen;have hBw:=hW.lt;have HFX:=hI hFx;have HFN:=hI hFn;clear hW hF hL hFL hlen hFk hFx hFn;try simp only[qZ,qS,qQ.kind,qQ.text,qQ.num,qQ.line,qQ.col,qQ.kids]at *
  go_enter func129,ntmps129
  obtain⟨c0,c1,c2,c3,c4,c5⟩:=S0.o.cells;have hszN:=S0.o.lt;go_wp2_with fail
  try clear c0 c1 c2 c3 c4 c5
  try clear hszN
  have HQ:=wB (t:=(.mk [97,115,115,117,109,101] x m ln co [a0])) (v:=.slice (some ⟨g0,0,none⟩) 1 vc) (lo:=1) (hi:=1) _ S0.o.wr.tab rfl hbare (by first | simp | omega | (have:=HFN.o;(try simp only[List.length]at this ⊢);omega)) (by first | simp | omega | (have:=HFN.o;(try simp only[List.length]at this ⊢);omega));simp only[qZ,qQ.kind,qQ.text,qQ.num,qQ.line,qQ.col,qQ.kids]at HQ;refine HQ.mono ?_;clear HQ;rintro e w3 ⟨rfl,hb3⟩;have S3:=hI (S0.o.below hb3);clear S0 hb3;obtain⟨c0,c1,c2,c3,c4,c5⟩:=S3.o.cells;have hszN:=S3.o.lt;go_wp2_with fail
  refine(jF _).mono ?_;rintro e w' ⟨rfl,rfl⟩;try clear c0 c1 c2 c3 c4 c5 hszN
  obtain⟨c0,c1,c2,c3,c4,c5⟩:=S3.o.cells;have hszN:=S3.o.lt;go_wp2_with fail
  try clear c0 c1 c2 c3 c4 c5
  try clear hszN
  have H:=jZ (S:=w3.1.size) [[97,115,115,117,109,101],[40]] S3.o.wr (by simp) (by simp) (by have:=HLEN.o;(try simp only[lL,lO,lZ]at this ⊢);omega);simp only[jT,List.map,List.length]at H;refine H.mono ?_;clear H;rintro e w4 ⟨rfl,hW4,hK4⟩;have S4:=hI (S3.o.call hW4 hK4);clear S3 hW4 hK4;obtain⟨qa,na,ca,hla,hca⟩:=(HR.o.keep S4.o.kp.below).2 0 (by simp);simp only[Nat.zero_add,Nat.zero_mul,Nat.one_mul,Nat.reduceAdd,Nat.reduceMul,List.getElem_cons_zero,List.getElem_cons_succ]at hla hca;have⟨k0,k1,k2,k3,k4,k5,_⟩:=hca.a;simp only[Nat.zero_add,Nat.zero_mul,Nat.one_mul,Nat.reduceAdd,Nat.reduceMul,List.getElem_cons_zero,List.getElem_cons_succ]at k0 k1 k2 k3 k4 k5;have HC:=hI (hex lo B (acc++[[97,115,115,117,109,101],[40]]) a0 (.slice qa na ca) _ ws2 S4.o.wr hla (HFL.o.mem _ (by simp)) hc2 (by have:=HLEN.o;(try simp only[lL,lO,lZ]at this ⊢);omega));clear hca hla;try simp only[qZ]at HC
  obtain⟨c0,c1,c2,c3,c4,c5⟩:=S4.o.cells;have hszN:=S4.o.lt;go_wp2_with fail
  try clear c0 c1 c2 c3 c4 c5
  try clear hszN
  try clear k0 k1 k2 k3 k4 k5
  refine(HC.o).mono ?_;rintro e w5 ⟨rfl,hW5,hK5⟩;have S5:=hI (S4.o.call hW5 hK5);clear S4 hW5 hK5 HC;obtain⟨c0,c1,c2,c3,c4,c5⟩:=S5.o.cells;have hszN:=S5.o.lt;go_wp2_with fail
  try clear c0 c1 c2 c3 c4 c5
  try clear hszN
  have H:=jZ (S:=w5.1.size) [[41]] S5.o.wr (by simp) (by simp) (by have:=HLEN.o;(try simp only[lL,lO,lZ]at this ⊢);omega);simp only[jT,List.map,List.length]at H;refine H.mono ?_;clear H;rintro e w6 ⟨rfl,hW6,hK6⟩;have S6:=hI (S5.o.call hW6 hK6);clear S5 hW6 hK6;obtain⟨c0,c1,c2,c3,c4,c5⟩:=S6.o.cells;have hszN:=S6.o.lt;go_wp2_with fail
  try clear c0 c1 c2 c3 c4 c5
  try clear hszN
  have H:=jZ (S:=w6.1.size) [[59]] S6.o.wr (by simp) (by simp) (by have:=HLEN.o;(try simp only[lL,lO,lZ]at this ⊢);omega);simp only[jT,List.map,List.length]at H;refine H.mono ?_;clear H;rintro e w7 ⟨rfl,hW7,hK7⟩;have S7:=hI (S6.o.call hW7 hK7);clear S6 hW7 hK7;go_wp2
  first | go_end0 | refine bodyPost_ret (v:=.tuple #[]) (by simp[results,results129,go_sem]) rfl ?_
  exact⟨rfl,by simpa[List.append_assoc,qY,qG,qC,qO,zB,zD,zX,qE,kIf,zS,qA,qV,qF,qD,qP,qW,qN,zW,zM,qL,qM,qT,zK,zL,qH,zA]using S7.o.wr,S7.o.kp⟩
 case false =>
 simp only[hq6,bO,bP,bF,if_false,reduceIte]at he;obtain⟨ws1,wr1,hc1,hd1,hx1⟩:=qK he;subst hx1;clear he;injection hd1 with hd1;subst hd1;obtain⟨q0,vc,hv,hvc,hvm⟩:=hL.shape;simp only[qQ.kind,qQ.text,qQ.num,qQ.line,qQ.col,qQ.kids,List.length]at hv;subst hv;have S0:=hI (Sw.start hW hL);have HF:=hI hF;have HFL:=hI hFL;have HLEN:=hI hlen;have hBw:=hW.lt;have HFX:=hI hFx;have HFN:=hI hFn;clear hW hF hL hFL hlen hFk hFx hFn;try simp only[qZ,qS,qQ.kind,qQ.text,qQ.num,qQ.line,qQ.col,qQ.kids]at *
 go_enter func129,ntmps129
 have HC:=hI ((gift_w rec hex) lo B acc (.mk k x m ln co ks) _ _ ws1 S0.o.wr S0.o.li HF.o hc1 (by have:=HLEN.o;(try simp only[lL,lO,lZ]at this ⊢);omega));try simp only[qZ,qQ.kind,qQ.text,qQ.num,qQ.line,qQ.col,qQ.kids]at HC
 obtain⟨c0,c1,c2,c3,c4,c5⟩:=S0.o.cells;have hszN:=S0.o.lt;go_wp2_with fail
 try clear c0 c1 c2 c3 c4 c5
 try clear hszN
 refine(HC.o).mono ?_;rintro e w2 ⟨rfl,hW2,hK2⟩;have S2:=hI (S0.o.call hW2 hK2);clear S0 hW2 hK2 HC;obtain⟨c0,c1,c2,c3,c4,c5⟩:=S2.o.cells;have hszN:=S2.o.lt;go_wp2_with fail
 try clear c0 c1 c2 c3 c4 c5
 try clear hszN
 have H:=jZ (S:=w2.1.size) [[59]] S2.o.wr (by simp) (by simp) (by have:=HLEN.o;(try simp only[lL,lO,lZ]at this ⊢);omega);simp only[jT,List.map,List.length]at H;refine H.mono ?_;clear H;rintro e w3 ⟨rfl,hW3,hK3⟩;have S3:=hI (S2.o.call hW3 hK3);clear S2 hW3 hK3;go_wp2
 first | go_end0 | refine bodyPost_ret (v:=.tuple #[]) (by simp[results,results129,go_sem]) rfl ?_
 exact⟨rfl,by simpa[List.append_assoc,qY,qG,qC,qO,zB,zD,zX,qE,kIf,zS,qA,qV,qF,qD,qP,qW,qN,zW,zM,qL,qM,qT,zK,zL,qH,zA]using S3.o.wr,S3.o.kp⟩
def ManyRel(lo B N:Nat)(acc:List (List UInt8))(t:qQ)(v:Value)(p:qQ->Ws)(ts:List qQ)(ws:List (List UInt8))(w:World)(i:Value)(wr:World):Prop :=
 ∃ (k:Nat) (pre post:List (List UInt8)),k<=ts.length/\i=.int .i64 k/\ws=pre++post/\qZP p (ts.drop k)=some post/\Sw w lo B N (acc++pre) t v wr
theorem qPP(p:qQ->Ws)(ts:List qQ){i:Nat}(h:i<=ts.length)(h':¬i < ts.length):qZP p (ts.drop i)=some []:=by
 have:i=ts.length:=by omega
 rw[this,List.drop_length];rfl
theorem qUi{p:qQ->Ws}{ts:List qQ}{i:Nat}(h:i < ts.length){ws:List (List UInt8)}(he:qZP p (ts.drop i)=some ws):∃ a b,p ts[i]=some a/\qZP p (ts.drop (i+1))=some b/\ws=a++b:=by
 rw[List.drop_eq_getElem_cons h]at he;exact qK (show jD (p ts[i]) (qZP p (ts.drop (i+1)))=some ws from he)
theorem block_w(rec:WT->qQ->Ws)(hst:kZ 129 (fun p n=>#[p,n]) (qJr rec)):kZ 116 (fun p n=>#[p,n]) (qVv rec):=by
 intro lo B acc t v w ws hW hL hF he hlen;obtain⟨k,x,m,ln,co,ks⟩:=t;obtain⟨hFk,hFx,hFm0,hFm1,hFn,hFL⟩:=id hF;simp only[qVv,qY,qG,qC,qO,zB,zD,zX,qE,kIf,zS,qA,qV,qF,qD,qP,qW,qN,zW,zM,qL,qM,qT,zK,zL,qH,zA,qQ.kind,qQ.text,qQ.num,qQ.line,qQ.col,qQ.kids]at he;obtain⟨hb,he1⟩:=zN he;clear he;simp only[bE,beq_iff_eq]at hb;obtain⟨rfl,hbare⟩:=hb;obtain⟨ws1,wr1,hc1,hd1,hx1⟩:=qK he1;subst hx1;clear he1;injection hc1 with hc1;subst hc1;obtain⟨ws2,wr2,hc2,hd2,hx2⟩:=qK hd1;subst hx2;clear hd1;injection hd2 with hd2;subst hd2;obtain⟨q0,vc,hv,hvc,hvm,hka⟩:=hL.kids;have HKA:=hI hka;clear hka;simp only[qQ.kind,qQ.text,qQ.num,qQ.line,qQ.col,qQ.kids,List.length]at hv;subst hv;have S0:=hI (Sw.start hW hL);have HF:=hI hF;have HFL:=hI hFL;have HLEN:=hI hlen;have hBw:=hW.lt;have HFX:=hI hFx;have HFN:=hI hFn;clear hW hF hL hFL hlen hFk hFx hFn;try simp only[qZ,qS,qQ.kind,qQ.text,qQ.num,qQ.line,qQ.col,qQ.kids]at *
 have HEM:=hI hc2;clear hc2;have hmf:=zT;go_enter func116,ntmps116
 obtain⟨c0,c1,c2,c3,c4,c5⟩:=S0.o.cells;have hszN:=S0.o.lt;go_wp2_with fail
 try clear c0 c1 c2 c3 c4 c5
 try clear hszN
 have HQ:=wB (t:=(.mk [98,108,111,99,107] x m ln co ks)) (v:=.slice q0 ks.length vc) (lo:=0) (hi:=9223372036854775807) _ S0.o.wr.tab rfl hbare (by first | simp | omega | (have:=HFN.o;(try simp only[List.length]at this ⊢);omega)) (by first | simp | omega | (have:=HFN.o;(try simp only[List.length]at this ⊢);omega));simp only[qZ,qQ.kind,qQ.text,qQ.num,qQ.line,qQ.col,qQ.kids]at HQ;refine HQ.mono ?_;clear HQ;rintro e w3 ⟨rfl,hb3⟩;have S3:=hI (S0.o.below hb3);clear S0 hb3;obtain⟨c0,c1,c2,c3,c4,c5⟩:=S3.o.cells;have hszN:=S3.o.lt;go_wp2_with fail
 refine(jF _).mono ?_;rintro e w' ⟨rfl,rfl⟩;try clear c0 c1 c2 c3 c4 c5 hszN
 obtain⟨c0,c1,c2,c3,c4,c5⟩:=S3.o.cells;have hszN:=S3.o.lt;go_wp2_with fail
 try clear c0 c1 c2 c3 c4 c5
 try clear hszN
 have H:=jZ (S:=w3.1.size) [[123]] S3.o.wr (by simp) (by simp) (by have:=HLEN.o;(try simp only[lL,lO,lZ]at this ⊢);omega);simp only[jT,List.map,List.length]at H;refine H.mono ?_;clear H;rintro e w4 ⟨rfl,hW4,hK4⟩;have S4:=hI (S3.o.call hW4 hK4);clear S3 hW4 hK4;obtain⟨c0,c1,c2,c3,c4,c5⟩:=S4.o.cells;have hszN:=S4.o.lt;go_wp2_with fail
 try clear c0 c1 c2 c3 c4 c5
 try clear hszN
 go_loopw [20] (fun i wr=>ManyRel lo B w.1.size (acc++[[123]]) (.mk [98,108,111,99,107] x m ln co ks) (.slice q0 ks.length vc) (qJr rec) ks ws2 w i wr) (fun i _=>ks.length - (intOf i).toNat)
 case atStart=>exact⟨0,[],ws2,Nat.zero_le _,rfl,rfl,HEM.o,by simpa using S4.o⟩
 case round =>
  have hn:=HFN.o;obtain⟨i,pre,post,hk,rfl,hws,hpost,hS⟩:=hrel;have HWS:=hI hws;have HPO:=hI hpost;have SR:=hI hS;clear hws hpost hS S4;by_cases hlt:i < ks.length
  ·have hne:ks≠[]:=fun e=>by rw[e]at hlt;simp at hlt
   obtain⟨g1,off,rfl,hR⟩:=(HKA.o.keep SR.o.kp.below).resolve_left hne;obtain⟨qa,na,ca,hla,hca⟩:=hR.2 i hlt;have⟨k0,k1,k2,k3,k4,k5,_⟩:=hca.a;have HLA:=hI hla;have hneat:=hI (qZn.mem HFL.o ks[i] (List.getElem_mem _));have T0:=hI (Hn.new ks[i] (.slice qa na ca) wr);have S1:=hI (SR.o.alloc (.cells (qS ks[i] (.slice qa na ca)).toArray 57));have hBr:=SR.o.wr.lt;have HLL:=hI (HLA.o.keep (((Below.refl _ _).alloc (Nat.le_refl _) (.cells (qS ks[i] (.slice qa na ca)).toArray 57)).mono (Nat.le_of_lt hBr)));obtain⟨a,b,ha,hb,hpe⟩:=qUi hlt HPO.o;have HA:=hI ha;have HB:=hI hb;have HPE:=hI hpe;have hlen:(((acc++[[123]])++pre)++a).length<=1000000000:=by have:=HLEN.o;rw[HWS.o,hpe]at this;simp only[lL,lO,lZ]at this ⊢;omega
   have HLEN2:=hI hlen;clear hca hla hR hne HLA ha hb hpe hlen SR;generalize hu:ks[i]=u at *;simp only[qS,qZ]at *;have HC:=hI (hst lo B ((acc++[[123]])++pre) u (.slice qa na ca) _ a S1.o.wr HLL.o hneat.o HA.o (by have:=HLEN2.o;simpa only[lL]using this));try simp only[qZ]at HC
   obtain⟨c0,c1,c2,c3,c4,c5⟩:=S1.o.cells;go_wp2_with fail
   clear c0 c1 c2 c3 c4 c5;refine(HC.o).mono ?_;rintro e w5 ⟨rfl,hW5,hK5⟩;have S5:=hI (S1.o.call hW5 hK5);clear hW5 hK5 HC S1 T0 k0 k1 k2 k3 k4 k5;go_wp2
   go_roundw
   case rel=>exact⟨i+1,pre++a,b,by omega,by go_num,by rw[HWS.o,HPE.o,List.append_assoc],HB.o,by simpa[List.append_assoc]using S5.o⟩
   case measure=>simp[intOf];omega
  ·have hp0:post=[]:=by have h:=HPO.o;rw[qPP _ ks hk hlt]at h;injection h with h;exact h.symm
   have hws:=HWS.o;rw[hp0,lA]at hws;subst hws;have S2:=SR;clear SR hp0;obtain⟨c0,c1,c2,c3,c4,c5⟩:=S2.o.cells;have hszN:=S2.o.lt;go_wp2_with fail
   try clear c0 c1 c2 c3 c4 c5
   try clear hszN
   have H:=jZ (S:=wr.1.size) [[125]] S2.o.wr (by simp) (by simp) (by have:=HLEN.o;(try simp only[lL,lO,lZ]at this ⊢);omega);simp only[jT,List.map,List.length]at H;refine H.mono ?_;clear H;rintro e w5 ⟨rfl,hW5,hK5⟩;have S5:=hI (S2.o.call hW5 hK5);clear S2 hW5 hK5;go_wp2
   first | go_end0 | refine bodyPost_ret (v:=.tuple #[]) (by simp[results,results116,go_sem]) rfl ?_
   exact⟨rfl,by simpa[List.append_assoc,qY,qG,qC,qO,zB,zD,zX,qE,kIf,zS,qA,qV,qF,qD,qP,qW,qN,zW,zM,qL,qM,qT,zK,zL,qH,zA]using S5.o.wr,S5.o.kp⟩
theorem param_w(hd:kZ 112 (fun p n=>#[p,n, .bool false]) (vY false)):kZ 115 (fun p n=>#[p,n]) (qZ1):=by
 intro lo B acc t v w ws hW hL hF he hlen;obtain⟨k,x,m,ln,co,ks⟩:=t;obtain⟨hFk,hFx,hFm0,hFm1,hFn,hFL⟩:=id hF;simp only[qZ1,qY,qG,qC,qO,zB,zD,zX,qE,kIf,zS,qA,qV,qF,qD,qP,qW,qN,zW,zM,qL,qM,qT,zK,zL,qH,zA,qQ.kind,qQ.text,qQ.num,qQ.line,qQ.col,qQ.kids]at he;obtain⟨hb,he1⟩:=zN he;clear he;simp only[bE,beq_iff_eq]at hb;obtain⟨⟨rfl,hnm⟩,hl⟩:=hb;obtain⟨a0,rfl⟩:=List.length_eq_one_iff.1 hl;clear hl;obtain⟨g0,vc,hv,hR⟩:=hL.row (by simp[qQ.kids]);have HR:=hI hR;clear hR;simp only[qQ.kind,qQ.text,qQ.num,qQ.line,qQ.col,qQ.kids,List.length]at hv;subst hv;have S0:=hI (Sw.start hW hL);have HF:=hI hF;have HFL:=hI hFL;have HLEN:=hI hlen;have hBw:=hW.lt;have HFX:=hI hFx;have HFN:=hI hFn;clear hW hF hL hFL hlen hFk hFx hFn;try simp only[qZ,qS,qQ.kind,qQ.text,qQ.num,qQ.line,qQ.col,qQ.kids]at *
 go_enter func115,ntmps115
 obtain⟨c0,c1,c2,c3,c4,c5⟩:=S0.o.cells;have hszN:=S0.o.lt;go_wp2_with fail
 try clear c0 c1 c2 c3 c4 c5
 try clear hszN
 have HQ:=qZg (t:=(.mk [112,97,114,97,109] x m ln co [a0])) (v:=.slice (some ⟨g0,0,none⟩) 1 vc) (lo:=1) (hi:=1) _ S0.o.wr.tab HFX.o rfl hnm (by first | simp | omega | (have:=HFN.o;(try simp only[List.length]at this ⊢);omega)) (by first | simp | omega | (have:=HFN.o;(try simp only[List.length]at this ⊢);omega));simp only[qZ,qQ.kind,qQ.text,qQ.num,qQ.line,qQ.col,qQ.kids]at HQ;refine HQ.mono ?_;clear HQ;rintro e w1 ⟨rfl,hb1⟩;have S1:=hI (S0.o.below hb1);clear S0 hb1;obtain⟨c0,c1,c2,c3,c4,c5⟩:=S1.o.cells;have hszN:=S1.o.lt;go_wp2_with fail
 refine(jF _).mono ?_;rintro e w' ⟨rfl,rfl⟩;try clear c0 c1 c2 c3 c4 c5 hszN
 have HC:=hI (hd lo B acc (.mk [112,97,114,97,109] x m ln co [a0]) _ _ ws S1.o.wr S1.o.li HF.o he1 (by have:=HLEN.o;(try simp only[lL,lO,lZ]at this ⊢);omega));try simp only[qZ,qQ.kind,qQ.text,qQ.num,qQ.line,qQ.col,qQ.kids]at HC
 obtain⟨c0,c1,c2,c3,c4,c5⟩:=S1.o.cells;have hszN:=S1.o.lt;go_wp2_with fail
 try clear c0 c1 c2 c3 c4 c5
 try clear hszN
 refine(HC.o).mono ?_;rintro e w2 ⟨rfl,hW2,hK2⟩;have S2:=hI (S1.o.call hW2 hK2);clear S1 hW2 hK2 HC;go_wp2
 first | go_end0 | refine bodyPost_ret (v:=.tuple #[]) (by simp[results,results115,go_sem]) rfl ?_
 exact⟨rfl,by simpa[List.append_assoc,qY,qG,qC,qO,zB,zD,zX,qE,kIf,zS,qA,qV,qF,qD,qP,qW,qN,zW,zM,qL,qM,qT,zK,zL,qH,zA]using S2.o.wr,S2.o.kp⟩
theorem qL7(rec:WT->qQ->Ws)(hbl:kZ 116 (fun p n=>#[p,n]) (rec .block)):kZ 94 (fun p n=>#[p,n]) (kA rec):=by
 intro lo B acc t v w ws hW hL hF he hlen;obtain⟨k,x,m,ln,co,ks⟩:=t;obtain⟨hFk,hFx,hFm0,hFm1,hFn,hFL⟩:=id hF;simp only[kA,qY,qG,qC,qO,zB,zD,zX,qE,kIf,zS,qA,qV,qF,qD,qP,qW,qN,zW,zM,qL,qM,qT,zK,zL,qH,zA,qQ.kind,qQ.text,qQ.num,qQ.line,qQ.col,qQ.kids]at he;rcases ks with _ | ⟨a0,_ | ⟨a1,r⟩⟩
 ·simp at he
 ·simp at he
 simp only at he;obtain⟨hnm,he1⟩:=zN he;clear he;obtain⟨ws1,wr1,hc1,hd1,hx1⟩:=qK he1;subst hx1;clear he1;obtain⟨ws2,wr2,hc2,hd2,hx2⟩:=qK hd1;subst hx2;clear hd1;injection hc2 with hc2;subst hc2;obtain⟨ws3,wr3,hc3,hd3,hx3⟩:=qK hd2;subst hx3;clear hd2;obtain⟨ws4,wr4,hc4,hd4,hx4⟩:=qK hd3;subst hx4;clear hd3;injection hc4 with hc4;subst hc4;have hsh:=hL.shape;obtain⟨g0,vc,hv,hR⟩:=hL.row (by simp[qQ.kids]);have HR:=hI hR;clear hR;simp only[qQ.kind,qQ.text,qQ.num,qQ.line,qQ.col,qQ.kids,List.length]at hv;subst hv;have S0:=hI (Sw.start hW hL);have HF:=hI hF;have HFL:=hI hFL;have HLEN:=hI hlen;have hBw:=hW.lt;have HFX:=hI hFx;have HFN:=hI hFn;clear hW hF hL hFL hlen hFk hFx hFn;try simp only[qZ,qS,qQ.kind,qQ.text,qQ.num,qQ.line,qQ.col,qQ.kids]at *
 have hmf:=zT;obtain⟨q9,c9,e9,hvc9,hvm9⟩:=hsh;injection e9 with e91 e92 e93;subst e93;simp only[List.length]at hvc9;clear e91 e92;have hn:=HFN.o;simp only[List.length]at hn;have hw1:wrap64 ((r.length:Int)+1)=(r.length:Int)+1:=by unfold wrap64;omega
 have hi1:(1:Int)<=(r.length:Int)+1:=by omega
 have hi2:(r.length:Int)+1<=(vc:Int):=by omega
 have hi3:(1:Int)<=(vc:Int):=by omega
 have hi4:¬(r.length:Int)+1 < 0:=by omega
 have hi5:(r.length:Int)+1 < (r.length:Int)+1+1:=by omega
 go_enter func94,ntmps94
 obtain⟨c0,c1,c2,c3,c4,c5⟩:=S0.o.cells;have hszN:=S0.o.lt;go_wp2_with fail
 try clear c0 c1 c2 c3 c4 c5
 try clear hszN
 have HQ:=qZg (t:=(.mk k x m ln co (a0 :: a1 :: r))) (v:=.slice (some ⟨g0,0,none⟩) (r.length+1+1) vc) (lo:=2) (hi:=9223372036854775807) _ S0.o.wr.tab HFX.o rfl hnm (by first | (simp;done) | omega | (have:=HFN.o;(try simp only[List.length]at this ⊢);omega)) (by first | (simp;done) | omega | (have:=HFN.o;(try simp only[List.length]at this ⊢);omega));simp only[qZ,qQ.kind,qQ.text,qQ.num,qQ.line,qQ.col,qQ.kids]at HQ;refine HQ.mono ?_;clear HQ;rintro e w5 ⟨rfl,hb5⟩;have S5:=hI (S0.o.below hb5);clear S0 hb5;obtain⟨c0,c1,c2,c3,c4,c5⟩:=S5.o.cells;have hszN:=S5.o.lt;go_wp2_with fail
 refine(jF _).mono ?_;rintro e w' ⟨rfl,rfl⟩;try clear c0 c1 c2 c3 c4 c5 hszN
 have HC:=hI ((qXn true) lo B acc (.mk k x m ln co (a0 :: a1 :: r)) _ _ ws1 S5.o.wr S5.o.li HF.o hc1 (by have:=HLEN.o;(try simp only[lL,lO,lZ]at this ⊢);omega));try simp only[qZ,qQ.kind,qQ.text,qQ.num,qQ.line,qQ.col,qQ.kids]at HC
 obtain⟨c0,c1,c2,c3,c4,c5⟩:=S5.o.cells;have hszN:=S5.o.lt;go_wp2_with fail
 try clear c0 c1 c2 c3 c4 c5
 try clear hszN
 refine(HC.o).mono ?_;rintro e w6 ⟨rfl,hW6,hK6⟩;have S6:=hI (S5.o.call hW6 hK6);clear S5 hW6 hK6 HC;obtain⟨c0,c1,c2,c3,c4,c5⟩:=S6.o.cells;have hszN:=S6.o.lt;go_wp2_with fail
 try clear c0 c1 c2 c3 c4 c5
 try clear hszN
 have H:=jZ (S:=w6.1.size) [[40]] S6.o.wr (by simp) (by simp) (by have:=HLEN.o;(try simp only[lL,lO,lZ]at this ⊢);omega);simp only[jT,List.map,List.length]at H;refine H.mono ?_;clear H;rintro e w7 ⟨rfl,hW7,hK7⟩;have S7:=hI (S6.o.call hW7 hK7);clear S6 hW7 hK7;have hdl:((a1 :: r).dropLast).length=r.length:=by simp
 have hsub:∀ i (hi:i < ((a1 :: r).dropLast).length),∃ h:1+i < (a0 :: a1 :: r).length,(a0 :: a1 :: r)[1+i]=((a1 :: r).dropLast)[i]:=fun i hi=>⟨by rw[hdl]at hi;simp;omega,by rw[List.getElem_dropLast];simp[Nat.add_comm 1 i]⟩
 have HC:=qWO 115 qZ1 (fun _ _=>rfl) (param_w (qXn false)) lo B ((acc++ws1)++[[40]]) ((a1 :: r).dropLast) (some ⟨g0,6,none⟩) (vc - 1) _ ws3 S7.o.wr (.inr ⟨g0,6,rfl,(HR.o.keep S7.o.kp.below).sub _ 1 hsub⟩) (by rw[hdl];omega) (qZn.of fun t ht=>qZn.mem HFL.o t (List.mem_cons_of_mem _ (List.dropLast_subset _ ht))) hc3 (by have:=HLEN.o;(try simp only[lL,lO,lZ]at this ⊢);omega);rw[hdl]at HC;have HC:=hI HC;clear hdl hsub;obtain⟨c0,c1,c2,c3,c4,c5⟩:=S7.o.cells;have hszN:=S7.o.lt;go_wp2_with fail
 try clear c0 c1 c2 c3 c4 c5
 try clear hszN
 refine(HC.o).mono ?_;rintro e w8 ⟨rfl,hW8,hK8⟩;have S8:=hI (S7.o.call hW8 hK8);clear S7 hW8 hK8 HC;obtain⟨c0,c1,c2,c3,c4,c5⟩:=S8.o.cells;have hszN:=S8.o.lt;go_wp2_with fail
 try clear c0 c1 c2 c3 c4 c5
 try clear hszN
 have H:=jZ (S:=w8.1.size) [[41]] S8.o.wr (by simp) (by simp) (by have:=HLEN.o;(try simp only[lL,lO,lZ]at this ⊢);omega);simp only[jT,List.map,List.length]at H;refine H.mono ?_;clear H;rintro e w9 ⟨rfl,hW9,hK9⟩;have S9:=hI (S8.o.call hW9 hK9);clear S8 hW9 hK9;obtain⟨qa,na,ca,hla,hca⟩:=(HR.o.keep S9.o.kp.below).2 (r.length+1) (by simp);have hgl:(a0 :: a1 :: r)[r.length+1]'(by simp)=(a1 :: r).getLast (List.cons_ne_nil a1 r):=by rw[List.getLast_eq_getElem];simp
 rw[hgl]at hla hca;have hng:qZl ((a1 :: r).getLast (List.cons_ne_nil a1 r)):=qZn.mem HFL.o _ (List.mem_cons_of_mem _ (List.getLast_mem _));generalize (a1 :: r).getLast (List.cons_ne_nil a1 r)=y at *;have⟨k0,k1,k2,k3,k4,k5,_⟩:=hca.a;simp only[Nat.zero_add]at k0 k1 k2 k3 k4 k5;have HC:=hI (hbl lo B ((((acc++ws1)++[[40]])++ws3)++[[41]]) y (.slice qa na ca) _ wr4 S9.o.wr hla hng hd4 (by have:=HLEN.o;(try simp only[lL,lO,lZ]at this ⊢);omega));clear hca hla;try simp only[qZ]at HC
 obtain⟨c0,c1,c2,c3,c4,c5⟩:=S9.o.cells;have hszN:=S9.o.lt;go_wp2_with fail
 try clear c0 c1 c2 c3 c4 c5
 try clear hszN
 try clear k0 k1 k2 k3 k4 k5
 refine(HC.o).mono ?_;rintro e w10 ⟨rfl,hW10,hK10⟩;have S10:=hI (S9.o.call hW10 hK10);clear S9 hW10 hK10 HC;go_wp2
 first | go_end0 | refine bodyPost_ret (v:=.tuple #[]) (by simp[results,results94,go_sem]) rfl ?_
 exact⟨rfl,by simpa[List.append_assoc,qY,qG,qC,qO,zB,zD,zX,qE,kIf,zS,qA,qV,qF,qD,qP,qW,qN,zW,zM,qL,qM,qT,zK,zL,qH,zA]using S10.o.wr,S10.o.kp⟩
end Go.Proofs.YtiajhekdhhhghaaGreatDoor
